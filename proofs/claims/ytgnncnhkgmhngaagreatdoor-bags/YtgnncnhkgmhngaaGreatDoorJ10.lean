import Derived.Test.YtgnncnhkgmhngaaGreatDoorJ05
import Derived.Laws.AppendOwn
import Derived.Below
set_option maxHeartbeats 1000000
namespace Go.Proofs.YtgnncnhkgmhngaaGreatDoor
open Sp
open Go.RowKit
theorem bO {w:World} {base:Nat} {e:TypeId} {size g n cap:Nat} {xs:List Value} (h:w.ownsRow base e size (.slice (some ⟨g,0,none⟩) n cap) n xs):∀ j u,xs[j]?=some u->w.cell? ⟨g,j,none⟩=some u:=by
 obtain ⟨hl,h | ⟨g',cap',cur,hv,_,hb,_,_,_,ht⟩⟩:=h
 ·cases h.1
 ·injection hv with h1 h2 h3
  injection h1 with h1
  injection h1 with h1
  subst h1
  intro j u hj
  have hlt:j<xs.length:=(List.getElem?_eq_some_iff.1 hj).1
  rw [<- ht,List.getElem?_take_of_lt (by omega)] at hj
  simp [World.cell?,hb]
  simpa using hj
theorem gC {w:World} {base:Nat} {e:TypeId} {size g n cap:Nat} {xs:List Value} (h:w.ownsRow base e size (.slice (some ⟨g,0,none⟩) n cap) n xs):base<=g/\g<w.heap.size:=by
 obtain ⟨hl,h | ⟨g',cap',cur,hv,h0,hb,_,_,_,ht⟩⟩:=h
 ·cases h.1
 ·injection hv with h1 h2 h3
  injection h1 with h1
  injection h1 with h1
  subst h1
  refine ⟨h0,?_⟩
  rcases Nat.lt_or_ge g w.heap.size with x | x
  ·exact x
  ·rw [Array.getElem?_eq_none x] at hb;cases hb
theorem aV {w w' : World} {base:Nat} {e:TypeId} {size g n cap:Nat} {xs:List Value} (h:w.ownsRow base e size (.slice (some ⟨g,0,none⟩) n cap) n xs) (hk:w'.heap[g]?=w.heap[g]?):w'.ownsRow base e size (.slice (some ⟨g,0,none⟩) n cap) n xs:=by
 obtain ⟨hl,h | ⟨g',cap',cur,hv,h0,hb,r⟩⟩:=h
 ·cases h.1
 ·injection hv with h1 h2 h3
  injection h1 with h1
  injection h1 with h1
  subst h1 h3
  exact ⟨hl, .inr ⟨g,cap,cur,rfl,h0,hk.trans hb,r⟩⟩
theorem aH {w w' : World} {base:Nat} {e:TypeId} {size:Nat} {v:Value} {n:Nat} {xs:List Value} (h:w.ownsRow base e size v n xs) (hb:Below w.heap.size w w'):w'.ownsRow base e size v n xs:=by
 obtain ⟨h1,h2⟩:=h
 refine ⟨h1,?_⟩
 rcases h2 with h | ⟨g,cap,cur,hv,hg,hc,r⟩
 ·exact Or.inl h
 ·refine Or.inr ⟨g,cap,cur,hv,hg,?_,r⟩
  have hlt:g<w.heap.size:=by
   rcases Nat.lt_or_ge g w.heap.size with x | x
   ·exact x
   ·rw [Array.getElem?_eq_none x] at hc;cases hc
  rw [hb.block g hlt];exact hc
theorem aB {w:World} {base:Nat} {e:TypeId} {size:Nat} {v:Value} {n:Nat} {xs:List Value} (h:w.ownsRow base e size v n xs):∀ k,v.ownBlock=some k->base<=k/\k<w.heap.size:=by
 intro k hk
 rcases h.2 with ⟨rfl,_⟩ | ⟨g,cap,cur,rfl,hg,hc,_⟩
 ·cases hk
 ·have:g=k:=by simpa [Value.ownBlock] using hk
  subst this
  refine ⟨hg,?_⟩
  rcases Nat.lt_or_ge g w.heap.size with x | x
  ·exact x
  ·rw [Array.getElem?_eq_none x] at hc;cases hc
theorem wK {w:World} {base:Nat} {e:TypeId} {v:Value} {n:Nat} {xs:List Value} (h:w.ownsRow base e 1 v n xs) {g:Nat} (hg:v.ownBlock=some g) (i:Nat) (hi:i<xs.length):w.cell? ⟨g,i,none⟩=some xs[i]:=by
 rcases h.2 with ⟨rfl,_⟩ | ⟨g',cap,cur,rfl,_,hc,_,_,_,ht⟩
 ·cases hg
 ·have:g'=g:=by simpa [Value.ownBlock] using hg
  subst this
  have hl:=h.1
  have e1:xs[i]?=some xs[i]:=rI hi
  generalize xs[i]=u at e1 ⊢
  rw [<- ht,List.getElem?_take] at e1
  simp only [World.cell?,hc]
  split at e1
  ·simpa using e1
  ·cases e1
theorem new1 (w:World) (x:Value) (t:TypeId):∀ j u, [x][j]?=some u->(w.alloc (.cells #[x] t)).cell? (Addr.add ⟨w.heap.size,0,none⟩ j)=some u:=by
 intro j u hj
 have e:Addr.add ⟨w.heap.size,0,none⟩ j=⟨w.heap.size,j,none⟩:=by
  simp only [Addr.add,Nat.zero_add];split
  ·rename_i h;rw [h]
  ·rfl
 rw [e,oZ,<- hj]
 cases j <;> rfl
structure TW (l:Sp.Bs) (wd:Sp.Bs):Prop where
 eq:(Sp.first l).1 ≠ .bad->wd=l.take (Sp.first l).2
 ok:∀ x∈iS,(wd == x)=((Sp.first l).1 == .key&&l.take (Sp.first l).2 == x)
theorem EU:∀ x∈iS,x ≠ []:=by decide
theorem wL:∀ x∈iS,bV (x.headD 0)=false/\(x.headD 0 == 39)=false:=by decide
theorem Ga:∀ x∈iS,iP (x.headD 0)=true->keys.contains x=true:=by decide
theorem TW.empty {l:Sp.Bs} (h:(Sp.first l).1 = .fin\/(Sp.first l).1 = .bad) (h0:(Sp.first l).1 ≠ .bad->(Sp.first l).2=0):TW l []:=by
 refine ⟨λhb=>by rw [h0 hb];rfl,λx hx=>?_⟩
 have:=EU x hx
 rcases h with h | h <;> rw [h] <;> cases x <;> simp_all
theorem TW.key {l:Sp.Bs} (h:(Sp.first l).1 = .key):TW l (l.take (Sp.first l).2):=
 ⟨λ_=>rfl,λx _=>by rw [h];simp⟩
theorem TW.head {l:Sp.Bs} {c:UInt8} {r:Sp.Bs} {n:Nat} (hk:(Sp.first l).1 ≠ .key) (hl:l=c::r) (hn:1<=n) (he:(Sp.first l).1 ≠ .bad->n=(Sp.first l).2) (h:∀ x∈iS,x.headD 0=c->(l.take n == x)=false):TW l (l.take n):=by
 refine ⟨λhb=>by rw [he hb],λx hx=>?_⟩
 have e:((Sp.first l).1 == Cl.key)=false:=by simpa using hk
 rw [e,Bool.false_and]
 by_cases hc:x.headD 0=c
 ·exact h x hx hc
 ·obtain ⟨m,rfl⟩:∃ m,n=m+1:=⟨n - 1,by omega⟩
  rw [hl,List.take_succ_cons]
  cases x with
  | nil=>exact absurd rfl (EU _ hx)
  | cons y z=>
   simp only [List.headD_cons] at hc
   simp only [List.cons_beq_cons,Bool.and_eq_false_iff]
   exact Or.inl (by simpa using λe=>hc e.symm)
theorem tD (p:UInt8->Bool):∀ l:Sp.Bs,(l.take (many p l)).all p=true
 | []=>rfl
 | c::r=>by
  simp only [many]
  split
  ·rename_i h
   rw [List.take_succ_cons,List.all_cons,h,tD p r];rfl
  ·rfl
theorem kG {c:UInt8} {r:Sp.Bs} (h:iP c=true):Sp.first (c::r)=(if keys.contains ((c::r).take (many eF (c::r))) then .key else if many eF (c::r)<=12 then .name else .bad,many eF (c::r)):=by
 simp only [Sp.first,h,if_true]
 split
 ·rfl
 ·split <;> rfl
theorem nG {c:UInt8} {r:Sp.Bs} (h:iP c=false) (h2:bV c=true):Sp.first (c::r)=(if dB ((c::r).take (many bV (c::r)))<9223372036854775808 then .num else .bad,many bV (c::r)):=by
 simp only [Sp.first,h,h2,if_true,Bool.false_eq_true,if_false]
 split <;> rfl
theorem nH {c:UInt8} {r:Sp.Bs} (h:iP c=false) (h2:bV c=false) (h3:(c == 39)=true):Sp.first (c::r)=match bJ r with | some n=>(.txt,n+1) | none=>(.bad,0):=by
 simp only [Sp.first,h,h2,h3,if_true,Bool.false_eq_true,if_false]
 rfl
theorem kH {c:UInt8} {r:Sp.Bs} (h:iP c=false) (h2:bV c=false) (h3:(c == 39)=false):Sp.first (c::r)=match aU (c::r) with | 0=>(.bad,0) | n=>(.key,n):=by
 simp only [Sp.first,h,h2,h3,Bool.false_eq_true,if_false]
 rfl
theorem jP (s:ByteArray) (n:Nat):(s.extract 0 n).data.toList=s.data.toList.take n:=by
 rw [Lib.extract_data];simp
theorem size_data (s:ByteArray):s.data.toList.length=s.size:=by simp
def FT (s:ByteArray) (w:World) (e:Ending) (w' : World):Prop:=
 ∃ wd:ByteArray,e = .returned (.agg #[.int .i64 (kn (Sp.first s.data.toList).1), .int .i64 0, .string wd])/\TW s.data.toList wd.toList/\Below w.heap.size w w'
theorem tE (s:ByteArray) (w:World) (h:s.toList.isEmpty=true):Calls Tryz.prog 74 #[.string s] w (FT s w):=by
 have hs:s.data.toList = []:=by rw [<- pD];simpa using h
 have H:Hid (kn (Sp.first s.data.toList).1=0/\TW s.data.toList (ByteArray.mk #[]).toList):=by
  rw [hs,ByteArray.toList_mk []]
  exact ⟨rfl,TW.empty (Or.inl rfl) (λ_=>rfl)⟩
 clear hs
 go_enter Tryz.func74,Tryz.ntmps74
 go_wp2_with fail
 exact cL (v := .agg #[.int .i64 0, .int .i64 0, .string ⟨#[]⟩]) (by simp [results,Tryz.results74,go_sem]) rfl ⟨⟨#[]⟩,by rw [H.out.1],H.out.2,(Below.refl _ _).alloc (aF _) _⟩
theorem Gb (w w1:World) (x y z:Value) (t:TypeId) (hb:Below (w.alloc (.cells #[x,y,z] t)).heap.size (w.alloc (.cells #[x,y,z] t)) w1) :
  (w1.cell? ⟨w.heap.size,0,none⟩=some x/\w1.cell? ⟨w.heap.size,1,none⟩=some y/\w1.cell? ⟨w.heap.size,2,none⟩=some z)/\(w1.frozen? ⟨w.heap.size,0,none⟩=false/\w1.frozen? ⟨w.heap.size,1,none⟩=false/\w1.frozen? ⟨w.heap.size,2,none⟩=false)/\w.heap.size<w1.heap.size/\Below w.heap.size w w1:=by
 have hs:w.heap.size+1<=w1.heap.size:=by have:=hb.size;simpa using this
 have hc:∀ o,w1.cell? ⟨w.heap.size,o,none⟩=#[x,y,z][o]?:=λo=>(hb.cell (p:=⟨w.heap.size,o,none⟩) (by simp)).trans (oZ _ _ _ _)
 have hf:∀ o,w1.frozen? ⟨w.heap.size,o,none⟩=(w.alloc (.cells #[x,y,z] t)).frozen? ⟨w.heap.size,o,none⟩:=λo=>hb.frozen (p:=⟨w.heap.size,o,none⟩) (by simp)
 refine ⟨⟨hc 0,hc 1,hc 2⟩,⟨(hf 0).trans ?_,(hf 1).trans ?_,(hf 2).trans ?_⟩,by omega,((Below.refl _ _).alloc (aF _) _).trans (hb.mono (by simp))⟩ <;> go_simp
theorem tF:∀ l:Sp.Bs,aU l<=l.length
 | []=>aF _
 | [c]=>by simp only [aU];split <;> simp
 | c::c'::r=>by
  simp only [aU,List.length_cons]
  split
  ·omega
  ·split <;> omega
theorem IG:(ByteArray.mk #[]).toList = []:=ByteArray.toList_mk []
theorem sG (s:ByteArray) (w:World) (hs:s.size<=100000) (h0:0<s.size) (hc:iP s[0]=true):Calls Tryz.prog 74 #[.string s] w (FT s w):=by
 have e:=jM s h0
 have hF:=kG (r:=s.data.toList.drop 1) hc
 rw [<- e] at hF
 have hm:many eF s.data.toList<=s.size:=by have:=nE eF s.data.toList;rwa [size_data] at this
 have h1:1<=many eF s.data.toList:=by rw [e];exact lJ (by simp [eF,hc])
 have hne:s.toList.isEmpty=false:=by rw [pD,e];rfl
 have hd:(s.extract 0 (many eF s.data.toList)).toList=s.data.toList.take (many eF s.data.toList):=by rw [pD,jP]
 have hz:(s.extract 0 (many eF s.data.toList)).size=many eF s.data.toList:=by rw [<- size_data,jP,List.length_take,size_data];omega
 have vF:Hid ((Sp.first s.data.toList).1=if Ih (s.extract 0 (many eF s.data.toList)).toList then .key else if (s.extract 0 (many eF s.data.toList)).size<=12 then .name else .bad):=by
  show _=_;rw [hF,hd,hz];rfl
 have HT:Hid (TW s.data.toList (s.extract 0 (many eF s.data.toList)).toList):=by
  show TW _ _
  rw [hd]
  have h2:(Sp.first s.data.toList).2=many eF s.data.toList:=by rw [hF]
  cases hk:keys.contains (s.data.toList.take (many eF s.data.toList))
  ·refine TW.head ?_ e h1 (λ_=>h2.symm) ?_
   ·rw [hF,hk];simp only [Bool.false_eq_true,if_false];split <;> decide
   ·intro x hx hcx
    have:=Ga x hx (by rw [hcx];exact hc)
    cases hb:(s.data.toList.take (many eF s.data.toList) == x)
    ·rfl
    ·rw [eq_of_beq hb,this] at hk;cases hk
  ·have:=TW.key (l:=s.data.toList) (by rw [hF,hk];rfl)
   rw [h2] at this
   exact this
 clear hF hd hz e h1
 generalize hn:many eF s.data.toList=n at *
 have HN:=hid hn
 clear hn
 have hmax:s.size<=maxLen:=by unfold maxLen;omega
 go_enter Tryz.func74,Tryz.ntmps74
 go_wp2_with fail
 refine (cY _ _).mono ?_
 rintro r w1 ⟨rfl,rfl⟩
 go_wp2_with fail
 refine (vA _ _ hmax).mono ?_
 rintro r w1 ⟨rfl,rfl⟩
 rw [HN.out]
 go_wp2_with fail
 refine (yK _ _ _ vF).mono ?_
 rintro r w1 ⟨rfl,rfl⟩
 go_wp2_with fail
 exact cL (v := .agg #[.int .i64 (kn (Sp.first s.data.toList).1), .int .i64 0, .string (s.extract 0 n)]) (by simp [results,Tryz.results74,go_sem]) rfl ⟨_,rfl,HT.out,(Below.refl _ _).alloc (aF _) _⟩
theorem tG (s:ByteArray) (w:World) (hs:s.size<=100000) (h0:0<s.size) (hr:VR w) (hl:iP s[0]=false) (hc:bV s[0]=true):Calls Tryz.prog 74 #[.string s] w (FT s w):=by
 have e:=jM s h0
 have hF:=nG (r:=s.data.toList.drop 1) hl hc
 rw [<- e] at hF
 have hm:many bV s.data.toList<=s.size:=by have:=nE bV s.data.toList;rwa [size_data] at this
 have h1:1<=many bV s.data.toList:=by rw [e];exact lJ hc
 have hne:s.toList.isEmpty=false:=by rw [pD,e];rfl
 have hd:(s.extract 0 (many bV s.data.toList)).data.toList=s.data.toList.take (many bV s.data.toList):=jP _ _
 have hz:(s.extract 0 (many bV s.data.toList)).size=many bV s.data.toList:=by rw [<- size_data,jP,List.length_take,size_data];omega
 have HT:Hid (TW s.data.toList (s.extract 0 (many bV s.data.toList)).toList):=by
  show TW _ _
  rw [pD,hd]
  have h2:(Sp.first s.data.toList).2=many bV s.data.toList:=by rw [hF]
  refine TW.head ?_ e h1 (λ_=>h2.symm) ?_
  ·rw [hF];dsimp only;split <;> decide
  ·intro x hx hcx
   have:=(wL x hx).1
   rw [hcx,hc] at this
   cases this
 have ha:(s.extract 0 (many bV s.data.toList)).data.toList.all bV=true:=by rw [hd];exact tD _ _
 have hnn:(s.extract 0 (many bV s.data.toList)).data.toList ≠ []:=by
  intro h
  have:=congrArg List.length h
  rw [size_data,hz] at this
  simp at this;omega
 have hsz:(s.extract 0 (many bV s.data.toList)).size<=100000:=by omega
 have hmax:s.size<=maxLen:=by unfold maxLen;omega
 have hr1:∀ o,VR (w.alloc o):=λo=>by
  obtain ⟨te,pe,x,y⟩:=hr
  exact ⟨te,pe,(World.cell?_alloc_lt _ _ _ (by exact y)).trans x,by simp;omega⟩
 have HR1:=hid hr1
 clear hr1 hr
 by_cases hv:dB (s.extract 0 (many bV s.data.toList)).data.toList<9223372036854775808
 ·have vF:Hid (kn (Sp.first s.data.toList).1=kn .num):=by
   show _=_;rw [hF,<- hd,if_pos hv]
  have HA:=vB (s.extract 0 (many bV s.data.toList)) (hne:=hnn) (hd:=ha) (hs:=hsz) (hv:=hv)
  have Tc:Hid (∀ w,Calls Tryz.prog 118 #[.string (s.extract 0 (many bV s.data.toList))] w λe w'=>e = .returned (.int .i64 (kn .num))/\Below w.heap.size w w'):=λw=>HA w
  clear hF hd hz e h1 HA hnn ha hv hsz
  generalize hn:many bV s.data.toList=n at *
  have HN:=hid hn
  clear hn
  go_enter Tryz.func74,Tryz.ntmps74
  go_wp2_with fail
  refine (cY _ _).mono ?_
  rintro r w1 ⟨rfl,rfl⟩
  go_wp2_with fail
  refine (cZ _ _).mono ?_
  rintro r w1 ⟨rfl,rfl⟩
  go_wp2_with fail
  refine (lP _ _ hmax).mono ?_
  rintro r w1 ⟨rfl,rfl⟩
  rw [HN.out]
  go_wp2_with fail
  refine (Tc.out _).mono ?_
  rintro r w1 ⟨rfl,hb⟩
  obtain ⟨⟨c0,c1,c2⟩,⟨f0,f1,f2⟩,hsz,hbl⟩:=Gb _ _ _ _ _ _ hb
  have HB:=hid hbl
  clear hb hbl
  go_wp2_with fail
  exact cL (v := .agg #[.int .i64 (kn .num), .int .i64 0, .string (s.extract 0 n)]) (by simp [results,Tryz.results74,go_sem,c0,c1,c2]) rfl ⟨_,by rw [vF.out],HT.out,((HB.out.setCell (aF _) _).setCell (aF _) _).setCell (aF _) _⟩
 ·have vF:Hid (kn (Sp.first s.data.toList).1=kn .bad):=by
   show _=_;rw [hF,<- hd,if_neg hv]
  have HA:=λw=>s5 (s.extract 0 (many bV s.data.toList)) w hnn ha hsz hv
  have Tc:Hid (∀ w,VR w->Calls Tryz.prog 118 #[.string (s.extract 0 (many bV s.data.toList))] w λe w'=>e = .returned (.int .i64 (kn .bad))/\Below w.heap.size w w'):=λw h=>HA w h
  clear hF hd hz e h1 HA hnn ha hv hsz
  generalize hn:many bV s.data.toList=n at *
  have HN:=hid hn
  clear hn
  go_enter Tryz.func74,Tryz.ntmps74
  go_wp2_with fail
  refine (cY _ _).mono ?_
  rintro r w1 ⟨rfl,rfl⟩
  go_wp2_with fail
  refine (cZ _ _).mono ?_
  rintro r w1 ⟨rfl,rfl⟩
  go_wp2_with fail
  refine (lP _ _ hmax).mono ?_
  rintro r w1 ⟨rfl,rfl⟩
  rw [HN.out]
  go_wp2_with fail
  refine (Tc.out _ (HR1.out _)).mono ?_
  rintro r w1 ⟨rfl,hb⟩
  obtain ⟨⟨c0,c1,c2⟩,⟨f0,f1,f2⟩,hsz,hbl⟩:=Gb _ _ _ _ _ _ hb
  have HB:=hid hbl
  clear hb hbl
  go_wp2_with fail
  exact cL (v := .agg #[.int .i64 (kn .bad), .int .i64 0, .string (s.extract 0 n)]) (by simp [results,Tryz.results74,go_sem,c0,c1,c2]) rfl ⟨_,by rw [vF.out],HT.out,((HB.out.setCell (aF _) _).setCell (aF _) _).setCell (aF _) _⟩
theorem tH (s:ByteArray) (w:World) (hs:s.size<=100000) (h0:0<s.size) (hl:iP s[0]=false) (hc:bV s[0]=false) (hq:(s[0] == 39)=true):Calls Tryz.prog 74 #[.string s] w (FT s w):=by
 have e:=jM s h0
 have hF:=nH (r:=s.data.toList.drop 1) hl hc hq
 rw [<- e] at hF
 have hne:s.toList.isEmpty=false:=by rw [pD,e];rfl
 have hmax:s.size<=maxLen:=by unfold maxLen;omega
 have hx:lC s 1<=s.size:=Nv s 1 (by omega)
 have hq' : ((s[0].toNat:Int) == 39)=true:=by have:=rJ s[0] 39;rw [hq] at this;exact this
 have hd:(s.extract 0 (lC s 1)).toList=s.data.toList.take (lC s 1):=by rw [pD,jP]
 cases ht:bJ (s.data.toList.drop 1) with
 | none=>
  rw [ht] at hF
  have hz:lC s 1=0:=by unfold lC;rw [ht]
  have hem:(s.extract 0 (lC s 1)).toList.isEmpty=true:=by rw [hd,hz];rfl
  have HT:Hid (TW s.data.toList (ByteArray.mk #[]).toList/\kn (Sp.first s.data.toList).1=1):=by
   rw [IG]
   exact ⟨TW.empty (Or.inr (by rw [hF])) (λh=>absurd (by rw [hF]) h),by rw [hF];rfl⟩
  clear hF e ht hd hz
  generalize hn:lC s 1=n at *
  have HN:=hid hn
  clear hn
  go_enter Tryz.func74,Tryz.ntmps74
  go_wp2_with fail
  refine (cY _ _).mono ?_
  rintro r w1 ⟨rfl,rfl⟩
  go_wp2_with fail
  refine (cZ _ _).mono ?_
  rintro r w1 ⟨rfl,rfl⟩
  go_wp2_with fail
  refine (lS _ _ h0 hmax).mono ?_
  rintro r w1 ⟨rfl,rfl⟩
  rw [HN.out]
  go_wp2_with fail
  refine (lQ _ _ _ hem).mono ?_
  rintro r w1 ⟨rfl,hb⟩
  obtain ⟨⟨c0,c1,c2⟩,⟨f0,f1,f2⟩,hsz,hbl⟩:=Gb _ _ _ _ _ _ hb
  have HB:=hid hbl
  clear hb hbl
  go_wp2_with fail
  exact cL (v := .agg #[.int .i64 1, .int .i64 0, .string ⟨#[]⟩]) (by simp [results,Tryz.results74,go_sem,c0,c1,c2]) rfl ⟨_,by rw [HT.out.2],HT.out.1,((HB.out.setCell (aF _) _).setCell (aF _) _).setCell (aF _) _⟩
 | some k=>
  rw [ht] at hF
  have hz:lC s 1=1+k:=by unfold lC;rw [ht]
  have hem:(s.extract 0 (lC s 1)).toList.isEmpty=false:=by rw [hd,hz,e,Nat.add_comm];rfl
  have HT:Hid (TW s.data.toList (s.extract 0 (lC s 1)).toList/\kn (Sp.first s.data.toList).1=5):=by
   refine ⟨?_,by rw [hF];rfl⟩
   rw [hd]
   refine TW.head (by rw [hF];simp) e (by omega) (λ_=>by rw [hF];dsimp only;omega) ?_
   intro x hx hcx
   have:=(wL x hx).2
   rw [hcx,hq] at this
   cases this
  clear hF e ht hd hz
  generalize hn:lC s 1=n at *
  have HN:=hid hn
  clear hn
  go_enter Tryz.func74,Tryz.ntmps74
  go_wp2_with fail
  refine (cY _ _).mono ?_
  rintro r w1 ⟨rfl,rfl⟩
  go_wp2_with fail
  refine (cZ _ _).mono ?_
  rintro r w1 ⟨rfl,rfl⟩
  go_wp2_with fail
  refine (lS _ _ h0 hmax).mono ?_
  rintro r w1 ⟨rfl,rfl⟩
  rw [HN.out]
  go_wp2_with fail
  refine (nX _ _ _ hem).mono ?_
  rintro r w1 ⟨rfl,hb⟩
  obtain ⟨⟨c0,c1,c2⟩,⟨f0,f1,f2⟩,hsz,hbl⟩:=Gb _ _ _ _ _ _ hb
  have HB:=hid hbl
  clear hb hbl
  go_wp2_with fail
  exact cL (v := .agg #[.int .i64 5, .int .i64 0, .string (s.extract 0 n)]) (by simp [results,Tryz.results74,go_sem,c0,c1,c2]) rfl ⟨_,by rw [HT.out.2],HT.out.1,((HB.out.setCell (aF _) _).setCell (aF _) _).setCell (aF _) _⟩
theorem sH (s:ByteArray) (w:World) (hs:s.size<=100000) (h0:0<s.size) (hl:iP s[0]=false) (hc:bV s[0]=false) (hq:(s[0] == 39)=false):Calls Tryz.prog 74 #[.string s] w (FT s w):=by
 have e:=jM s h0
 have hF:=kH (r:=s.data.toList.drop 1) hl hc hq
 rw [<- e] at hF
 have hne:s.toList.isEmpty=false:=by rw [pD,e];rfl
 have hmax:s.size<=maxLen:=by unfold maxLen;omega
 have hx:aU s.data.toList<=s.size:=by rw [<- size_data];exact tF _
 have hq' : ((s[0].toNat:Int) == 39)=false:=by have:=rJ s[0] 39;rw [hq] at this;exact this
 have hd:(s.extract 0 (aU s.data.toList)).toList=s.data.toList.take (aU s.data.toList):=by rw [pD,jP]
 cases ht:aU s.data.toList with
 | zero=>
  rw [ht] at hF
  have hF:Sp.first s.data.toList=(.bad,0):=hF
  have hem:(s.extract 0 (aU s.data.toList)).toList.isEmpty=true:=by rw [hd,ht];rfl
  have HT:Hid (TW s.data.toList (ByteArray.mk #[]).toList/\kn (Sp.first s.data.toList).1=1):=by
   rw [IG]
   exact ⟨TW.empty (Or.inr (by rw [hF])) (λh=>absurd (by rw [hF]) h),by rw [hF];rfl⟩
  clear hF e ht hd
  generalize hn:aU s.data.toList=n at *
  have HN:=hid hn
  clear hn
  go_enter Tryz.func74,Tryz.ntmps74
  go_wp2_with fail
  refine (cY _ _).mono ?_
  rintro r w1 ⟨rfl,rfl⟩
  go_wp2_with fail
  refine (cZ _ _).mono ?_
  rintro r w1 ⟨rfl,rfl⟩
  go_wp2_with fail
  refine (lR _ _ h0 hmax).mono ?_
  rintro r w1 ⟨rfl,rfl⟩
  rw [HN.out]
  go_wp2_with fail
  refine (lQ _ _ _ hem).mono ?_
  rintro r w1 ⟨rfl,hb⟩
  obtain ⟨⟨c0,c1,c2⟩,⟨f0,f1,f2⟩,hsz,hbl⟩:=Gb _ _ _ _ _ _ hb
  have HB:=hid hbl
  clear hb hbl
  go_wp2_with fail
  exact cL (v := .agg #[.int .i64 1, .int .i64 0, .string ⟨#[]⟩]) (by simp [results,Tryz.results74,go_sem,c0,c1,c2]) rfl ⟨_,by rw [HT.out.2],HT.out.1,((HB.out.setCell (aF _) _).setCell (aF _) _).setCell (aF _) _⟩
 | succ k=>
  have hF' : Sp.first s.data.toList=(.key,aU s.data.toList):=by rw [hF,ht];rfl
  have hem:(s.extract 0 (aU s.data.toList)).toList.isEmpty=false:=by rw [hd,ht,e];rfl
  have HT:Hid (TW s.data.toList (s.extract 0 (aU s.data.toList)).toList/\kn (Sp.first s.data.toList).1=2):=by
   refine ⟨?_,by rw [hF'];rfl⟩
   rw [hd]
   have:=TW.key (l:=s.data.toList) (by rw [hF'])
   rw [hF'] at this
   exact this
  clear hF hF' e ht hd
  generalize hn:aU s.data.toList=n at *
  have HN:=hid hn
  clear hn
  go_enter Tryz.func74,Tryz.ntmps74
  go_wp2_with fail
  refine (cY _ _).mono ?_
  rintro r w1 ⟨rfl,rfl⟩
  go_wp2_with fail
  refine (cZ _ _).mono ?_
  rintro r w1 ⟨rfl,rfl⟩
  go_wp2_with fail
  refine (lR _ _ h0 hmax).mono ?_
  rintro r w1 ⟨rfl,rfl⟩
  rw [HN.out]
  go_wp2_with fail
  refine (nX _ _ _ hem).mono ?_
  rintro r w1 ⟨rfl,hb⟩
  obtain ⟨⟨c0,c1,c2⟩,⟨f0,f1,f2⟩,hsz,hbl⟩:=Gb _ _ _ _ _ _ hb
  have HB:=hid hbl
  clear hb hbl
  go_wp2_with fail
  exact cL (v := .agg #[.int .i64 2, .int .i64 0, .string (s.extract 0 n)]) (by simp [results,Tryz.results74,go_sem,c0,c1,c2]) rfl ⟨_,by rw [HT.out.2],HT.out.1,((HB.out.setCell (aF _) _).setCell (aF _) _).setCell (aF _) _⟩
theorem tI (s:ByteArray) (w:World) (hs:s.size<=100000) (hr:VR w):Calls Tryz.prog 74 #[.string s] w (FT s w):=by
 by_cases h0:0<s.size
 ·cases hl:iP s[0]
  ·cases hc:bV s[0]
   ·cases hq:(s[0] == 39)
    ·exact sH s w hs h0 hl hc hq
    ·exact tH s w hs h0 hl hc hq
   ·exact tG s w hs h0 hr hl hc
  ·exact sG s w hs h0 hl
 ·refine tE s w ?_
  rw [pD]
  have:s.data.toList.length=0:=by rw [size_data];omega
  rw [List.length_eq_zero_iff.1 this];rfl
end Go.Proofs.YtgnncnhkgmhngaaGreatDoor
