import Derived.Test.YtgnncnhkgmhngaaGreatDoorJ31
set_option maxHeartbeats 4000000
namespace Go.Proofs.YtgnncnhkgmhngaaGreatDoor
open Go.RowKit
theorem Tryz.info155:(Tryz.prog.info? 155).map (fun i=>(i.zero,i.size,i.bytes))=some (some (.agg #[.int .i64 0, .int .i64 0, .string ⟨#[]⟩]),3,32):=by kernel_rfl
theorem ext_drop (s:ByteArray) (a:Nat):(s.extract a s.size).data.toList=s.data.toList.drop a:=by
 rw [Lib.extract_data,List.take_of_length_le]
 rw [List.length_drop,size_data]
 exact Nat.le_refl _
def WordOK2 (s:Sp.Bs) (p:Nat) (wd:Sp.Bs):Prop:=WordOK s p wd/\(Sp.tokCl s p ≠ .bad->wd=Sp.tokWord s p)
structure TokCells (s:Sp.Bs) (k:Nat) (xs:List Value) (wds:List ByteArray):Prop where
 len:wds.length=k
 xl:xs.length=k*3
 at0:∀ j,(h:j<wds.length)->xs[j*3]?=some (.int .i64 (kn (Sp.tokCl s (pos s j))))/\xs[j*3+1]?=some (.int .i64 (Sp.tokAt s (pos s j):Nat))/\xs[j*3+2]?=some (.string wds[j])/\WordOK2 s (pos s j) wds[j].toList
theorem owns_below {w w' : World} {base:Nat} {e:TypeId} {size:Nat} {v:Value} {n:Nat} {xs:List Value} (h:w.ownsRow base e size v n xs) (hb:Below w.heap.size w w'):w'.ownsRow base e size v n xs:=by
 obtain ⟨h1,h2⟩:=h
 refine ⟨h1,?_⟩
 rcases h2 with h | ⟨g,cap,cur,hv,hg,hc,r⟩
 ·exact Or.inl h
 ·refine Or.inr ⟨g,cap,cur,hv,hg,?_,r⟩
  have hlt:g<w.heap.size:=by
   rcases Nat.lt_or_ge g w.heap.size with x | x
   ·exact x
   ·rw [Array.getElem?_eq_none x] at hc;cases hc
  rw [hb.block g hlt];exact hc
theorem owns_block {w:World} {base:Nat} {e:TypeId} {size:Nat} {v:Value} {n:Nat} {xs:List Value} (h:w.ownsRow base e size v n xs):∀ k,v.ownBlock=some k->base<=k/\k<w.heap.size:=by
 intro k hk
 rcases h.2 with ⟨rfl,_⟩ | ⟨g,cap,cur,rfl,hg,hc,_⟩
 ·cases hk
 ·have:g=k:=by simpa [Value.ownBlock] using hk
  subst this
  refine ⟨hg,?_⟩
  rcases Nat.lt_or_ge g w.heap.size with x | x
  ·exact x
  ·rw [Array.getElem?_eq_none x] at hc;cases hc
theorem first_len {l:Sp.Bs} (h:(Sp.first l).1 ≠ .bad):(Sp.first l).2<=l.length:=by
 cases l with
 | nil=>exact Nat.le_refl _
 | cons c r=>
  cases h1:Sp.isLo c
  ·cases h2:Sp.isDg c
   ·cases h3:(c == 39)
    ·rw [first_sign h1 h2 h3] at h ⊢
     cases ht:Sp.signLen (c::r) with
     | zero=>rw [ht] at h;exact absurd rfl h
     | succ k=>have:=signLen_le (c::r);rw [ht] at this;exact this
    ·rw [first_txt h1 h2 h3] at h ⊢
     cases ht:Sp.txtLen r with
     | none=>rw [ht] at h;exact absurd rfl h
     | some n=>have:=txtLen_le r n ht;simp;omega
   ·rw [first_num h1 h2];exact many_le _ _
  ·rw [first_word h1];exact many_le _ _
theorem tok_snoc {s:Sp.Bs} {k:Nat} {xs:List Value} {wds:List ByteArray} (h:TokCells s k xs wds) {wd:ByteArray} (ok:WordOK2 s (pos s k) wd.toList) {x y:Int} (hx:x=kn (Sp.tokCl s (pos s k))) (hy:y=(Sp.tokAt s (pos s k):Nat)) :
  TokCells s (k+1) (xs ++ [.int .i64 x, .int .i64 y, .string wd]) (wds ++ [wd]):=by
 subst hx hy
 have hl:=h.len
 have hxl:=h.xl
 refine ⟨by simp [hl],by simp [hxl];omega,fun j hj=>?_⟩
 have hj' : j<k+1:=by simpa [hl] using hj
 by_cases e:j=k
 ·subst e
  refine ⟨?_,?_,?_,?_⟩
  ·rw [List.getElem?_append_right (by omega)];simp [hxl]
  ·rw [List.getElem?_append_right (by omega)];simp [hxl]
  ·rw [List.getElem?_append_right (by omega)];simp [hxl,<- hl]
  ·have:(wds ++ [wd])[j]=wd:=by simp [<- hl]
   rw [this];exact ok
 ·have hlt:j<wds.length:=by omega
  obtain ⟨a,b,c,d⟩:=h.at0 j hlt
  have:(wds ++ [wd])[j]=wds[j]:=List.getElem_append_left hlt
  rw [this]
  refine ⟨?_,?_,?_,d⟩
  ·rw [List.getElem?_append_left (by omega)];exact a
  ·rw [List.getElem?_append_left (by omega)];exact b
  ·rw [List.getElem?_append_left (by omega)];exact c
theorem tok_facts (s:ByteArray) (p m:Nat) (hm:Sp.many Sp.isSp (s.data.toList.drop p)=m) {wd:ByteArray} (tw:TW (s.extract (p+m) s.size).data.toList wd.toList) :
  (Sp.first (s.extract (p+m) s.size).data.toList).1=Sp.tokCl s.data.toList p/\Sp.tokAt s.data.toList p=p+m/\WordOK2 s.data.toList p wd.toList/\(Sp.tokCl s.data.toList p ≠ .bad->p+m<=s.size->Sp.tokEnd s.data.toList p=p+m+wd.size/\p+m+wd.size<=s.size):=by
 have ha:Sp.tokAt s.data.toList p=p+m:=by unfold Sp.tokAt;rw [hm]
 have e:=ext_drop s (p+m)
 rw [e] at tw ⊢
 have hc:(Sp.first (s.data.toList.drop (p+m))).1=Sp.tokCl s.data.toList p:=by unfold Sp.tokCl;rw [ha]
 refine ⟨hc,ha,?_,?_⟩
 ·refine ⟨?_,fun hb=>?_⟩
  ·intro x hx
   rw [tw.ok x hx,hc]
   unfold Sp.tokWord Sp.tokLen
   rw [ha]
  ·rw [tw.eq (by rw [hc];exact hb)]
   unfold Sp.tokWord Sp.tokLen
   rw [ha]
 ·intro hb hle
  have h1:=tw.eq (by rw [hc];exact hb)
  have h2:=first_len (l:=s.data.toList.drop (p+m)) (by rw [hc];exact hb)
  have h3:=congrArg List.length h1
  rw [List.length_take,ByteArray.toList_eq,size_data] at h3
  have h4:Sp.tokEnd s.data.toList p=p+m+(Sp.first (s.data.toList.drop (p+m))).2:=by unfold Sp.tokEnd Sp.tokLen;rw [ha]
  rw [List.length_drop,size_data] at h2
  rw [List.length_drop,size_data] at h3
  rw [h4]
  omega
theorem new3 (w:World) (o:Obj) (x y z:Value) (t:TypeId):∀ j u, [x,y,z][j]?=some u->((w.alloc o).alloc (.cells #[x,y,z] t)).cell? (Addr.add ⟨w.heap.size+1,0,none⟩ j)=some u:=by
 intro j u hj
 have e:Addr.add ⟨w.heap.size+1,0,none⟩ j=⟨(w.alloc o).heap.size,j,none⟩:=by simp [Addr.add];omega
 rw [e,World.cell?_alloc_new,<- hj]
 simp
theorem behind {w2 w3:World} {o:Obj} {x y z:Value} {t:TypeId} {row:Option Nat} (hg:((w2.alloc (.cells #[x,y,z] t)).alloc o).grownBy w3 row) (hr:∀ k,row=some k->k<w2.heap.size) :
  w3.cell? ⟨w2.heap.size,0,none⟩=some x/\w3.cell? ⟨w2.heap.size,2,none⟩=some z:=by
 have hb:w3.heap[w2.heap.size]?=((w2.alloc (.cells #[x,y,z] t)).alloc o).heap[w2.heap.size]?:=hg.block _ (by simp;omega) (fun e=>by have:=hr _ e.symm;omega)
 have hc:∀ i,w3.cell? ⟨w2.heap.size,i,none⟩=#[x,y,z][i]?:=fun i=>by
  rw [World.cell?_of_block (w:=(w2.alloc (.cells #[x,y,z] t)).alloc o) (a:=⟨w2.heap.size,i,none⟩) hb,World.cell?_alloc_lt _ _ _ (by simp),World.cell?_alloc_new]
 exact ⟨hc 0,hc 2⟩
theorem below_append {base:Nat} {w w2 w3:World} {o o' : Obj} {row:Option Nat} (h:Below base w w2) (hbase:base<=w2.heap.size) (hg:((w2.alloc o).alloc o').grownBy w3 row) (hr:∀ k,row=some k->base<=k):Below base w w3:=
 ((h.alloc hbase _).alloc (by simp;omega) _).grown hg (by simp;omega) hr
theorem tk_of {s:Sp.Bs} {k:Nat} (hk:k<=2000) (h:∀ j,j<k->Sp.tokCl s (pos s j) ≠ .fin/\Sp.tokCl s (pos s j) ≠ .bad) (hl:Sp.tokCl s (pos s k) = .fin\/Sp.tokCl s (pos s k) = .bad):TK s (k+1):=
 ⟨by omega,by omega,fun j hj=>h j (by omega),fun j hj=>by obtain rfl:j=k:=(by omega);exact hl⟩
theorem split_any (s:ByteArray) (w:World) (hs:s.size<=2000) (hr:VR w) :
  Calls Tryz.prog 47 #[.string s] w fun e w'=>∃ (g len cap:Nat) (xs:List Value) (wds:List ByteArray),e = .returned (.slice (some ⟨g,0,none⟩) len cap)/\TK s.data.toList len/\w.heap.size<=g/\w'.ownsRow w.heap.size 155 3 (.slice (some ⟨g,0,none⟩) len cap) len xs/\TokCells s.data.toList len xs wds/\Below w.heap.size w w':=by
 obtain ⟨i0,hi,hz0,hz1,hz2⟩:=info_parts Tryz.info155
 have hmax:s.size<=maxLen:=by unfold maxLen;omega
 go_enter Tryz.func47,Tryz.ntmps47
 go_wp2_with fail
 go_loopg [3,4] (s.size+1) (fun gm v x wr=>∃ (k:Nat) (xs:List Value) (wds:List ByteArray),x = .int .i64 (pos s.data.toList k:Nat)/\pos s.data.toList k<=s.size/\k<=pos s.data.toList k/\s.size+1 - pos s.data.toList k<=gm/\Hid (∀ j,j<k->Sp.tokCl s.data.toList (pos s.data.toList j) ≠ .fin/\Sp.tokCl s.data.toList (pos s.data.toList j) ≠ .bad)/\Hid (wr.ownsRow w.heap.size 155 3 v k xs)/\Hid (TokCells s.data.toList k xs wds)/\Hid (Below w.heap.size w wr))
 case atStart=>exact ⟨0, [], [],rfl,Nat.zero_le _,Nat.le_refl _,by simp [pos],fun j hj=>absurd hj (Nat.not_lt_zero _),World.ownsRow_nil _ _ _ _,⟨rfl,rfl,fun j hj=>absurd hj (by simp)⟩,Below.refl _ _⟩
 case round=>
  obtain ⟨k,xs,wds,rfl,hpk,hkp,hgm,HM,HO,HC,HB⟩:=hrel
  have ed:=ext_drop s (pos s.data.toList k)
  have HS:Hid (Sp.many Sp.isSp (s.extract (pos s.data.toList k) s.size).data.toList=Sp.many Sp.isSp (s.data.toList.drop (pos s.data.toList k))):=by show _=_;rw [ed]
  have hsz:(s.extract (pos s.data.toList k) s.size).size<=maxLen:=by
   have:=congrArg List.length ed;rw [size_data,List.length_drop,size_data] at this;unfold maxLen;omega
  have hat:pos s.data.toList k+Sp.many Sp.isSp (s.data.toList.drop (pos s.data.toList k))<=s.size:=by
   have:=many_le Sp.isSp (s.data.toList.drop (pos s.data.toList k));rw [List.length_drop,size_data] at this;omega
  clear ed
  generalize hpp:pos s.data.toList k=p at *
  have HPP:=hid hpp
  clear hpp
  go_wp2_with fail
  refine (countSpace_any _ _ hsz).mono ?_
  rintro r w1 ⟨rfl,rfl⟩
  rw [HS.out]
  generalize hmm:Sp.many Sp.isSp (s.data.toList.drop p)=m at *
  have HMM:=hid hmm
  clear hmm
  go_wp2_with fail
  have hr1:VR w1:=by
   obtain ⟨te,pe,x,y⟩:=hr
   exact ⟨te,pe,(HB.out.cell (p:=⟨1,0,none⟩) y).trans x,Nat.lt_of_lt_of_le y HB.out.size⟩
  have hs2:(s.extract (p+m) s.size).size<=100000:=by
   have:=congrArg List.length (ext_drop s (p+m));rw [size_data,List.length_drop,size_data] at this;omega
  refine (firstToken_any _ _ hs2 hr1).mono ?_
  clear hr1 hs2
  rintro r w2 ⟨wd,rfl,tw,hb2⟩
  obtain ⟨tf1,tf2,tf3,tf4⟩:=tok_facts s p m HMM.out tw
  have HTF:Hid (Sp.tokAt s.data.toList p=p+m/\WordOK2 s.data.toList p wd.toList/\(Sp.tokCl s.data.toList p ≠ .bad->p+m<=s.size->Sp.tokEnd s.data.toList p=p+m+wd.size/\p+m+wd.size<=s.size)):=⟨tf2,tf3,tf4⟩
  rw [tf1]
  have HB2:Hid (Below w.heap.size w w2):=HB.out.trans (hb2.mono HB.out.size)
  have HO2:Hid (w2.ownsRow w.heap.size 155 3 u3 k xs):=owns_below HO.out hb2
  clear tw hb2 tf1 tf2 tf3 tf4 HO HB HS HMM
  by_cases hfin:Sp.tokCl s.data.toList p = .fin
  ·have hk0:(kn (Sp.tokCl s.data.toList p) == 0)=true:=by rw [hfin];rfl
   have HL:Hid (Sp.tokCl s.data.toList p = .fin\/Sp.tokCl s.data.toList p = .bad):=Or.inl hfin
   clear hfin
   go_wp2_with (at_builtin;refine wpList_append_own _ rfl (.tmp 18) (.tmp 20) 117 rfl w.heap.size 155 i0 (.agg #[.int .i64 0, .int .i64 0, .string ⟨#[]⟩]) 3 32 Tryz.underlying117 hi hz0 hz1 hz2 rfl (by decide) _ _ _ rfl ((HO2.out.alloc _).alloc _) ⟨w2.heap.size+1,0,none⟩ 1 1 [.int .i64 (kn (Sp.tokCl s.data.toList p)), .int .i64 ((p:Int)+(m:Int)), .string wd] rfl rfl ?c1 ?c2 ?c3 ?c4 ?c5 ?_)
   case c1=>exact new3 _ _ _ _ _ _
   case c2=>intro u hu;simp at hu;rcases hu with rfl | rfl | rfl <;> rfl
   case c3=>unfold maxLen;omega
   case c4=>omega
   case c5=>have:=HB2.out.size;simp;omega
   intro v' w3 hown' hgrow hnil
   obtain ⟨c0,c2⟩:=behind hgrow (fun k e=>(owns_block HO2.out k e).2)
   have HB3:Hid (Below w.heap.size w w3):=below_append HB2.out HB2.out.size hgrow (fun k e=>(owns_block HO2.out k e).1)
   have HO3:=hid hown'
   have HC3:Hid (TokCells s.data.toList (k+1) (xs ++ [.int .i64 (kn (Sp.tokCl s.data.toList p)), .int .i64 ((p:Int)+(m:Int)), .string wd]) (wds ++ [wd])):=tok_snoc HC.out (by rw [HPP.out];exact HTF.out.2.1) (by rw [HPP.out]) (by rw [HPP.out,HTF.out.1];rfl)
   clear hown' hgrow hnil HC HO2 HB2
   go_wp2_with fail
   have hv:∃ g cap,v' = .slice (some ⟨g,0,none⟩) (k+1) cap/\w.heap.size<=g:=by
    rcases HO3.out.2 with ⟨_,h⟩ | ⟨g,cap,_,hv,hg,_⟩
    ·cases h
    ·exact ⟨g,cap,hv,hg⟩
   obtain ⟨g,cap,hv,hg⟩:=hv
   rw [hv]
   have HO4:Hid (w3.ownsRow w.heap.size 155 3 (.slice (some ⟨g,0,none⟩) (k+1) cap) (k+1) (xs ++ [.int .i64 (kn (Sp.tokCl s.data.toList p)), .int .i64 ((p:Int)+(m:Int)), .string wd])):=by rw [<- hv];exact HO3.out
   go_ret
   exact ⟨g,k+1,cap,_,_,rfl,tk_of (by omega) HM.out (by rw [HPP.out];exact HL.out),hg,HO4.out,HC3.out,HB3.out⟩
  ·by_cases hbad:Sp.tokCl s.data.toList p = .bad
   ·have hk0:(kn (Sp.tokCl s.data.toList p) == 0)=false:=by rw [hbad];rfl
    have hk1:(kn (Sp.tokCl s.data.toList p) == 1)=true:=by rw [hbad];rfl
    have HL:Hid (Sp.tokCl s.data.toList p = .fin\/Sp.tokCl s.data.toList p = .bad):=Or.inr hbad
    clear hfin hbad
    go_wp2_with (at_builtin;refine wpList_append_own _ rfl (.tmp 18) (.tmp 20) 117 rfl w.heap.size 155 i0 (.agg #[.int .i64 0, .int .i64 0, .string ⟨#[]⟩]) 3 32 Tryz.underlying117 hi hz0 hz1 hz2 rfl (by decide) _ _ _ rfl ((HO2.out.alloc _).alloc _) ⟨w2.heap.size+1,0,none⟩ 1 1 [.int .i64 (kn (Sp.tokCl s.data.toList p)), .int .i64 ((p:Int)+(m:Int)), .string wd] rfl rfl ?c1 ?c2 ?c3 ?c4 ?c5 ?_)
    case c1=>exact new3 _ _ _ _ _ _
    case c2=>intro u hu;simp at hu;rcases hu with rfl | rfl | rfl <;> rfl
    case c3=>unfold maxLen;omega
    case c4=>omega
    case c5=>have:=HB2.out.size;simp;omega
    intro v' w3 hown' hgrow hnil
    obtain ⟨c0,c2⟩:=behind hgrow (fun k e=>(owns_block HO2.out k e).2)
    have HB3:Hid (Below w.heap.size w w3):=below_append HB2.out HB2.out.size hgrow (fun k e=>(owns_block HO2.out k e).1)
    have HO3:=hid hown'
    have HC3:Hid (TokCells s.data.toList (k+1) (xs ++ [.int .i64 (kn (Sp.tokCl s.data.toList p)), .int .i64 ((p:Int)+(m:Int)), .string wd]) (wds ++ [wd])):=tok_snoc HC.out (by rw [HPP.out];exact HTF.out.2.1) (by rw [HPP.out]) (by rw [HPP.out,HTF.out.1];rfl)
    clear hown' hgrow hnil HC HO2 HB2
    go_wp2_with fail
    have hv:∃ g cap,v' = .slice (some ⟨g,0,none⟩) (k+1) cap/\w.heap.size<=g:=by
     rcases HO3.out.2 with ⟨_,h⟩ | ⟨g,cap,_,hv,hg,_⟩
     ·cases h
     ·exact ⟨g,cap,hv,hg⟩
    obtain ⟨g,cap,hv,hg⟩:=hv
    rw [hv]
    have HO4:Hid (w3.ownsRow w.heap.size 155 3 (.slice (some ⟨g,0,none⟩) (k+1) cap) (k+1) (xs ++ [.int .i64 (kn (Sp.tokCl s.data.toList p)), .int .i64 ((p:Int)+(m:Int)), .string wd])):=by rw [<- hv];exact HO3.out
    go_ret
    exact ⟨g,k+1,cap,_,_,rfl,tk_of (by omega) HM.out (by rw [HPP.out];exact HL.out),hg,HO4.out,HC3.out,HB3.out⟩
   ·have hk0:(kn (Sp.tokCl s.data.toList p) == 0)=false:=by revert hfin;cases Sp.tokCl s.data.toList p <;> simp [kn]
    have hk1:(kn (Sp.tokCl s.data.toList p) == 1)=false:=by revert hbad;cases Sp.tokCl s.data.toList p <;> simp [kn]
    have HL:Hid (Sp.tokCl s.data.toList p ≠ .fin/\Sp.tokCl s.data.toList p ≠ .bad):=⟨hfin,hbad⟩
    obtain ⟨te,tz⟩:=HTF.out.2.2 hbad hat
    have hgt:=Sp.tokEnd_gt hfin hbad
    have HTE:Hid (pos s.data.toList (k+1)=p+m+wd.size):=by show Sp.tokEnd s.data.toList (pos s.data.toList k)=_;rw [HPP.out];exact te
    have hgt' : p<p+m+wd.size:=by rw [<- te];exact hgt
    clear hfin hbad te hgt
    go_wp2_with (at_builtin;refine wpList_append_own _ rfl (.tmp 18) (.tmp 20) 117 rfl w.heap.size 155 i0 (.agg #[.int .i64 0, .int .i64 0, .string ⟨#[]⟩]) 3 32 Tryz.underlying117 hi hz0 hz1 hz2 rfl (by decide) _ _ _ rfl ((HO2.out.alloc _).alloc _) ⟨w2.heap.size+1,0,none⟩ 1 1 [.int .i64 (kn (Sp.tokCl s.data.toList p)), .int .i64 ((p:Int)+(m:Int)), .string wd] rfl rfl ?c1 ?c2 ?c3 ?c4 ?c5 ?_)
    case c1=>exact new3 _ _ _ _ _ _
    case c2=>intro u hu;simp at hu;rcases hu with rfl | rfl | rfl <;> rfl
    case c3=>unfold maxLen;omega
    case c4=>omega
    case c5=>have:=HB2.out.size;simp;omega
    intro v' w3 hown' hgrow hnil
    obtain ⟨c0,c2⟩:=behind hgrow (fun k e=>(owns_block HO2.out k e).2)
    have HB3:Hid (Below w.heap.size w w3):=below_append HB2.out HB2.out.size hgrow (fun k e=>(owns_block HO2.out k e).1)
    have HO3:=hid hown'
    have HC3:Hid (TokCells s.data.toList (k+1) (xs ++ [.int .i64 (kn (Sp.tokCl s.data.toList p)), .int .i64 ((p:Int)+(m:Int)), .string wd]) (wds ++ [wd])):=tok_snoc HC.out (by rw [HPP.out];exact HTF.out.2.1) (by rw [HPP.out]) (by rw [HPP.out,HTF.out.1];rfl)
    clear hown' hgrow hnil HC HO2 HB2
    go_wp2_with fail
    obtain ⟨gm,rfl⟩:∃ x,gk=x+1:=⟨gk - 1,by omega⟩
    go_roundg gm
    case measure=>omega
    case rel=>exact ⟨k+1,_,_,by rw [HTE.out];go_num,by rw [HTE.out];exact tz,by rw [HTE.out];omega,by rw [HTE.out];omega,fun j hj=>by
     by_cases e:j=k
     ·subst e;rw [HPP.out];exact HL.out
     ·exact HM.out j (by omega),HO3.out,HC3.out,HB3.out⟩
theorem fz_new (w:World) (c:Array Value) (t:TypeId) (o:Nat):(w.alloc (.cells c t)).frozen? ⟨w.heap.size,o,none⟩=false:=by go_simp
theorem StV.frame {w w' : World} (hs:w.heap.size<=w'.heap.size):∀ {z:Sp.Stm} {lo hi:Nat} {v:Value},StV w z lo hi v->IsIf v->(∀ k,lo<=k->k<hi->w'.heap[k]?=w.heap[k]?)->StV w' z lo hi v
 | .create t cols,lo,hi,v,h,_,hk=>by
  obtain ⟨p,e,q,sl,e',a1,a2,a3,a4⟩:=h
  exact ⟨p,e,q,sl,e',a1,a2,a3.same hs (hk q a1 a2),a4.frame hk⟩
 | .drop t,lo,hi,v,h,_,hk=>by
  obtain ⟨q,e,a1,a2,a3⟩:=h
  exact ⟨q,e,a1,a2,a3.same hs (hk q a1 a2)⟩
 | .insertV a t rows,lo,hi,v,h,_,hk=>by
  obtain ⟨p,e,q,sl,e',a1,a2,a3,a4⟩:=h
  exact ⟨p,e,q,sl,e',a1,a2,a3.same hs (hk q a1 a2),a4.frame (fun n x m1 m2 hp hk=>RowP.frame hs n x m1 m2 hp hk) fun k h1 h2=>hk k (by omega) h2⟩
 | .insertQ a t nd,lo,hi,v,h,_,hk=>by
  obtain ⟨p,e,q,y,e',a1,a2,a3,a4,a5⟩:=h
  exact ⟨p,e,q,y,e',a1,a2,a3.same hs (hk q a1 a2),a4,a5.frame hs _ _ _ _ (fun k h1 h2=>hk k (by omega) h2) (fun blk off n c ee=>(a4.noSl _ _ _ ee).elim)⟩
 | .delete t wh,lo,hi,v,h,_,hk=>by
  obtain ⟨q,pv,e,a1,a2,a3,⟨pa,rfl⟩,a5⟩:=h
  exact ⟨q, .pointer pa,e,a1,a2,a3.same hs (hk q a1 a2),⟨pa,rfl⟩,a5.frame hs _ _ _ _ (fun k h1 h2=>hk k h1 (by omega)) (fun blk off n c ee=>by cases ee)⟩
 | .update t sets wh,lo,hi,v,h,_,hk=>by
  obtain ⟨p,e,q,sl,pv,mid,e',a1,a2,a3,a4,a5,⟨pa,rfl⟩,a7⟩:=h
  exact ⟨p,e,q,sl, .pointer pa,mid,e',a1,a2,a3,a4.same hs (hk q (by omega) a3),a5.frame (fun n x m1 m2 hp hk=>SetP.frame hs n x m1 m2 hp hk) fun k h1 h2=>hk k h1 (by omega),⟨pa,rfl⟩,a7.frame hs _ _ _ _ (fun k h1 h2=>hk k (by omega) (by omega)) (fun blk off n c ee=>by cases ee)⟩
 | .trans z,lo,hi,v,h,_,hk=>by
  obtain ⟨q,e,a1,a2,a3⟩:=h
  exact ⟨q,e,a1,a2,a3.same hs (hk q a1 a2)⟩
 | .query nd,lo,hi,v,h,hv,hk=>Rp.frame hs _ _ _ _ h hk (fun blk off n c ee=>(hv.noSl _ _ _ ee).elim)
theorem ps_start {s:ByteArray} {w w1:World} {g len cap:Nat} {xs:List Value} {wds:List ByteArray} (tk:TK s.data.toList len) (h5:5<w.heap.size) (vm:∃ m:Int,w1.cell? ⟨5,0,none⟩=some (.int .i64 m)) (hz:w.heap.size<=w1.heap.size) (hown:w1.ownsRow w.heap.size 155 3 (.slice (some ⟨g,0,none⟩) len cap) len xs) (tc:TokCells s.data.toList len xs wds) :
  PS w1.heap.size g cap len s.data.toList 0 (.live 0) (w1.alloc (.cells #[.slice (some ⟨g,0,none⟩) len cap, .int .i64 0, .int .i64 0, .int .i64 0, .int .i64 0] 120)):=by
 have hg:=(owns_block hown g rfl).2
 have hc:∀ o,(w1.alloc (.cells #[.slice (some ⟨g,0,none⟩) len cap, .int .i64 0, .int .i64 0, .int .i64 0, .int .i64 0] 120)).cell? ⟨w1.heap.size,o,none⟩=#[Value.slice (some ⟨g,0,none⟩) len cap, .int .i64 0, .int .i64 0, .int .i64 0, .int .i64 0][o]?:=fun o=>World.cell?_alloc_new _ _ _ _
 have hcell:∀ i,i<len*3->(w1.alloc (.cells #[.slice (some ⟨g,0,none⟩) len cap, .int .i64 0, .int .i64 0, .int .i64 0, .int .i64 0] 120)).cell? ⟨g,i,none⟩=xs[i]?:=by
  intro i hi
  rw [World.cell?_alloc_lt _ _ _ hg]
  rcases hown.2 with ⟨h,_⟩ | ⟨g',cap',cur,hv,_,hb,hn,_,hsz,htk⟩
  ·cases h
  ·injection hv with h1 h2 h3
   injection h1 with h1
   injection h1 with h1
   subst h1
   rw [<- htk,List.getElem?_take_of_lt hi]
   simp [World.cell?,hb]
 refine ⟨by simp,by simp;omega,by omega,tk,hc 0,⟨0,⟨tk.one,rfl⟩,hc 1⟩,hc 2,hc 3,hc 4,fun o=>?_,fun j hj=>?_,⟨by have:=(owns_block hown g rfl).1;omega,by omega⟩,?_⟩
 ·exact fz_new _ _ _ _
 ·have hj' : j<wds.length:=by rw [tc.len];exact hj
  obtain ⟨a,b,c,d⟩:=tc.at0 j hj'
  exact ⟨wds[j],(hcell _ (by omega)).trans a,(hcell _ (by omega)).trans b,(hcell _ (by omega)).trans c,d.1,d.2⟩
 ·obtain ⟨m,hm⟩:=vm
  exact ⟨m,(World.cell?_alloc_lt _ _ _ (by show 5<_;omega)).trans hm⟩
theorem parse_eq (s:Sp.Bs) (h:¬ 2000<s.length):Sp.parse s=(if (Sp.stmt s (Sp.fuel s) (.live 0)).isCl s .fin then Sp.stmt s (Sp.fuel s) (.live 0) else (Sp.stmt s (Sp.fuel s) (.live 0)).fail s 2).out:=by
 unfold Sp.parse;rw [if_neg h]
theorem out_eq (σ:Sp.St):σ.out=(er σ,ea σ):=by cases σ <;> rfl
theorem StV.wide {w:World} : ∀ {z:Sp.Stm} {lo hi lo' hi' : Nat} {v:Value},StV w z lo hi v->lo'<=lo->hi<=hi'->StV w z lo' hi' v
 | .create t cols,lo,hi,lo',hi',v,h,h1,h2=>by obtain ⟨p,e,q,sl,e',a1,a2,a3,a4⟩:=h;exact ⟨p,e,q,sl,e',by omega,by omega,a3,a4.wide h1 h2⟩
 | .drop t,lo,hi,lo',hi',v,h,h1,h2=>by obtain ⟨q,e,a,b,c⟩:=h;exact ⟨q,e,by omega,by omega,c⟩
 | .insertV _ t rows,lo,hi,lo',hi',v,h,h1,h2=>by obtain ⟨p,e,q,sl,e',a1,a2,a3,a4⟩:=h;exact ⟨p,e,q,sl,e',by omega,by omega,a3,a4.wide (Nat.le_refl _) h2⟩
 | .insertQ _ t nd,lo,hi,lo',hi',v,h,h1,h2=>by obtain ⟨p,e,q,sl,e',a1,a2,a3,a4,a5⟩:=h;exact ⟨p,e,q,sl,e',by omega,by omega,a3,a4,Rp.wide _ _ _ _ _ _ a5 (Nat.le_refl _) h2⟩
 | .delete t wh,lo,hi,lo',hi',v,h,h1,h2=>by
  obtain ⟨q,pv,e,a1,a2,a3,a4,a5⟩:=h
  exact ⟨q,pv,e,by omega,by omega,a3,a4,Rp.wide _ _ _ _ _ _ a5 h1 (Nat.le_refl _)⟩
 | .update t sets wh,lo,hi,lo',hi',v,h,h1,h2=>by
  obtain ⟨p,e,q,sl,pv,mid,e',a1,a2,a3,a4,a5,a6,a7⟩:=h
  exact ⟨p,e,q,sl,pv,mid,e',by omega,a2,by omega,a4,a5.wide h1 (Nat.le_refl _),a6,a7⟩
 | .trans z,lo,hi,lo',hi',v,h,h1,h2=>by obtain ⟨q,e,a,b,c⟩:=h;exact ⟨q,e,by omega,by omega,c⟩
 | .query nd,lo,hi,lo',hi',v,h,h1,h2=>Rp.wide _ _ _ _ _ _ h h1 h2
theorem synParse_any (s:ByteArray) (w:World) (hs:s.size<=maxLen) (hr:VR w) (hv:VM w) :
  Calls Tryz.prog 37 #[.string s] w fun e w'=>∃ v,e = .returned (.tuple #[v, .int .i64 ((Sp.parse s.data.toList).1:Nat), .int .i64 ((Sp.parse s.data.toList).2:Nat)])/\Below w.heap.size w w'/\IsIf v/\((Sp.parse s.data.toList).1=0->StV w' (Sp.tree s.data.toList) w.heap.size w'.heap.size v):=by
 unfold maxLen at hs
 by_cases hl:2000<s.size
 ·have HV:Hid (Sp.parse s.data.toList=(1,0)):=by show _=_;unfold Sp.parse;rw [if_pos (by rw [size_data];exact hl)]
  go_enter Tryz.func37,Tryz.ntmps37
  go_wp2_with fail
  exact bodyPost_ret (v := .tuple #[.nilIface, .int .i64 1, .int .i64 0]) (by simp [results,Tryz.results37,go_sem, *]) rfl ⟨_,by rw [HV.out];rfl,Below.refl _ _,Or.inl rfl,fun h=>by rw [HV.out] at h;cases h⟩
 ·have HV:Hid (Sp.parse s.data.toList=(if (Sp.stmt s.data.toList (Sp.fuel s.data.toList) (.live 0)).isCl s.data.toList .fin then Sp.stmt s.data.toList (Sp.fuel s.data.toList) (.live 0) else (Sp.stmt s.data.toList (Sp.fuel s.data.toList) (.live 0)).fail s.data.toList 2).out):=parse_eq _ (by rw [size_data];exact hl)
  have hfu:Sp.fuel s.data.toList=32*(s.size+4):=by unfold Sp.fuel;rw [size_data]
  obtain ⟨m,hm⟩:∃ m,Sp.fuel s.data.toList=m+1:=⟨Sp.fuel s.data.toList - 1,by omega⟩
  have HF:Hid (m+1<=900000/\32*Sp.rem s.data.toList (.live 0)+31<=m+1):=by
   have:Sp.rem s.data.toList (.live 0)=s.size+1:=by simp [Sp.rem]
   exact ⟨by omega,by rw [this];omega⟩
  have HT:Hid (Sp.tree s.data.toList=Sp.stm s.data.toList (m+1) (.live 0)):=by show _=_;unfold Sp.tree;rw [hm]
  rw [hm] at HV
  have HL:Hid (s.data.toList.length<=100000):=by show _<=_;rw [size_data];omega
  have HVM:=hid hv
  clear hfu hm hv
  go_enter Tryz.func37,Tryz.ntmps37
  go_wp2_with fail
  refine (split_any _ _ (by omega) hr).mono ?_
  rintro r w1 ⟨g,len,cap,xs,wds,rfl,tk,hg,hown,tc,hb⟩
  have HP:Hid (PS w1.heap.size g cap len s.data.toList 0 (.live 0) (w1.alloc (.cells #[.slice (some ⟨g,0,none⟩) len cap, .int .i64 0, .int .i64 0, .int .i64 0, .int .i64 0] 120))):=ps_start tk (by obtain ⟨_,_,h⟩:=HVM.out;exact h) (by obtain ⟨x,h,_⟩:=HVM.out.below hb;exact ⟨x,h⟩) hb.size hown tc
  have HB:=hid hb
  clear tk hown tc hb
  go_wp2_with fail
  refine (statement_any (all_parts _ _ _ _ _ HL.out (m+1) (m+1) (Nat.le_refl _)) (all_parts _ _ _ _ _ HL.out m m (Nat.le_refl _)) HF.out.1 HF.out.2 HP.out).mono ?_
  rintro r w2 ⟨v2,rfl,hp2,hk2,hi2,hq2⟩
  have HQ2:Hid ((Sp.stmt s.data.toList (m+1) (.live 0)).isLive=true->StV w2 (Sp.stm s.data.toList (m+1) (.live 0)) (w1.heap.size+1) w2.heap.size v2):=fun hl=>by have:=hq2 hl;simpa using this
  have HI2:=hid hi2
  generalize hσ:Sp.stmt s.data.toList (m+1) (.live 0)=σ at *
  clear hσ hq2 hi2
  have HP2:=hid hp2
  have HK2:Hid (Kept w1.heap.size w1 w2):=((Kept.refl _ _).alloc _).trans hk2
  clear hp2 hk2 HP
  go_wp2_with fail
  refine (expectEnd_any HP2.out).mono ?_
  rintro r w3 ⟨rfl,hp3,hk3⟩
  have HK32:=hid hk3
  generalize hτ:(if σ.isCl s.data.toList .fin then σ else σ.fail s.data.toList 2)=τ at *
  have HLT:Hid (τ.isLive=true->σ.isLive=true):=fun h=>by
   rw [<- hτ] at h
   split at h
   ·exact h
   ·exact (Sp.live_fail h).elim
  clear hτ
  have hbl:Below w.heap.size w w3:=by
   have HK3:=HK2.out.trans hk3
   exact ⟨HK3.os.trans HB.out.os,HK3.tape.trans HB.out.tape,HK3.output.trans HB.out.output,Nat.le_trans HB.out.size HK3.size,fun k hk=>(HK3.block k (Nat.lt_of_lt_of_le hk HB.out.size) (by have:=HB.out.size;omega)).trans (HB.out.block k hk)⟩
  have HBL:=hid hbl
  have c3:=hp3.h3
  have c4:=hp3.h4
  have hix:=hp3.h1
  clear hp3 hk3 HP2 HK2 hbl
  cases τ with
  | live e=>
   have HST:Hid (StV w3 (Sp.tree s.data.toList) w.heap.size w3.heap.size v2):=by
    show StV _ _ _ _ _
    rw [HT.out]
    have hz:=HB.out.size
    have hz3:=HK32.out.size
    have q:=HQ2.out (HLT.out rfl)
    exact (q.frame hz3 HI2.out fun k h1 h2=>HK32.out.block k h2 (by omega)).wide (by omega) hz3
   have he:((er (Sp.St.live e):Int) != 0)=false:=rfl
   clear hix
   go_wp2_with fail
   exact bodyPost_ret (v := .tuple #[v2, .int .i64 0, .int .i64 0]) (by simp [results,Tryz.results37,go_sem, *]) rfl ⟨_,by rw [HV.out];rfl,HBL.out,HI2.out,fun _=>HST.out⟩
  | dead x y=>
   have hx:x≠0:=by obtain ⟨i,h,_⟩:=hix;exact h.2
   have he:((er (Sp.St.dead x y):Int) != 0)=true:=by
    show ((x:Int) != 0)=true
    simp;omega
   have HX:=hid hx
   clear hix hx
   go_wp2_with fail
   go_quiet (fail)
   go_wp2_with fail
   exact bodyPost_ret (v := .tuple #[.nilIface, .int .i64 (er (Sp.St.dead x y):Nat), .int .i64 (ea (Sp.St.dead x y):Nat)]) (by simp [results,Tryz.results37,go_sem, *]) rfl ⟨_,by rw [HV.out];rfl,below_drewN HBL.out _,Or.inl rfl,fun h=>by rw [HV.out] at h;exact (HX.out h).elim⟩
theorem parse_any (s:ByteArray) (w:World) (hs:s.size<=maxLen) (hr:VR w) (hv:VM w) :
  Calls Tryz.prog 27 #[.string s] w fun e w'=>e = .returned (.tuple #[.int .i64 ((Sp.parse s.data.toList).1:Nat), .int .i64 ((Sp.parse s.data.toList).2:Nat)])/\Below w.heap.size w w':=by
 have HR:=hid hr
 have HV:=hid hv
 clear hr hv
 go_enter Tryz.func27,Tryz.ntmps27
 go_wp2_with fail
 refine (synParse_any _ _ hs HR.out HV.out).mono ?_
 rintro r w1 ⟨v,rfl,hb,_,_⟩
 have HB:Hid (Below w.heap.size w w1):=hb
 clear hb
 go_wp2_with fail
 go_ret2
 exact ⟨rfl,HB.out⟩
end Go.Proofs.YtgnncnhkgmhngaaGreatDoor
