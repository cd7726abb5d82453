import Derived.Test.YtgnncnhkgmhngaaGreatDoorJ17
set_option maxHeartbeats 20000000
namespace Go.Proofs.YtgnncnhkgmhngaaGreatDoor
open Sp
open Tryz
open Go.RowKit
theorem Ek:∀ {l:Sp.Bs} {n:Nat},bJ l=some n->1<=n:=by
 intro l
 induction l using bJ.induct with
 | case1=>intro n h;simp [bJ] at h
 | case2=>intro n h;simp_all [bJ]
 | case3 c h1 c' r' h2 ih=>
  intro n h
  simp only [bJ,h1,h2,if_true] at h
  cases hx:bJ r' with
  | none=>rw [hx] at h;simp at h
  | some k=>rw [hx] at h;simp at h;omega
 | case4=>intro n h;simp_all [bJ]
 | case5 c r h1 ih=>
  intro n h
  rw [bJ.eq_def] at h
  simp only [if_neg h1] at h
  cases hx:bJ r with
  | none=>rw [hx] at h;simp at h
  | some k=>rw [hx] at h;simp at h;omega
theorem Ka {s:Sp.Bs} {e:Nat} (h:aE s e = .txt):2<=(bZ s e).length:=by
 unfold aE at h
 unfold bZ l0
 generalize s.drop (aP s e)=l at *
 cases l with
 | nil=>simp [Sp.first] at h
 | cons c r=>
  cases h1:i8 c
  ·cases h2:bU c
   ·cases h3:(c == 39)
    ·rw [kV h1 h2 h3] at h;split at h <;> cases h
    ·rw [n8 h1 h2 h3] at h ⊢
     cases ht:bJ r with
     | none=>rw [ht] at h;cases h
     | some n=>
      simp only
      have a:=Ek ht
      have b:=jT r n ht
      rw [List.length_take]
      simp
      omega
   ·rw [n7 h1 h2] at h
    simp only at h
    split at h <;> cases h
  ·rw [kU h1] at h
   simp only at h
   split at h
   ·cases h
   ·split at h <;> cases h
def VM (w:World):Prop:=∃ m:Int,w.cell? ⟨5,0,none⟩=some (.int .i64 m)/\5<w.heap.size
theorem VM.below {w w' : World} (h:VM w) (k:Below w.heap.size w w'):VM w':=by
 obtain ⟨m,h1,h2⟩:=h
 exact ⟨m,(k.cell (p:=⟨5,0,none⟩) h2).trans h1,b6 h2 k.size⟩
theorem PS.Y3 {b c cap len:Nat} {s:Sp.Bs} {d:Nat} {σ:St} {w:World} (h:PS b c cap len s d σ w):VM w:=by
 obtain ⟨m,hm⟩:=h.vm
 have h1:=h.h5
 have h2:=h.lc
 exact ⟨m,hm,by omega⟩
theorem VM.kept {b:Nat} {w w' : World} (h:VM w) (k:Kept b w w') (hb:b≠5):VM w':=by
 obtain ⟨m,h1,h2⟩:=h
 exact ⟨m,(k.cell (p:=⟨5,0,none⟩) h2 (Ne.symm hb)).trans h1,b6 h2 k.size⟩
theorem countB_le (s sub:ByteArray):Lib.countB s sub<=s.size+1:=by
 have:=Lib.count_le s.data.toList sub.data.toList
 rw [size_data] at this
 exact this
theorem clone_any (s:ByteArray) (w:World) (hs:s.size<=100000):Calls prog 142 #[.string s] w λe w'=>e = .returned (.string s)/\Below w.heap.size w w':=by
 go_enter func142,ntmps142
 go_wp2_with fail
 refine (stringslite_Clone s _ (by omega)).mono ?_
 rintro e w1 ⟨rfl,hb⟩
 go_wp2_with fail
 go_ret
 exact ⟨rfl,hb⟩
theorem uS (s:ByteArray):(s.extract 1 (s.size - 1)).data.toList=(s.data.toList.drop 1).take (s.data.toList.length - 2):=by
 rw [Lib.extract_data,size_data]
 congr 1
theorem El:∀ l:Sp.Bs,(Mk l).length<=l.length
 | []=>aF _
 | [c]=>aF _
 | c::c'::r=>by
  rw [Mk]
  split
  ·have:=El r;simp;omega
  ·have:=El (c'::r);simp at this ⊢;omega
theorem Em (s:ByteArray) (w:World) (h2:2<=s.size) (hs:s.size<=100000) (hm:VM w) :
  Calls prog 342 #[.string s] w λe w'=>e = .returned (dF (Sv.text ⟨(kR s.data.toList).toArray⟩))/\Below w.heap.size w w':=by
 have HV:Hid (kR s.data.toList=Lib.replaceAll (s.extract 1 (s.size - 1)).data.toList [39,39] [39]):=by
  show _=_
  rw [uR,uS s];rfl
 have hsz:(s.extract 1 (s.size - 1)).size<=100000:=by
  have:=congrArg List.length (uS s)
  rw [size_data,List.length_take,List.length_drop,size_data] at this
  omega
 have HC:Hid ((s.extract 1 (s.size - 1)).size+Lib.countB (s.extract 1 (s.size - 1)) ⟨#[39,39]⟩*(⟨#[39]⟩:ByteArray).size<=140737488355328):=by
  have:=countB_le (s.extract 1 (s.size - 1)) ⟨#[39,39]⟩
  have e1:(⟨#[39]⟩:ByteArray).size=1:=rfl
  show _<=_
  rw [e1]
  omega
 have HB0:Hid (Bk (w.alloc (.cells #[.int .i64 0, .int .i64 0, .string ⟨#[]⟩] 40)) w.heap.size [.int .i64 0, .int .i64 0, .string ⟨#[]⟩]):=Bk.new _ _ _
 have PH:Hid (Below w.heap.size w (w.alloc (.cells #[.int .i64 0, .int .i64 0, .string ⟨#[]⟩] 40))):=(Below.refl _ _).alloc (aF _) _
 have Y4:Hid (VM (w.alloc (.cells #[.int .i64 0, .int .i64 0, .string ⟨#[]⟩] 40))):=hm.below ((Below.refl _ _).alloc (aF _) _)
 have Ji:=hid hsz
 clear hm hsz
 go_enter func342,ntmps342
 go_wp2_with fail
 obtain ⟨m,hm1,hm2⟩:=Y4.out
 refine (strings_ReplaceAll (s.extract 1 (s.size - 1)) ⟨#[39,39]⟩ ⟨#[39]⟩ m _ (by have:=Ji.out;omega) hm1 (by decide) HC.out).mono ?_
 clear hm1 hm2
 generalize (w.alloc (.cells #[.int .i64 0, .int .i64 0, .string ⟨#[]⟩] 40))=w0 at *
 rintro e w1 ⟨rfl,hb1⟩
 have e0:Lib.replaceAll (s.extract 1 (s.size - 1)).data.toList (⟨#[39,39]⟩:ByteArray).data.toList (⟨#[39]⟩:ByteArray).data.toList=kR s.data.toList:=HV.out.symm
 rw [e0]
 have hle:(⟨(kR s.data.toList).toArray⟩:ByteArray).size<=100000:=by
  show (kR s.data.toList).toArray.size<=100000
  rw [List.size_toArray]
  have a:(kR s.data.toList).length<=((s.data.toList.drop 1).take (s.data.toList.length - 2)).length:=El _
  rw [List.length_take,List.length_drop,size_data] at a
  omega
 have Y5:=hid hle
 clear hle e0
 have HB1:=hid (HB0.out.below hb1)
 have MK:Hid (Below w.heap.size w w1):=PH.out.trans (hb1.mono PH.out.size)
 clear hb1 HB0 PH HV HC Ji
 generalize Ul:(⟨(kR s.data.toList).toArray⟩:ByteArray)=tv at *
 have Y6:=hid Ul
 clear Ul
 go_wp2_with fail
 refine (clone_any _ _ Y5.out).mono ?_
 rintro e w2 ⟨rfl,hb2⟩
 have HB2:=hid (HB1.out.below hb2)
 have HL2:Hid (Below w.heap.size w w2):=MK.out.trans (hb2.mono MK.out.size)
 clear hb2
 go_wp2_with fail
 refine (MI _ _).mono ?_
 rintro e w3 ⟨rfl,hb3⟩
 have hB3:=HB2.out.below hb3
 have Sc:Hid (Below w.heap.size w w3):=HL2.out.trans (hb3.mono HL2.out.size)
 have c0:=hB3.k0
 have c1:=hB3.k1
 have c2:=hB3.k2
 have f0:=hB3.f 0
 have f1:=hB3.f 1
 have f2:=hB3.f 2
 clear hB3 hb3
 go_wp2_with fail
 exact cV (v:=dF (Sv.text tv)) (by simp [results,results342,go_sem, *]) rfl ⟨by rw [Y6.out],((Sc.out.setCell (aF _) _).setCell (aF _) _).setCell (aF _) _⟩
attribute [local go_sem ↓] Go.wp_at_zero Go.wp_at_succ
theorem Hp {c:Nat} {s:Sp.Bs} {len i:Nat} {σ:St} {w:World} {wd:ByteArray} (tk:TK s len) (hi:IX s len i σ) (_tc:TC c s w i wd):(kn (aE s (pos s i)) == 3)=σ.cP s .name:=by
 cases σ with
 | live e=>
  rw [hi.2]
  show _=(aE s e == .name)
  cases aE s e <;> rfl
 | dead x a=>
  rcases tk.last i hi.1 with h | h <;> rw [h] <;> rfl
theorem Rp.Y7 {W:World} {x:Nd} {lo l1 h1 bb hi:Nat} {v:Value} {wd:Sp.Bs} {a:Nat} (r1:Rp W x l1 h1 v) (hI:xR l1 h1 v) (e0:lo<=l1) (e2:h1<=bb) (e4:bb<hi) (kb:At W bb [.string (bz wd), .int .i64 (a:Int),v]) :
  Rp W (.op wd a x) lo hi (.iface 363 (.pointer (some ⟨bb,0,none⟩))):=by
 have l1:=Rp.le _ _ _ _ r1
 exact ⟨bb,_,_,_,rfl,by omega,e4,by unfold Sub;omega,kb,hI.wide e0 (by omega),r1⟩
theorem Ep {b c cap len:Nat} {s:Sp.Bs} {d:Nat} {σ:St} {w:World} (h:PS b c cap len s d σ w) (z:Sp.Bs) (hf:z∈jC) (q:Nat) (hq:q=w.heap.size) :
  Calls prog 122 #[.pointer (some ⟨b,0,none⟩), .slice (some ⟨q,0,none⟩) 1 1] (w.alloc (.cells #[.string ⟨z.toArray⟩] 9)) λr w'=>r = .returned (.bool (σ.is s z))/\PS b c cap len s d σ w'/\Kept b w w':=by
 subst hq;exact mN h z hf
theorem is_other {s:Sp.Bs} {z y:Sp.Bs} {σ:St} (h:σ.is s z=true) (hn:(z == y)=false):σ.is s y=false:=by
 cases σ with
 | dead x a=>rfl
 | live e=>
  simp only [St.is,Bool.and_eq_true,beq_iff_eq] at h
  simp only [St.is,h.2,hn,Bool.and_false]
theorem FY {s:Sp.Bs} (e:Nat) (hl:s.length<=100000):(bZ s e).length<=100000:=by
 unfold bZ
 rw [List.length_take,List.length_drop]
 omega
theorem PI {s:Sp.Bs} {σ:St} (h:σ.cP s .num=true) (hsl:s.length<=100000):∀ wd:ByteArray,wd=bz (σ.word s)->wd.data.toList=σ.word s/\wd.data.toList ≠ []/\wd.data.toList.all bU=true/\dK wd.data.toList<9223372036854775808/\wd.size<=100000:=by
 intro wd hw
 subst hw
 cases σ with
 | dead x a=>cases h
 | live e=>
  have hc:aE s e = .num:=by simpa [St.cP] using h
  obtain ⟨a,b,c⟩:=J9 hc
  have e1:(bz (St.word s (.live e))).data.toList=bZ s e:=by simp [bz,St.word]
  refine ⟨e1,?_,?_,?_,?_⟩
  ·rw [e1];exact a
  ·rw [e1];exact b
  ·rw [e1];exact c
  ·rw [<- size_data,e1];exact FY e hsl
theorem PJ {s:Sp.Bs} {σ:St} (h:σ.cP s .txt=true) (hsl:s.length<=100000):∀ wd:ByteArray,wd=bz (σ.word s)->wd.data.toList=σ.word s/\2<=wd.size/\wd.size<=100000:=by
 intro wd hw
 subst hw
 cases σ with
 | dead x a=>cases h
 | live e=>
  have hc:aE s e = .txt:=by simpa [St.cP] using h
  have a:=Ka hc
  have e1:(bz (St.word s (.live e))).data.toList=bZ s e:=by simp [bz,St.word]
  refine ⟨e1,?_,?_⟩
  ·rw [<- size_data,e1];exact a
  ·rw [<- size_data,e1];exact FY e hsl
theorem Kb {b c cap len:Nat} {s:Sp.Bs} {n d:Nat} {σ:St} {w:World} (hsl:s.length<=100000) (IH:Hid (∀ m,m<=n->All b c cap len s m)) (hd:d+(n+1)<=1000000) (hm:32*rem s σ+2<=n+1) (hp:PS b c cap len s d σ w) :
  Calls prog 337 #[.pointer (some ⟨b,0,none⟩)] w (aX b c cap len s d (Sp.run s (n+1) .atom d σ) w aR λw' v=>Rp w' (Sp.tr s (n+1) .atom d .nil σ) w.heap.size w'.heap.size v):=by
 have hbw:=hp.lb
 have hcw:=hp.lc
 obtain ⟨i,wd,hi,tc,PK⟩:=bG hp
 have hk3:=Hp hp.tk hi tc
 have jV:Hid (σ.aA=true->aP s (pos s i)=σ.at_ s/\((∀ e,σ = .live e->aE s e ≠ .bad)->wd=bz (σ.word s))):=λhl=>dW hi tc hl
 have J0:=hid hp
 have gP:=jR PK
 clear hp hi tc PK
 generalize kn (aE s (pos s i))=kk at *
 generalize aP s (pos s i)=aa at *
 have hmf:=mG
 go_enter func337,ntmps337
 go_wp2_with fail
 refine (gP.out _ rfl).mono ?_
 rintro r w0 ⟨rfl,hb0⟩
 have hz0:=hb0.size
 have rI:Hid (PS b c cap len s d σ (w0.alloc (.cells #[.int .i64 kk, .int .i64 (aa:Int), .string wd] 155))):=(J0.out.below hb0).alloc _
 have pY:Hid (Kept b w (w0.alloc (.cells #[.int .i64 kk, .int .i64 (aa:Int), .string wd] 155))):=(Kept.below hb0).alloc _
 have HX0:Hid (Bk (w0.alloc (.cells #[.int .i64 kk, .int .i64 (aa:Int), .string wd] 155)) w0.heap.size [.int .i64 kk, .int .i64 (aa:Int), .string wd]):=Bk.new _ _ _
 clear hb0 gP J0
 go_wp2_with fail
 refine (fS rI.out .num (by decide) (by decide) _ rfl).mono ?_
 rintro r w1 ⟨rfl,hp,hk⟩
 cases c7:σ.cP s .num
 case true=>
  have HV:Hid (Sp.run s (n+1) .atom d σ=σ.step s):=by show _=_;rw [Sp.run];simp [c7]
  have cL:Hid (Sp.tr s (n+1) .atom d .nil σ=Nd.const (Sv.int (dK (σ.word s):Nat))):=by show _=_;rw [Sp.tr];simp [c7]
  have Vf:Hid (∀ wd:ByteArray,wd=bz (σ.word s)->wd.data.toList=σ.word s/\wd.data.toList ≠ []/\wd.data.toList.all bU=true/\dK wd.data.toList<9223372036854775808/\wd.size<=100000):=PI c7 hsl
  have HT:Hid (aa=σ.at_ s/\wd=bz (σ.word s)):=⟨(jV.out (jQ c7)).1,(jV.out (jQ c7)).2 (zN c7 (by decide))⟩
  rw [c7] at hp
  have bP:Hid (PS b c cap len s d (σ.step s) w1):=hp
  have bD:=hid (pY.out.trans hk)
  have qY:Hid (Bk w1 w0.heap.size [.int .i64 kk, .int .i64 (aa:Int), .string wd]):=HX0.out.kept hk (by omega)
  clear hp hk rI pY HX0
  have hx:=qY.out.lt
  have x0:=qY.out.k0
  have x1:=qY.out.k1
  have x2:=qY.out.k2
  obtain ⟨n1,n2,n3,n4,n5⟩:=Vf.out wd HT.out.2
  have Jg:=hid n1
  clear n1
  go_wp2_with fail
  refine (z7 _ _ n2 n3 n5 n4).mono ?_
  rintro e w2 ⟨rfl,hb⟩
  have ML:=hid (bP.out.below hb)
  have Bc:Hid (Kept b w w2):=bD.out.trans (Kept.below hb)
  clear hb
  go_wp2_with fail
  go_ret
  refine ⟨_,rfl,by rw [HV.out];exact ML.out.alloc _,Bc.out.alloc _,Or.inr ⟨_,_,rfl⟩,λ_=>?_⟩
  rw [cL.out,<- Jg.out]
  exact qA (Bk.new w2 _ _).at_ Bc.out.size (by simp)
 rw [c7] at hp
 have bP:Hid (PS b c cap len s d σ w1):=hp
 have bD:=hid (pY.out.trans hk)
 have qY:Hid (Bk w1 w0.heap.size [.int .i64 kk, .int .i64 (aa:Int), .string wd]):=HX0.out.kept hk (by omega)
 clear hp hk rI pY HX0
 go_wp2_with fail
 refine (fS bP.out .txt (by decide) (by decide) _ rfl).mono ?_
 rintro r w2 ⟨rfl,hp,hk⟩
 cases dQ:σ.cP s .txt
 case true=>
  have HV:Hid (Sp.run s (n+1) .atom d σ=σ.step s):=by show _=_;rw [Sp.run];simp [c7,dQ]
  have cL:Hid (Sp.tr s (n+1) .atom d .nil σ=Nd.const (Sv.text ⟨(kR (σ.word s)).toArray⟩)):=by show _=_;rw [Sp.tr];simp [c7,dQ]
  have Vf:Hid (∀ wd:ByteArray,wd=bz (σ.word s)->wd.data.toList=σ.word s/\2<=wd.size/\wd.size<=100000):=PJ dQ hsl
  have HT:Hid (aa=σ.at_ s/\wd=bz (σ.word s)):=⟨(jV.out (jQ dQ)).1,(jV.out (jQ dQ)).2 (zN dQ (by decide))⟩
  rw [dQ] at hp
  have HP2:Hid (PS b c cap len s d (σ.step s) w2):=hp
  have aY:=hid (bD.out.trans hk)
  have lL:Hid (Bk w2 w0.heap.size [.int .i64 kk, .int .i64 (aa:Int), .string wd]):=qY.out.kept hk (by omega)
  clear hp hk bP bD qY
  have hx:=lL.out.lt
  have x0:=lL.out.k0
  have x1:=lL.out.k1
  have x2:=lL.out.k2
  obtain ⟨n1,n2,n3⟩:=Vf.out wd HT.out.2
  have Jg:=hid n1
  clear n1
  go_wp2_with fail
  refine (Em _ _ n2 n3 HP2.out.Y3).mono ?_
  rintro e w3 ⟨rfl,hb⟩
  have ML:=hid (HP2.out.below hb)
  have Bc:Hid (Kept b w w3):=aY.out.trans (Kept.below hb)
  clear hb
  go_wp2_with fail
  go_ret
  refine ⟨_,rfl,by rw [HV.out];exact ML.out.alloc _,Bc.out.alloc _,Or.inr ⟨_,_,rfl⟩,λ_=>?_⟩
  rw [cL.out,<- Jg.out]
  exact qA (Bk.new w3 _ _).at_ Bc.out.size (by simp)
 rw [dQ] at hp
 have HP2:Hid (PS b c cap len s d σ w2):=hp
 have aY:=hid (bD.out.trans hk)
 have lL:Hid (Bk w2 w0.heap.size [.int .i64 kk, .int .i64 (aa:Int), .string wd]):=qY.out.kept hk (by omega)
 clear hp hk bP bD qY
 go_wp2_with fail
 refine (cX HP2.out [116,114,117,101] (by decide) _ (by simp)).mono ?_
 rintro r w3 ⟨rfl,hp,hk⟩
 cases eU:σ.is s [116,114,117,101]
 case true=>
  have HV:Hid (Sp.run s (n+1) .atom d σ=σ.step s):=by show _=_;rw [Sp.run];simp [c7,dQ,eU]
  have cL:Hid (Sp.tr s (n+1) .atom d .nil σ=Nd.const (Sv.bool true)):=by show _=_;rw [Sp.tr];simp [c7,dQ,eU]
  rw [aZ eU] at hp
  have dJ:=hid hp
  have bL:=hid (aY.out.trans hk)
  have wP:Hid (Bk w3 w0.heap.size [.int .i64 kk, .int .i64 (aa:Int), .string wd]):=lL.out.kept hk (by omega)
  clear hp hk HP2 aY lL
  go_wp2_with fail
  refine (FX true _).mono ?_
  rintro e w4 ⟨rfl,hb⟩
  have ML:=hid (dJ.out.below hb)
  have Bc:Hid (Kept b w w4):=bL.out.trans (Kept.below hb)
  clear hb
  go_wp2_with fail
  go_ret
  refine ⟨_,rfl,by rw [HV.out];exact ML.out.alloc _,Bc.out.alloc _,Or.inr ⟨_,_,rfl⟩,λ_=>?_⟩
  rw [cL.out]
  exact qA (Bk.new w4 _ _).at_ Bc.out.size (by simp)
 rw [bE eU] at hp
 have dJ:=hid hp
 have bL:=hid (aY.out.trans hk)
 have wP:Hid (Bk w3 w0.heap.size [.int .i64 kk, .int .i64 (aa:Int), .string wd]):=lL.out.kept hk (by omega)
 clear hp hk HP2 aY lL
 go_wp2_with fail
 refine (cX dJ.out [102,97,108,115,101] (by decide) _ (by simp)).mono ?_
 rintro r w4 ⟨rfl,hp,hk⟩
 cases fI:σ.is s [102,97,108,115,101]
 case true=>
  have HV:Hid (Sp.run s (n+1) .atom d σ=σ.step s):=by show _=_;rw [Sp.run];simp [c7,dQ,eU,fI]
  have cL:Hid (Sp.tr s (n+1) .atom d .nil σ=Nd.const (Sv.bool false)):=by show _=_;rw [Sp.tr];simp [c7,dQ,eU,fI]
  rw [aZ fI] at hp
  have iD:=hid hp
  have eS:=hid (bL.out.trans hk)
  have lM:Hid (Bk w4 w0.heap.size [.int .i64 kk, .int .i64 (aa:Int), .string wd]):=wP.out.kept hk (by omega)
  clear hp hk dJ bL wP
  go_wp2_with fail
  refine (FX false _).mono ?_
  rintro e w5 ⟨rfl,hb⟩
  have ML:=hid (iD.out.below hb)
  have Bc:Hid (Kept b w w5):=eS.out.trans (Kept.below hb)
  clear hb
  go_wp2_with fail
  go_ret
  refine ⟨_,rfl,by rw [HV.out];exact ML.out.alloc _,Bc.out.alloc _,Or.inr ⟨_,_,rfl⟩,λ_=>?_⟩
  rw [cL.out]
  exact qA (Bk.new w5 _ _).at_ Bc.out.size (by simp)
 rw [bE fI] at hp
 have iD:=hid hp
 have eS:=hid (bL.out.trans hk)
 have lM:Hid (Bk w4 w0.heap.size [.int .i64 kk, .int .i64 (aa:Int), .string wd]):=wP.out.kept hk (by omega)
 clear hp hk dJ bL wP
 go_wp2_with fail
 refine (cX iD.out [110,117,108,108] (by decide) _ (by simp)).mono ?_
 rintro r w5 ⟨rfl,hp,hk⟩
 cases gC:σ.is s [110,117,108,108]
 case true=>
  have HV:Hid (Sp.run s (n+1) .atom d σ=σ.step s):=by show _=_;rw [Sp.run];simp [c7,dQ,eU,fI,gC]
  have cL:Hid (Sp.tr s (n+1) .atom d .nil σ=Nd.const (Sv.null)):=by show _=_;rw [Sp.tr];simp [c7,dQ,eU,fI,gC]
  rw [aZ gC] at hp
  have i7:=hid hp
  have iR:=hid (eS.out.trans hk)
  have eT:Hid (Bk w5 w0.heap.size [.int .i64 kk, .int .i64 (aa:Int), .string wd]):=lM.out.kept hk (by omega)
  clear hp hk iD eS lM
  go_wp2_with fail
  refine (MJ _).mono ?_
  rintro e w6 ⟨rfl,hb⟩
  have ML:=hid (i7.out.below hb)
  have Bc:Hid (Kept b w w6):=iR.out.trans (Kept.below hb)
  clear hb
  go_wp2_with fail
  go_ret
  refine ⟨_,rfl,by rw [HV.out];exact ML.out.alloc _,Bc.out.alloc _,Or.inr ⟨_,_,rfl⟩,λ_=>?_⟩
  rw [cL.out]
  exact qA (Bk.new w6 _ _).at_ Bc.out.size (by simp)
 rw [bE gC] at hp
 have i7:=hid hp
 have iR:=hid (eS.out.trans hk)
 have eT:Hid (Bk w5 w0.heap.size [.int .i64 kk, .int .i64 (aa:Int), .string wd]):=lM.out.kept hk (by omega)
 clear hp hk iD eS lM
 have hx:=eT.out.lt
 have x0:=eT.out.k0
 have x1:=eT.out.k1
 have x2:=eT.out.k2
 cases gQ:σ.cP s .name
 case true=>
  have HV:Hid (Sp.run s (n+1) .atom d σ=colS s σ):=by show _=_;rw [Sp.run];simp [c7,dQ,eU,fI,gC,gQ,colS]
  have cL:Hid (Sp.tr s (n+1) .atom d .nil σ=iI s σ):=by show _=_;rw [Sp.tr];simp [c7,dQ,eU,fI,gC,gQ,iI]
  rw [gQ] at hk3
  go_wp2_with fail
  refine (D9 i7.out gQ).mono ?_
  rintro r w9 ⟨v9,rfl,uN,hk9,hi9,BS⟩
  have HX:Hid (PS b c cap len s d (colS s σ) w9/\Kept b w w9/\aR v9/\((colS s σ).aA=true->Rp w9 (iI s σ) w.heap.size w9.heap.size v9)):=⟨uN,iR.out.trans hk9,hi9,λhl=>Rp.wide _ _ _ _ _ _ (BS hl) iR.out.size (aF _)⟩
  clear uN hk9 hi9 BS
  go_wp2_with fail
  go_ret
  exact ⟨_,rfl,by rw [HV.out];exact HX.out.1,HX.out.2.1,HX.out.2.2.1,by rw [HV.out,cL.out];exact HX.out.2.2.2⟩
 rw [gQ] at hk3
 go_wp2_with fail
 clear x0 x1 x2 hx
 cases dY:σ.is s [40]
 case true=>
  cases yC:σ.asks s
  case true=>
   have h1:=eN (d:=d) dY
   have HV:Hid (Sp.run s (n+1) .atom d σ=St.must s [41] (Sp.run s n .query (d+1) (St.dP s d σ))):=by show _=_;rw [Sp.run];simp [c7,dQ,eU,fI,gC,gQ,dY,yC]
   have cL:Hid (Sp.tr s (n+1) .atom d .nil σ=Nd.within (σ.word s) (σ.at_ s) .nil (Sp.tr s n .query (d+1) .nil (St.dP s d σ))):=by show _=_;rw [Sp.tr];simp [c7,dQ,eU,fI,gC,gQ,dY,yC]
   rw [<- dA dY] at h1 HV cL
   have HT:Hid (aa=σ.at_ s/\wd=bz (σ.word s)):=⟨(jV.out (cS dY)).1,(jV.out (cS dY)).2 (dM dY)⟩
   obtain ⟨e,rfl⟩:∃ e,σ = .live e:=by cases σ with | live e=>exact ⟨e,rfl⟩ | dead x a=>cases dY
   refine (qE i7.out dY).mono ?_
   rintro r w6 ⟨rfl,hp,hk⟩
   rw [yC]
   have kN:=hid hp
   have iS:=hid (iR.out.trans hk)
   have jF:Hid (Bk w6 w0.heap.size [.int .i64 kk, .int .i64 (aa:Int), .string wd]):=eT.out.kept hk (by omega)
   clear hp hk i7 iR eT
   have hx:=jF.out.lt
   have x0:=jF.out.k0
   have x1:=jF.out.k1
   have x2:=jF.out.k2
   go_wp2_with fail
   refine (kX kN.out (by omega) _ _ _ _ _ _ (Sp.run s n .query (d+1) (St.opened s [40] d (.live e))) (Sp.tr s n .query (d+1) .nil (St.opened s [40] d (.live e))) (λw' hp'=>((IH.out n (aF _)).query (d+1) _ _ (by omega) (by show 32*rem s _+15<=n;omega) hp').mono λ_ _ h=>h.rq)).mono ?_
   rintro r w9 ⟨qv,bb,rfl,uN,hk9,Sf,hi9,Vg,BS⟩
   have HX:Hid (PS b c cap len s d (St.must s [41] (Sp.run s n .query (d+1) (St.opened s [40] d (.live e)))) w9/\Kept b w w9/\At w9 bb [.string wd, .int .i64 (aa:Int), .slice none 0 0,qv]/\aR qv/\w.heap.size<=bb/\((St.must s [41] (Sp.run s n .query (d+1) (St.opened s [40] d (.live e)))).aA=true->Rp w9 (Sp.tr s n .query (d+1) .nil (St.opened s [40] d (.live e))) w6.heap.size bb qv)):=⟨uN,iS.out.trans hk9,Sf,hi9,by have:=iS.out.size;omega,BS⟩
   clear uN hk9 Sf hi9 Vg BS x0 x1 x2
   go_wp2_with fail
   go_ret
   obtain ⟨g1,g2,g3,g4,g5,g6⟩:=HX.out
   refine ⟨_,rfl,by rw [HV.out];exact g1,g2,Or.inr ⟨_,_,rfl⟩,λhl=>?_⟩
   rw [HV.out] at hl
   rw [cL.out]
   obtain ⟨e1,e2⟩:=HT.out
   subst e1 e2
   exact Rp.FS (g6 hl) g4.bC iS.out.size g3.1 g3
  have gR:σ.is s [101,120,105,115,116,115]=false:=is_other dY (by decide)
  have h1:=eN (d:=d) dY
  have HV:Hid (Sp.run s (n+1) .atom d σ=St.must s [41] (Sp.run s n .expr (d+1) (St.dP s d σ))):=by show _=_;rw [Sp.run];simp [c7,dQ,eU,fI,gC,gQ,dY,yC]
  have cL:Hid (Sp.tr s (n+1) .atom d .nil σ=Sp.tr s n .expr (d+1) .nil (St.dP s d σ)):=by show _=_;rw [Sp.tr];simp [c7,dQ,eU,fI,gC,gQ,dY,yC]
  rw [<- dA dY] at h1 HV cL
  obtain ⟨e,rfl⟩:∃ e,σ = .live e:=by cases σ with | live e=>exact ⟨e,rfl⟩ | dead x a=>cases dY
  refine (qE i7.out dY).mono ?_
  rintro r w6 ⟨rfl,hp,hk⟩
  rw [yC]
  have kN:=hid hp
  have iS:=hid (iR.out.trans hk)
  have jF:Hid (Bk w6 w0.heap.size [.int .i64 kk, .int .i64 (aa:Int), .string wd]):=eT.out.kept hk (by omega)
  clear hp hk i7 iR eT
  go_wp2_with fail
  refine (cX kN.out [101,120,105,115,116,115] (by decide) _ (by simp)).mono ?_
  rintro r w7 ⟨rfl,hp,hk⟩
  rw [bE gR] at hp
  rw [gR]
  have pQ:=hid hp
  have sF:=hid (iS.out.trans hk)
  have qB:Hid (Bk w7 w0.heap.size [.int .i64 kk, .int .i64 (aa:Int), .string wd]):=jF.out.kept hk (by omega)
  clear hp hk kN iS jF
  go_wp2_with fail
  refine (Ep pQ.out [40] (by decide) _ (by simp)).mono ?_
  rintro r w8 ⟨rfl,hp,hk⟩
  rw [dY]
  have Hm:=hid hp
  have FU:=hid (sF.out.trans hk)
  have Ot:Hid (Bk w8 w0.heap.size [.int .i64 kk, .int .i64 (aa:Int), .string wd]):=qB.out.kept hk (by omega)
  clear hp hk pQ sF qB
  go_wp2_with fail
  refine (jE (.inl ⟨rfl,rfl,rfl,rfl,rfl,rfl⟩) Hm.out (by omega) (Sp.run s n .expr (d+1) (St.opened s [40] d (.live e))) (Sp.tr s n .expr (d+1) .nil (St.opened s [40] d (.live e))) (λw' hp'=>((IH.out n (aF _)).expr (d+1) _ _ (by omega) (by show 32*rem s _+9<=n;omega) hp').mono λ_ _ h=>h.rq)).mono ?_
  rintro r w9 ⟨v9,rfl,uN,hk9,hi9,BS⟩
  have HX:Hid (PS b c cap len s d (St.must s [41] (Sp.run s n .expr (d+1) (St.opened s [40] d (.live e)))) w9/\Kept b w w9/\aR v9/\((St.must s [41] (Sp.run s n .expr (d+1) (St.opened s [40] d (.live e)))).aA=true->Rp w9 (Sp.tr s n .expr (d+1) .nil (St.opened s [40] d (.live e))) w.heap.size w9.heap.size v9)):=⟨uN,FU.out.trans hk9,hi9,λhl=>Rp.wide _ _ _ _ _ _ (BS hl).1 FU.out.size (aF _)⟩
  clear uN hk9 hi9 BS
  go_wp2_with fail
  go_ret
  exact ⟨_,rfl,by rw [HV.out];exact HX.out.1,HX.out.2.1,HX.out.2.2.1,by rw [HV.out,cL.out];exact HX.out.2.2.2⟩
 refine (Ei i7.out dY).mono ?_
 rintro r w6 ⟨rfl,hp,hk⟩
 have kN:=hid hp
 have iS:=hid (iR.out.trans hk)
 have jF:Hid (Bk w6 w0.heap.size [.int .i64 kk, .int .i64 (aa:Int), .string wd]):=eT.out.kept hk (by omega)
 clear hp hk i7 iR eT
 go_wp2_with fail
 refine (cX kN.out [101,120,105,115,116,115] (by decide) _ (by simp)).mono ?_
 rintro r w7 ⟨rfl,hp,hk⟩
 cases gR:σ.is s [101,120,105,115,116,115]
 case true=>
  have h1:=aO gR
  have h3:=iO s [40] d (σ.step s)
  have HV:Hid (Sp.run s (n+1) .atom d σ=St.must s [41] (Sp.run s n .query (d+1) (St.opened s [40] d (σ.step s)))):=by show _=_;rw [Sp.run];simp [c7,dQ,eU,fI,gC,gQ,dY,gR]
  have cL:Hid (Sp.tr s (n+1) .atom d .nil σ=Nd.within (σ.word s) (σ.at_ s) .nil (Sp.tr s n .query (d+1) .nil (St.opened s [40] d (σ.step s)))):=by show _=_;rw [Sp.tr];simp [c7,dQ,eU,fI,gC,gQ,dY,gR]
  have HT:Hid (aa=σ.at_ s/\wd=bz (σ.word s)):=⟨(jV.out (cS gR)).1,(jV.out (cS gR)).2 (dM gR)⟩
  rw [aZ gR] at hp
  have pQ:=hid hp
  have sF:=hid (iS.out.trans hk)
  have qB:Hid (Bk w7 w0.heap.size [.int .i64 kk, .int .i64 (aa:Int), .string wd]):=jF.out.kept hk (by omega)
  clear hp hk kN iS jF
  have hx:=qB.out.lt
  have x0:=qB.out.k0
  have x1:=qB.out.k1
  have x2:=qB.out.k2
  go_wp2_with fail
  refine (kX pQ.out (by omega) _ _ _ _ _ _ (Sp.run s n .query (d+1) (St.opened s [40] d (σ.step s))) (Sp.tr s n .query (d+1) .nil (St.opened s [40] d (σ.step s))) (λw' hp'=>((IH.out n (aF _)).query (d+1) _ _ (by omega) (by show 32*rem s _+15<=n;omega) hp').mono λ_ _ h=>h.rq)).mono ?_
  rintro r w9 ⟨qv,bb,rfl,uN,hk9,Sf,hi9,Vg,BS⟩
  have HX:Hid (PS b c cap len s d (St.must s [41] (Sp.run s n .query (d+1) (St.opened s [40] d (σ.step s)))) w9/\Kept b w w9/\At w9 bb [.string wd, .int .i64 (aa:Int), .slice none 0 0,qv]/\aR qv/\w.heap.size<=bb/\((St.must s [41] (Sp.run s n .query (d+1) (St.opened s [40] d (σ.step s)))).aA=true->Rp w9 (Sp.tr s n .query (d+1) .nil (St.opened s [40] d (σ.step s))) w7.heap.size bb qv)):=⟨uN,sF.out.trans hk9,Sf,hi9,by have:=sF.out.size;omega,BS⟩
  clear uN hk9 Sf hi9 Vg BS x0 x1 x2
  go_wp2_with fail
  go_ret
  obtain ⟨g1,g2,g3,g4,g5,g6⟩:=HX.out
  refine ⟨_,rfl,by rw [HV.out];exact g1,g2,Or.inr ⟨_,_,rfl⟩,λhl=>?_⟩
  rw [HV.out] at hl
  rw [cL.out]
  obtain ⟨e1,e2⟩:=HT.out
  subst e1 e2
  exact Rp.FS (g6 hl) g4.bC sF.out.size g3.1 g3
 rw [bE gR] at hp
 have pQ:=hid hp
 have sF:=hid (iS.out.trans hk)
 have qB:Hid (Bk w7 w0.heap.size [.int .i64 kk, .int .i64 (aa:Int), .string wd]):=jF.out.kept hk (by omega)
 clear hp hk kN iS jF
 go_wp2_with fail
 refine (Ep pQ.out [40] (by decide) _ (by simp)).mono ?_
 rintro r w8 ⟨rfl,hp,hk⟩
 rw [dY]
 have Hm:=hid hp
 have FU:=hid (sF.out.trans hk)
 have Ot:Hid (Bk w8 w0.heap.size [.int .i64 kk, .int .i64 (aa:Int), .string wd]):=qB.out.kept hk (by omega)
 clear hp hk pQ sF qB
 go_wp2_with fail
 refine (cX Hm.out [99,111,97,108,101,115,99,101] (by decide) _ (by simp)).mono ?_
 rintro r w9 ⟨rfl,hp,hk⟩
 cases lN:σ.is s [99,111,97,108,101,115,99,101]
 case true=>
  have h1:=aO lN
  have h3:=iO s [40] d (σ.step s)
  have HV:Hid (Sp.run s (n+1) .atom d σ=St.must s [41] (Sp.run s n .list (d+1) (St.opened s [40] d (σ.step s)))):=by show _=_;rw [Sp.run];simp [c7,dQ,eU,fI,gC,gQ,dY,gR,lN]
  have cL:Hid (Sp.tr s (n+1) .atom d .nil σ=Nd.op (σ.word s) (σ.at_ s) (Sp.tr s n .list (d+1) .nil (St.opened s [40] d (σ.step s)))):=by show _=_;rw [Sp.tr];simp [c7,dQ,eU,fI,gC,gQ,dY,gR,lN]
  have HT:Hid (aa=σ.at_ s/\wd=bz (σ.word s)):=⟨(jV.out (cS lN)).1,(jV.out (cS lN)).2 (dM lN)⟩
  rw [aZ lN] at hp
  have J1:=hid hp
  have Hn:=hid (FU.out.trans hk)
  have A9:Hid (Bk w9 w0.heap.size [.int .i64 kk, .int .i64 (aa:Int), .string wd]):=Ot.out.kept hk (by omega)
  clear hp hk Hm FU Ot
  have hx:=A9.out.lt
  have x0:=A9.out.k0
  have x1:=A9.out.k1
  have x2:=A9.out.k2
  go_wp2_with fail
  go_region_held3 (λw'=>w'.cell? ⟨w0.heap.size,0,none⟩=some (.int .i64 kk)/\w'.cell? ⟨w0.heap.size,1,none⟩=some (.int .i64 (aa:Int))/\w'.cell? ⟨w0.heap.size,2,none⟩=some (.string wd)) (first | go_keep | exact ⟨y0,y1,y2⟩) (first | (go_at_call 346;refine (jE (.inr (.inl ⟨rfl,rfl,rfl,rfl,rfl,rfl⟩)) J1.out.drew (by omega) (Sp.run s n .list (d+1) (St.opened s [40] d (σ.step s))) (Sp.tr s n .list (d+1) .nil (St.opened s [40] d (σ.step s))) (λw' hp'=>(IH.out n (aF _)).list (d+1) _ _ (by omega) (by show 32*rem s _+10<=n;omega) hp')).mono ?_;rintro e wz ⟨v9,rfl,hpz,hkz,⟨sa,sn,sc,rfl⟩,hrz⟩;have mX : Kept b w9 wz:=((Kept.refl b w9).drew).trans hkz;have Sg:=A9.out.kept mX (by omega);have hy:=Sg.lt;have y0:=Sg.k0;have y1:=Sg.k1;have y2:=Sg.k2) | (go_at_call 252;refine (dN _ _ _ _ _ _ _).mono ?_;rintro e w10 ⟨rfl,rfl⟩))
  have Y8:=hid hpz
  have Y9:Hid (Kept b w wz):=Hn.out.trans mX
  have Za:Hid (_->Rq wz _ w9.heap.size wz.heap.size _):=hrz
  have hzz:=mX.size
  have hzw:=Hn.out.size
  clear hpz hkz mX hrz Sg y0 y1 y2 x0 x1 x2
  go_wp2_with fail
  go_ret
  refine ⟨_,rfl,by rw [HV.out];exact (Y8.out.alloc _).alloc _,(Y9.out.alloc _).alloc _,Or.inr ⟨_,_,rfl⟩,λhl=>?_⟩
  rw [HV.out] at hl
  rw [cL.out]
  obtain ⟨e1,e2⟩:=HT.out
  subst e1 e2
  have rz:=(Za.out hl).kept (b:=b) (((Kept.refl b wz).alloc (.cells #[.int .i64 kk, .int .i64 (St.at_ s σ:Nat), .string (bz (St.word s σ))] 155)).alloc (.cells #[.string (bz (St.word s σ)), .int .i64 (St.at_ s σ:Nat), .slice sa sn sc] 379)) (by omega) (aF _)
  refine Rp.Y7 rz.1 rz.2 hzw (by omega) (by simp) ?_
  have:=(Bk.new (wz.alloc (.cells #[.int .i64 kk, .int .i64 (St.at_ s σ:Nat), .string (bz (St.word s σ))] 155)) #[.string (bz (St.word s σ)), .int .i64 (St.at_ s σ:Nat), .slice sa sn sc] 379).at_
  simpa using this
 rw [bE lN] at hp
 have J1:=hid hp
 have Hn:=hid (FU.out.trans hk)
 have A9:Hid (Bk w9 w0.heap.size [.int .i64 kk, .int .i64 (aa:Int), .string wd]):=Ot.out.kept hk (by omega)
 clear hp hk Hm FU Ot
 go_wp2_with fail
 refine (Ep J1.out [99,97,115,101] (by decide) _ (by simp)).mono ?_
 rintro r w10 ⟨rfl,hp,hk⟩
 cases F5:σ.is s [99,97,115,101]
 case true=>
  have h1:=eN (d:=d) F5
  have HV:Hid (Sp.run s (n+1) .atom d σ=St.must s [101,110,100] (Sp.run s n .dB (d+1) (St.dP s d σ))):=by show _=_;rw [Sp.run];simp [c7,dQ,eU,fI,gC,gQ,dY,gR,lN,F5]
  have cL:Hid (Sp.tr s (n+1) .atom d .nil σ=Sp.tr s n .dB (d+1) .nil (σ.dP s d)):=by show _=_;rw [Sp.tr];simp [c7,dQ,eU,fI,gC,gQ,dY,gR,lN]
  rw [<- dA F5] at h1 HV cL
  obtain ⟨n',rfl⟩:∃ n',n=n'+2:=⟨n - 2,by omega⟩
  have J3:=hid hp
  have BJ:=hid (Hn.out.trans hk)
  have Vh:Hid (Bk w10 w0.heap.size [.int .i64 kk, .int .i64 (aa:Int), .string wd]):=A9.out.kept hk (by omega)
  clear hp hk J1 Hn A9
  go_wp2_with fail
  refine (rH (.inl ⟨rfl,rfl, .inr (.inr rfl),rfl,rfl,rfl⟩) J3.out [99,97,115,101] (by decide) (by omega) (St.must s [101,110,100] (Sp.run s (n'+2) .dB (d+1) (St.opened s [99,97,115,101] d σ))) (Sp.tr s (n'+2) .dB (d+1) .nil (St.opened s [99,97,115,101] d σ)) (λw' _ hp'=>(J8 IH (by omega) (by omega) hp').mono λ_ _ h=>h.rq)).mono ?_
  rintro r wz ⟨vz,rfl,hpz,hkz,hiz,hrz⟩
  have HX:Hid (PS b c cap len s d (St.must s [101,110,100] (Sp.run s (n'+2) .dB (d+1) (St.opened s [99,97,115,101] d σ))) wz/\Kept b w wz/\aR vz/\((St.must s [101,110,100] (Sp.run s (n'+2) .dB (d+1) (St.opened s [99,97,115,101] d σ))).aA=true->Rp wz (Sp.tr s (n'+2) .dB (d+1) .nil (St.opened s [99,97,115,101] d σ)) w.heap.size wz.heap.size vz)):=⟨hpz,BJ.out.trans hkz,hiz,λhl=>Rp.wide _ _ _ _ _ _ (hrz hl).1 BJ.out.size (aF _)⟩
  clear hpz hkz hiz hrz
  go_wp2_with fail
  go_ret
  exact ⟨_,rfl,by rw [HV.out];exact HX.out.1,HX.out.2.1,HX.out.2.2.1,by rw [HV.out,cL.out];exact HX.out.2.2.2⟩
 have HV:Hid (Sp.run s (n+1) .atom d σ=σ.fail s 2):=by show _=_;rw [Sp.run];simp [c7,dQ,eU,fI,gC,gQ,dY,gR,lN,F5]
 have cL:Hid (Sp.tr s (n+1) .atom d .nil σ=Sp.tr s n .dB (d+1) .nil (σ.dP s d)):=by show _=_;rw [Sp.tr];simp [c7,dQ,eU,fI,gC,gQ,dY,gR,lN]
 have J3:=hid hp
 have BJ:=hid (Hn.out.trans hk)
 have Vh:Hid (Bk w10 w0.heap.size [.int .i64 kk, .int .i64 (aa:Int), .string wd]):=A9.out.kept hk (by omega)
 clear hp hk J1 Hn A9
 go_wp2_with fail
 refine (gE J3.out).mono ?_
 rintro r w9 ⟨rfl,uN,hk9⟩
 have J1:=hid uN
 have Hn:=hid (BJ.out.trans hk9)
 clear uN hk9
 go_wp2_with fail
 go_ret
 exact ⟨_,rfl,by rw [HV.out];exact J1.out,Hn.out,Or.inl rfl,λhl=>by rw [HV.out] at hl;exact (fG hl).elim⟩
theorem Hq {b c cap len:Nat} {s:Sp.Bs} {n:Nat} (hsl:s.length<=100000) (IH:Hid (∀ m,m<=n->All b c cap len s m)):Sd b c cap len s (n+1) .atom aR 337:=λ_ _ _ hd hm hp=>Kb hsl IH hd hm hp
end Go.Proofs.YtgnncnhkgmhngaaGreatDoor
