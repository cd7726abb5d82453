import Derived.Test.YtgnncnhkgmhngaaGreatDoorJ21
set_option maxHeartbeats 20000000
namespace Go.Proofs.YtgnncnhkgmhngaaGreatDoor
open Sp
open Go.RowKit
theorem DL:∀ {l:Sp.Bs} {n:Nat},bJ l=some n->1<=n:=by
 intro l
 induction l using bJ.induct with
 | case1=>intro n h;simp [bJ] at h
 | case2=>intro n h;simp_all [bJ]
 | case3 c h1 c' r' h2 ih=>
  intro n h
  simp only [bJ,h1,h2,if_true] at h
  cases hx:bJ r' with
  | none=>rw [hx] at h;simp at h
  | some k=>rw [hx] at h;simp at h;omega
 | case4=>intro n h;simp_all [bJ]
 | case5 c r h1 ih=>
  intro n h
  rw [bJ.eq_def] at h
  simp only [if_neg h1] at h
  cases hx:bJ r with
  | none=>rw [hx] at h;simp at h
  | some k=>rw [hx] at h;simp at h;omega
theorem Jg {s:Sp.Bs} {e:Nat} (h:aD s e = .txt):2<=(bW s e).length:=by
 unfold aD at h
 unfold bW lG
 generalize s.drop (aO s e)=l at *
 cases l with
 | nil=>simp [Sp.first] at h
 | cons c r=>
  cases h1:iP c
  ·cases h2:bV c
   ·cases h3:(c == 39)
    ·rw [kH h1 h2 h3] at h;split at h <;> cases h
    ·rw [nH h1 h2 h3] at h ⊢
     cases ht:bJ r with
     | none=>rw [ht] at h;cases h
     | some n=>
      simp only
      have a:=DL ht
      have b:=jN r n ht
      rw [List.length_take]
      simp
      omega
   ·rw [nG h1 h2] at h
    simp only at h
    split at h <;> cases h
  ·rw [kG h1] at h
   simp only at h
   split at h
   ·cases h
   ·split at h <;> cases h
def VM (w:World):Prop:=∃ m:Int,w.cell? ⟨5,0,none⟩=some (.int .i64 m)/\5<w.heap.size
theorem VM.below {w w' : World} (h:VM w) (k:Below w.heap.size w w'):VM w':=by
 obtain ⟨m,h1,h2⟩:=h
 exact ⟨m,(k.cell (p:=⟨5,0,none⟩) h2).trans h1,bY h2 k.size⟩
theorem PS.XV {b c cap len:Nat} {s:Sp.Bs} {d:Nat} {σ:St} {w:World} (h:PS b c cap len s d σ w):VM w:=by
 obtain ⟨m,hm⟩:=h.vm
 have h1:=h.h5
 have h2:=h.lc
 exact ⟨m,hm,by omega⟩
theorem VM.kept {b:Nat} {w w' : World} (h:VM w) (k:Kept b w w') (hb:b≠5):VM w':=by
 obtain ⟨m,h1,h2⟩:=h
 exact ⟨m,(k.cell (p:=⟨5,0,none⟩) h2 (Ne.symm hb)).trans h1,bY h2 k.size⟩
theorem countB_le (s sub:ByteArray):Lib.countB s sub<=s.size+1:=by
 have:=Lib.count_le s.data.toList sub.data.toList
 rw [size_data] at this
 exact this
theorem clone_any (s:ByteArray) (w:World) (hs:s.size<=100000):Calls Tryz.prog 142 #[.string s] w λe w'=>e = .returned (.string s)/\Below w.heap.size w w':=by
 go_enter Tryz.func142,Tryz.ntmps142
 go_wp2_with fail
 refine (Tryz.stringslite_Clone s _ (by omega)).mono ?_
 rintro e w1 ⟨rfl,hb⟩
 go_wp2_with fail
 go_ret
 exact ⟨rfl,hb⟩
theorem tU (s:ByteArray):(s.extract 1 (s.size - 1)).data.toList=(s.data.toList.drop 1).take (s.data.toList.length - 2):=by
 rw [Lib.extract_data,size_data]
 congr 1
theorem DM:∀ l:Sp.Bs,(KI l).length<=l.length
 | []=>aF _
 | [c]=>aF _
 | c::c'::r=>by
  rw [KI]
  split
  ·have:=DM r;simp;omega
  ·have:=DM (c'::r);simp at this ⊢;omega
theorem DN (s:ByteArray) (w:World) (h2:2<=s.size) (hs:s.size<=100000) (hm:VM w) :
  Calls Tryz.prog 342 #[.string s] w λe w'=>e = .returned (dI (Sv.text ⟨(kC s.data.toList).toArray⟩))/\Below w.heap.size w w':=by
 have HV:Hid (kC s.data.toList=Lib.replaceAll (s.extract 1 (s.size - 1)).data.toList [39,39] [39]):=by
  show _=_
  rw [tT,tU s];rfl
 have hsz:(s.extract 1 (s.size - 1)).size<=100000:=by
  have:=congrArg List.length (tU s)
  rw [size_data,List.length_take,List.length_drop,size_data] at this
  omega
 have HC:Hid ((s.extract 1 (s.size - 1)).size+Lib.countB (s.extract 1 (s.size - 1)) ⟨#[39,39]⟩*(⟨#[39]⟩:ByteArray).size<=140737488355328):=by
  have:=countB_le (s.extract 1 (s.size - 1)) ⟨#[39,39]⟩
  have e1:(⟨#[39]⟩:ByteArray).size=1:=rfl
  show _<=_
  rw [e1]
  omega
 have HB0:Hid (Bk (w.alloc (.cells #[.int .i64 0, .int .i64 0, .string ⟨#[]⟩] 40)) w.heap.size [.int .i64 0, .int .i64 0, .string ⟨#[]⟩]):=Bk.new _ _ _
 have NU:Hid (Below w.heap.size w (w.alloc (.cells #[.int .i64 0, .int .i64 0, .string ⟨#[]⟩] 40))):=(Below.refl _ _).alloc (aF _) _
 have XW:Hid (VM (w.alloc (.cells #[.int .i64 0, .int .i64 0, .string ⟨#[]⟩] 40))):=hm.below ((Below.refl _ _).alloc (aF _) _)
 have VC:=hid hsz
 clear hm hsz
 go_enter Tryz.func342,Tryz.ntmps342
 go_wp2_with fail
 obtain ⟨m,hm1,hm2⟩:=XW.out
 refine (Tryz.strings_ReplaceAll (s.extract 1 (s.size - 1)) ⟨#[39,39]⟩ ⟨#[39]⟩ m _ (by have:=VC.out;omega) hm1 (by decide) HC.out).mono ?_
 clear hm1 hm2
 generalize (w.alloc (.cells #[.int .i64 0, .int .i64 0, .string ⟨#[]⟩] 40))=w0 at *
 rintro e w1 ⟨rfl,hb1⟩
 have e0:Lib.replaceAll (s.extract 1 (s.size - 1)).data.toList (⟨#[39,39]⟩:ByteArray).data.toList (⟨#[39]⟩:ByteArray).data.toList=kC s.data.toList:=HV.out.symm
 rw [e0]
 have hle:(⟨(kC s.data.toList).toArray⟩:ByteArray).size<=100000:=by
  show (kC s.data.toList).toArray.size<=100000
  rw [List.size_toArray]
  have a:(kC s.data.toList).length<=((s.data.toList.drop 1).take (s.data.toList.length - 2)).length:=DM _
  rw [List.length_take,List.length_drop,size_data] at a
  omega
 have XX:=hid hle
 clear hle e0
 have HB1:=hid (HB0.out.below hb1)
 have Le:Hid (Below w.heap.size w w1):=NU.out.trans (hb1.mono NU.out.size)
 clear hb1 HB0 NU HV HC VC
 generalize Sg:(⟨(kC s.data.toList).toArray⟩:ByteArray)=tv at *
 have XY:=hid Sg
 clear Sg
 go_wp2_with fail
 refine (clone_any _ _ XX.out).mono ?_
 rintro e w2 ⟨rfl,hb2⟩
 have HB2:=hid (HB1.out.below hb2)
 have HL2:Hid (Below w.heap.size w w2):=Le.out.trans (hb2.mono Le.out.size)
 clear hb2
 go_wp2_with fail
 refine (Lc _ _).mono ?_
 rintro e w3 ⟨rfl,hb3⟩
 have hB3:=HB2.out.below hb3
 have I8:Hid (Below w.heap.size w w3):=HL2.out.trans (hb3.mono HL2.out.size)
 have c0:=hB3.k0
 have c1:=hB3.k1
 have c2:=hB3.k2
 have f0:=hB3.f 0
 have f1:=hB3.f 1
 have f2:=hB3.f 2
 clear hB3 hb3
 go_wp2_with fail
 exact cL (v:=dI (Sv.text tv)) (by simp [results,Tryz.results342,go_sem, *]) rfl ⟨by rw [XY.out],((I8.out.setCell (aF _) _).setCell (aF _) _).setCell (aF _) _⟩
attribute [local go_sem ↓] Go.wp_at_zero Go.wp_at_succ
theorem Gx {c:Nat} {s:Sp.Bs} {len i:Nat} {σ:St} {w:World} {wd:ByteArray} (tk:TK s len) (hi:IX s len i σ) (_tc:TC c s w i wd):(kn (aD s (pos s i)) == 3)=σ.cG s .name:=by
 cases σ with
 | live e=>
  rw [hi.2]
  show _=(aD s e == .name)
  cases aD s e <;> rfl
 | dead x a=>
  rcases tk.last i hi.1 with h | h <;> rw [h] <;> rfl
theorem Rp.XZ {W:World} {x:Nd} {lo l1 h1 bb hi:Nat} {v:Value} {wd:Sp.Bs} {a:Nat} (r1:Rp W x l1 h1 v) (hI:yQ l1 h1 v) (e0:lo<=l1) (e2:h1<=bb) (e4:bb<hi) (kb:At W bb [.string (bz wd), .int .i64 (a:Int),v]) :
  Rp W (.op wd a x) lo hi (.iface 363 (.pointer (some ⟨bb,0,none⟩))):=by
 have l1:=Rp.le _ _ _ _ r1
 exact ⟨bb,_,_,_,rfl,by omega,e4,by unfold Sub;omega,kb,hI.wide e0 (by omega),r1⟩
theorem DO {b c cap len:Nat} {s:Sp.Bs} {d:Nat} {σ:St} {w:World} (h:PS b c cap len s d σ w) (z:Sp.Bs) (hf:z∈iS) (q:Nat) (hq:q=w.heap.size) :
  Calls Tryz.prog 122 #[.pointer (some ⟨b,0,none⟩), .slice (some ⟨q,0,none⟩) 1 1] (w.alloc (.cells #[.string ⟨z.toArray⟩] 9)) λr w'=>r = .returned (.bool (σ.is s z))/\PS b c cap len s d σ w'/\Kept b w w':=by
 subst hq;exact lU h z hf
theorem is_other {s:Sp.Bs} {z y:Sp.Bs} {σ:St} (h:σ.is s z=true) (hn:(z == y)=false):σ.is s y=false:=by
 cases σ with
 | dead x a=>rfl
 | live e=>
  simp only [St.is,Bool.and_eq_true,beq_iff_eq] at h
  simp only [St.is,h.2,hn,Bool.and_false]
theorem E6 {s:Sp.Bs} (e:Nat) (hl:s.length<=100000):(bW s e).length<=100000:=by
 unfold bW
 rw [List.length_take,List.length_drop]
 omega
theorem NV {s:Sp.Bs} {σ:St} (h:σ.cG s .num=true) (hsl:s.length<=100000):∀ wd:ByteArray,wd=bz (σ.word s)->wd.data.toList=σ.word s/\wd.data.toList ≠ []/\wd.data.toList.all bV=true/\dB wd.data.toList<9223372036854775808/\wd.size<=100000:=by
 intro wd hw
 subst hw
 cases σ with
 | dead x a=>cases h
 | live e=>
  have hc:aD s e = .num:=by simpa [St.cG] using h
  obtain ⟨a,b,c⟩:=Jf hc
  have e1:(bz (St.word s (.live e))).data.toList=bW s e:=by simp [bz,St.word]
  refine ⟨e1,?_,?_,?_,?_⟩
  ·rw [e1];exact a
  ·rw [e1];exact b
  ·rw [e1];exact c
  ·rw [<- size_data,e1];exact E6 e hsl
theorem NW {s:Sp.Bs} {σ:St} (h:σ.cG s .txt=true) (hsl:s.length<=100000):∀ wd:ByteArray,wd=bz (σ.word s)->wd.data.toList=σ.word s/\2<=wd.size/\wd.size<=100000:=by
 intro wd hw
 subst hw
 cases σ with
 | dead x a=>cases h
 | live e=>
  have hc:aD s e = .txt:=by simpa [St.cG] using h
  have a:=Jg hc
  have e1:(bz (St.word s (.live e))).data.toList=bW s e:=by simp [bz,St.word]
  refine ⟨e1,?_,?_⟩
  ·rw [<- size_data,e1];exact a
  ·rw [<- size_data,e1];exact E6 e hsl
theorem Jh {b c cap len:Nat} {s:Sp.Bs} {n d:Nat} {σ:St} {w:World} (hsl:s.length<=100000) (IH:Hid (∀ m,m<=n->All b c cap len s m)) (hd:d+(n+1)<=1000000) (hm:32*rem s σ+2<=n+1) (hp:PS b c cap len s d σ w) :
  Calls Tryz.prog 337 #[.pointer (some ⟨b,0,none⟩)] w (aX b c cap len s d (Sp.run s (n+1) .atom d σ) w aQ λw' v=>Rp w' (Sp.tr s (n+1) .atom d .nil σ) w.heap.size w'.heap.size v):=by
 have hbw:=hp.lb
 have hcw:=hp.lc
 obtain ⟨i,wd,hi,tc,PK⟩:=bG hp
 have hk3:=Gx hp.tk hi tc
 have jQ:Hid (σ.aA=true->aO s (pos s i)=σ.at_ s/\((∀ e,σ = .live e->aD s e ≠ .bad)->wd=bz (σ.word s))):=λhl=>dO hi tc hl
 have IT:=hid hp
 have gJ:=jL PK
 clear hp hi tc PK
 generalize kn (aD s (pos s i))=kk at *
 generalize aO s (pos s i)=aa at *
 have hmf:=lN
 go_enter Tryz.func337,Tryz.ntmps337
 go_wp2_with fail
 refine (gJ.out _ rfl).mono ?_
 rintro r w0 ⟨rfl,hb0⟩
 have hz0:=hb0.size
 have qM:Hid (PS b c cap len s d σ (w0.alloc (.cells #[.int .i64 kk, .int .i64 (aa:Int), .string wd] 155))):=(IT.out.below hb0).alloc _
 have pH:Hid (Kept b w (w0.alloc (.cells #[.int .i64 kk, .int .i64 (aa:Int), .string wd] 155))):=(Kept.below hb0).alloc _
 have HX0:Hid (Bk (w0.alloc (.cells #[.int .i64 kk, .int .i64 (aa:Int), .string wd] 155)) w0.heap.size [.int .i64 kk, .int .i64 (aa:Int), .string wd]):=Bk.new _ _ _
 clear hb0 gJ IT
 go_wp2_with fail
 refine (fH qM.out .num (by decide) (by decide) _ rfl).mono ?_
 rintro r w1 ⟨rfl,hp,hk⟩
 cases cT:σ.cG s .num
 case true=>
  have HV:Hid (Sp.run s (n+1) .atom d σ=σ.step s):=by show _=_;rw [Sp.run];simp [cT]
  have cA:Hid (Sp.tr s (n+1) .atom d .nil σ=Nd.const (Sv.int (dB (σ.word s):Nat))):=by show _=_;rw [Sp.tr];simp [cT]
  have Qf:Hid (∀ wd:ByteArray,wd=bz (σ.word s)->wd.data.toList=σ.word s/\wd.data.toList ≠ []/\wd.data.toList.all bV=true/\dB wd.data.toList<9223372036854775808/\wd.size<=100000):=NV cT hsl
  have HT:Hid (aa=σ.at_ s/\wd=bz (σ.word s)):=⟨(jQ.out (jK cT)).1,(jQ.out (jK cT)).2 (yR cT (by decide))⟩
  rw [cT] at hp
  have bT:Hid (PS b c cap len s d (σ.step s) w1):=hp
  have bD:=hid (pH.out.trans hk)
  have qB:Hid (Bk w1 w0.heap.size [.int .i64 kk, .int .i64 (aa:Int), .string wd]):=HX0.out.kept hk (by omega)
  clear hp hk qM pH HX0
  have hx:=qB.out.lt
  have x0:=qB.out.k0
  have x1:=qB.out.k1
  have x2:=qB.out.k2
  obtain ⟨n1,n2,n3,n4,n5⟩:=Qf.out wd HT.out.2
  have vG:=hid n1
  clear n1
  go_wp2_with fail
  refine (zI _ _ n2 n3 n5 n4).mono ?_
  rintro e w2 ⟨rfl,hb⟩
  have Lf:=hid (bT.out.below hb)
  have Az:Hid (Kept b w w2):=bD.out.trans (Kept.below hb)
  clear hb
  go_wp2_with fail
  go_ret
  refine ⟨_,rfl,by rw [HV.out];exact Lf.out.alloc _,Az.out.alloc _,Or.inr ⟨_,_,rfl⟩,λ_=>?_⟩
  rw [cA.out,<- vG.out]
  exact pM (Bk.new w2 _ _).at_ Az.out.size (by simp)
 rw [cT] at hp
 have bT:Hid (PS b c cap len s d σ w1):=hp
 have bD:=hid (pH.out.trans hk)
 have qB:Hid (Bk w1 w0.heap.size [.int .i64 kk, .int .i64 (aa:Int), .string wd]):=HX0.out.kept hk (by omega)
 clear hp hk qM pH HX0
 go_wp2_with fail
 refine (fH bT.out .txt (by decide) (by decide) _ rfl).mono ?_
 rintro r w2 ⟨rfl,hp,hk⟩
 cases dG:σ.cG s .txt
 case true=>
  have HV:Hid (Sp.run s (n+1) .atom d σ=σ.step s):=by show _=_;rw [Sp.run];simp [cT,dG]
  have cA:Hid (Sp.tr s (n+1) .atom d .nil σ=Nd.const (Sv.text ⟨(kC (σ.word s)).toArray⟩)):=by show _=_;rw [Sp.tr];simp [cT,dG]
  have Qf:Hid (∀ wd:ByteArray,wd=bz (σ.word s)->wd.data.toList=σ.word s/\2<=wd.size/\wd.size<=100000):=NW dG hsl
  have HT:Hid (aa=σ.at_ s/\wd=bz (σ.word s)):=⟨(jQ.out (jK dG)).1,(jQ.out (jK dG)).2 (yR dG (by decide))⟩
  rw [dG] at hp
  have HP2:Hid (PS b c cap len s d (σ.step s) w2):=hp
  have aY:=hid (bD.out.trans hk)
  have iN:Hid (Bk w2 w0.heap.size [.int .i64 kk, .int .i64 (aa:Int), .string wd]):=qB.out.kept hk (by omega)
  clear hp hk bT bD qB
  have hx:=iN.out.lt
  have x0:=iN.out.k0
  have x1:=iN.out.k1
  have x2:=iN.out.k2
  obtain ⟨n1,n2,n3⟩:=Qf.out wd HT.out.2
  have vG:=hid n1
  clear n1
  go_wp2_with fail
  refine (DN _ _ n2 n3 HP2.out.XV).mono ?_
  rintro e w3 ⟨rfl,hb⟩
  have Lf:=hid (HP2.out.below hb)
  have Az:Hid (Kept b w w3):=aY.out.trans (Kept.below hb)
  clear hb
  go_wp2_with fail
  go_ret
  refine ⟨_,rfl,by rw [HV.out];exact Lf.out.alloc _,Az.out.alloc _,Or.inr ⟨_,_,rfl⟩,λ_=>?_⟩
  rw [cA.out,<- vG.out]
  exact pM (Bk.new w3 _ _).at_ Az.out.size (by simp)
 rw [dG] at hp
 have HP2:Hid (PS b c cap len s d σ w2):=hp
 have aY:=hid (bD.out.trans hk)
 have iN:Hid (Bk w2 w0.heap.size [.int .i64 kk, .int .i64 (aa:Int), .string wd]):=qB.out.kept hk (by omega)
 clear hp hk bT bD qB
 go_wp2_with fail
 refine (cQ HP2.out [116,114,117,101] (by decide) _ (by simp)).mono ?_
 rintro r w3 ⟨rfl,hp,hk⟩
 cases eJ:σ.is s [116,114,117,101]
 case true=>
  have HV:Hid (Sp.run s (n+1) .atom d σ=σ.step s):=by show _=_;rw [Sp.run];simp [cT,dG,eJ]
  have cA:Hid (Sp.tr s (n+1) .atom d .nil σ=Nd.const (Sv.bool true)):=by show _=_;rw [Sp.tr];simp [cT,dG,eJ]
  rw [aZ eJ] at hp
  have cS:=hid hp
  have bH:=hid (aY.out.trans hk)
  have vI:Hid (Bk w3 w0.heap.size [.int .i64 kk, .int .i64 (aa:Int), .string wd]):=iN.out.kept hk (by omega)
  clear hp hk HP2 aY iN
  go_wp2_with fail
  refine (E5 true _).mono ?_
  rintro e w4 ⟨rfl,hb⟩
  have Lf:=hid (cS.out.below hb)
  have Az:Hid (Kept b w w4):=bH.out.trans (Kept.below hb)
  clear hb
  go_wp2_with fail
  go_ret
  refine ⟨_,rfl,by rw [HV.out];exact Lf.out.alloc _,Az.out.alloc _,Or.inr ⟨_,_,rfl⟩,λ_=>?_⟩
  rw [cA.out]
  exact pM (Bk.new w4 _ _).at_ Az.out.size (by simp)
 rw [bE eJ] at hp
 have cS:=hid hp
 have bH:=hid (aY.out.trans hk)
 have vI:Hid (Bk w3 w0.heap.size [.int .i64 kk, .int .i64 (aa:Int), .string wd]):=iN.out.kept hk (by omega)
 clear hp hk HP2 aY iN
 go_wp2_with fail
 refine (cQ cS.out [102,97,108,115,101] (by decide) _ (by simp)).mono ?_
 rintro r w4 ⟨rfl,hp,hk⟩
 cases eY:σ.is s [102,97,108,115,101]
 case true=>
  have HV:Hid (Sp.run s (n+1) .atom d σ=σ.step s):=by show _=_;rw [Sp.run];simp [cT,dG,eJ,eY]
  have cA:Hid (Sp.tr s (n+1) .atom d .nil σ=Nd.const (Sv.bool false)):=by show _=_;rw [Sp.tr];simp [cT,dG,eJ,eY]
  rw [aZ eY] at hp
  have gY:=hid hp
  have eC:=hid (bH.out.trans hk)
  have lE:Hid (Bk w4 w0.heap.size [.int .i64 kk, .int .i64 (aa:Int), .string wd]):=vI.out.kept hk (by omega)
  clear hp hk cS bH vI
  go_wp2_with fail
  refine (E5 false _).mono ?_
  rintro e w5 ⟨rfl,hb⟩
  have Lf:=hid (gY.out.below hb)
  have Az:Hid (Kept b w w5):=eC.out.trans (Kept.below hb)
  clear hb
  go_wp2_with fail
  go_ret
  refine ⟨_,rfl,by rw [HV.out];exact Lf.out.alloc _,Az.out.alloc _,Or.inr ⟨_,_,rfl⟩,λ_=>?_⟩
  rw [cA.out]
  exact pM (Bk.new w5 _ _).at_ Az.out.size (by simp)
 rw [bE eY] at hp
 have gY:=hid hp
 have eC:=hid (bH.out.trans hk)
 have lE:Hid (Bk w4 w0.heap.size [.int .i64 kk, .int .i64 (aa:Int), .string wd]):=vI.out.kept hk (by omega)
 clear hp hk cS bH vI
 go_wp2_with fail
 refine (cQ gY.out [110,117,108,108] (by decide) _ (by simp)).mono ?_
 rintro r w5 ⟨rfl,hp,hk⟩
 cases fT:σ.is s [110,117,108,108]
 case true=>
  have HV:Hid (Sp.run s (n+1) .atom d σ=σ.step s):=by show _=_;rw [Sp.run];simp [cT,dG,eJ,eY,fT]
  have cA:Hid (Sp.tr s (n+1) .atom d .nil σ=Nd.const (Sv.null)):=by show _=_;rw [Sp.tr];simp [cT,dG,eJ,eY,fT]
  rw [aZ fT] at hp
  have iV:=hid hp
  have iD:=hid (eC.out.trans hk)
  have eM:Hid (Bk w5 w0.heap.size [.int .i64 kk, .int .i64 (aa:Int), .string wd]):=lE.out.kept hk (by omega)
  clear hp hk gY eC lE
  go_wp2_with fail
  refine (Ld _).mono ?_
  rintro e w6 ⟨rfl,hb⟩
  have Lf:=hid (iV.out.below hb)
  have Az:Hid (Kept b w w6):=iD.out.trans (Kept.below hb)
  clear hb
  go_wp2_with fail
  go_ret
  refine ⟨_,rfl,by rw [HV.out];exact Lf.out.alloc _,Az.out.alloc _,Or.inr ⟨_,_,rfl⟩,λ_=>?_⟩
  rw [cA.out]
  exact pM (Bk.new w6 _ _).at_ Az.out.size (by simp)
 rw [bE fT] at hp
 have iV:=hid hp
 have iD:=hid (eC.out.trans hk)
 have eM:Hid (Bk w5 w0.heap.size [.int .i64 kk, .int .i64 (aa:Int), .string wd]):=lE.out.kept hk (by omega)
 clear hp hk gY eC lE
 have hx:=eM.out.lt
 have x0:=eM.out.k0
 have x1:=eM.out.k1
 have x2:=eM.out.k2
 cases gL:σ.cG s .name
 case true=>
  have HV:Hid (Sp.run s (n+1) .atom d σ=colS s σ):=by show _=_;rw [Sp.run];simp [cT,dG,eJ,eY,fT,gL,colS]
  have cA:Hid (Sp.tr s (n+1) .atom d .nil σ=iC s σ):=by show _=_;rw [Sp.tr];simp [cT,dG,eJ,eY,fT,gL,iC]
  rw [gL] at hk3
  go_wp2_with fail
  refine (Dp iV.out gL).mono ?_
  rintro r w9 ⟨v9,rfl,tL,hk9,hi9,Bw⟩
  have HX:Hid (PS b c cap len s d (colS s σ) w9/\Kept b w w9/\aQ v9/\((colS s σ).aA=true->Rp w9 (iC s σ) w.heap.size w9.heap.size v9)):=⟨tL,iD.out.trans hk9,hi9,λhl=>Rp.wide _ _ _ _ _ _ (Bw hl) iD.out.size (aF _)⟩
  clear tL hk9 hi9 Bw
  go_wp2_with fail
  go_ret
  exact ⟨_,rfl,by rw [HV.out];exact HX.out.1,HX.out.2.1,HX.out.2.2.1,by rw [HV.out,cA.out];exact HX.out.2.2.2⟩
 rw [gL] at hk3
 go_wp2_with fail
 clear x0 x1 x2 hx
 cases dP:σ.is s [40]
 case true=>
  cases xB:σ.asks s
  case true=>
   have h1:=eG (d:=d) dP
   have HV:Hid (Sp.run s (n+1) .atom d σ=St.must s [41] (Sp.run s n .query (d+1) (St.dF s d σ))):=by show _=_;rw [Sp.run];simp [cT,dG,eJ,eY,fT,gL,dP,xB]
   have cA:Hid (Sp.tr s (n+1) .atom d .nil σ=Nd.within (σ.word s) (σ.at_ s) .nil (Sp.tr s n .query (d+1) .nil (St.dF s d σ))):=by show _=_;rw [Sp.tr];simp [cT,dG,eJ,eY,fT,gL,dP,xB]
   rw [<- cV dP] at h1 HV cA
   have HT:Hid (aa=σ.at_ s/\wd=bz (σ.word s)):=⟨(jQ.out (cK dP)).1,(jQ.out (cK dP)).2 (dC dP)⟩
   obtain ⟨e,rfl⟩:∃ e,σ = .live e:=by cases σ with | live e=>exact ⟨e,rfl⟩ | dead x a=>cases dP
   refine (pQ iV.out dP).mono ?_
   rintro r w6 ⟨rfl,hp,hk⟩
   rw [xB]
   have kA:=hid hp
   have iX:=hid (iD.out.trans hk)
   have iY:Hid (Bk w6 w0.heap.size [.int .i64 kk, .int .i64 (aa:Int), .string wd]):=eM.out.kept hk (by omega)
   clear hp hk iV iD eM
   have hx:=iY.out.lt
   have x0:=iY.out.k0
   have x1:=iY.out.k1
   have x2:=iY.out.k2
   go_wp2_with fail
   refine (kJ kA.out (by omega) _ _ _ _ _ _ (Sp.run s n .query (d+1) (St.opened s [40] d (.live e))) (Sp.tr s n .query (d+1) .nil (St.opened s [40] d (.live e))) (λw' hp'=>((IH.out n (aF _)).query (d+1) _ _ (by omega) (by show 32*rem s _+15<=n;omega) hp').mono λ_ _ h=>h.rq)).mono ?_
   rintro r w9 ⟨qv,bb,rfl,tL,hk9,Qg,hi9,TH,Bw⟩
   have HX:Hid (PS b c cap len s d (St.must s [41] (Sp.run s n .query (d+1) (St.opened s [40] d (.live e)))) w9/\Kept b w w9/\At w9 bb [.string wd, .int .i64 (aa:Int), .slice none 0 0,qv]/\aQ qv/\w.heap.size<=bb/\((St.must s [41] (Sp.run s n .query (d+1) (St.opened s [40] d (.live e)))).aA=true->Rp w9 (Sp.tr s n .query (d+1) .nil (St.opened s [40] d (.live e))) w6.heap.size bb qv)):=⟨tL,iX.out.trans hk9,Qg,hi9,by have:=iX.out.size;omega,Bw⟩
   clear tL hk9 Qg hi9 TH Bw x0 x1 x2
   go_wp2_with fail
   go_ret
   obtain ⟨g1,g2,g3,g4,g5,g6⟩:=HX.out
   refine ⟨_,rfl,by rw [HV.out];exact g1,g2,Or.inr ⟨_,_,rfl⟩,λhl=>?_⟩
   rw [HV.out] at hl
   rw [cA.out]
   obtain ⟨e1,e2⟩:=HT.out
   subst e1 e2
   exact Rp.EY (g6 hl) g4.bC iX.out.size g3.1 g3
  have gM:σ.is s [101,120,105,115,116,115]=false:=is_other dP (by decide)
  have h1:=eG (d:=d) dP
  have HV:Hid (Sp.run s (n+1) .atom d σ=St.must s [41] (Sp.run s n .expr (d+1) (St.dF s d σ))):=by show _=_;rw [Sp.run];simp [cT,dG,eJ,eY,fT,gL,dP,xB]
  have cA:Hid (Sp.tr s (n+1) .atom d .nil σ=Sp.tr s n .expr (d+1) .nil (St.dF s d σ)):=by show _=_;rw [Sp.tr];simp [cT,dG,eJ,eY,fT,gL,dP,xB]
  rw [<- cV dP] at h1 HV cA
  obtain ⟨e,rfl⟩:∃ e,σ = .live e:=by cases σ with | live e=>exact ⟨e,rfl⟩ | dead x a=>cases dP
  refine (pQ iV.out dP).mono ?_
  rintro r w6 ⟨rfl,hp,hk⟩
  rw [xB]
  have kA:=hid hp
  have iX:=hid (iD.out.trans hk)
  have iY:Hid (Bk w6 w0.heap.size [.int .i64 kk, .int .i64 (aa:Int), .string wd]):=eM.out.kept hk (by omega)
  clear hp hk iV iD eM
  go_wp2_with fail
  refine (cQ kA.out [101,120,105,115,116,115] (by decide) _ (by simp)).mono ?_
  rintro r w7 ⟨rfl,hp,hk⟩
  rw [bE gM] at hp
  rw [gM]
  have o7:=hid hp
  have rN:=hid (iX.out.trans hk)
  have pN:Hid (Bk w7 w0.heap.size [.int .i64 kk, .int .i64 (aa:Int), .string wd]):=iY.out.kept hk (by omega)
  clear hp hk kA iX iY
  go_wp2_with fail
  refine (DO o7.out [40] (by decide) _ (by simp)).mono ?_
  rintro r w8 ⟨rfl,hp,hk⟩
  rw [dP]
  have Gm:=hid hp
  have EZ:=hid (rN.out.trans hk)
  have MZ:Hid (Bk w8 w0.heap.size [.int .i64 kk, .int .i64 (aa:Int), .string wd]):=pN.out.kept hk (by omega)
  clear hp hk o7 rN pN
  go_wp2_with fail
  refine (iW (.inl ⟨rfl,rfl,rfl,rfl,rfl,rfl⟩) Gm.out (by omega) (Sp.run s n .expr (d+1) (St.opened s [40] d (.live e))) (Sp.tr s n .expr (d+1) .nil (St.opened s [40] d (.live e))) (λw' hp'=>((IH.out n (aF _)).expr (d+1) _ _ (by omega) (by show 32*rem s _+9<=n;omega) hp').mono λ_ _ h=>h.rq)).mono ?_
  rintro r w9 ⟨v9,rfl,tL,hk9,hi9,Bw⟩
  have HX:Hid (PS b c cap len s d (St.must s [41] (Sp.run s n .expr (d+1) (St.opened s [40] d (.live e)))) w9/\Kept b w w9/\aQ v9/\((St.must s [41] (Sp.run s n .expr (d+1) (St.opened s [40] d (.live e)))).aA=true->Rp w9 (Sp.tr s n .expr (d+1) .nil (St.opened s [40] d (.live e))) w.heap.size w9.heap.size v9)):=⟨tL,EZ.out.trans hk9,hi9,λhl=>Rp.wide _ _ _ _ _ _ (Bw hl).1 EZ.out.size (aF _)⟩
  clear tL hk9 hi9 Bw
  go_wp2_with fail
  go_ret
  exact ⟨_,rfl,by rw [HV.out];exact HX.out.1,HX.out.2.1,HX.out.2.2.1,by rw [HV.out,cA.out];exact HX.out.2.2.2⟩
 refine (DK iV.out dP).mono ?_
 rintro r w6 ⟨rfl,hp,hk⟩
 have kA:=hid hp
 have iX:=hid (iD.out.trans hk)
 have iY:Hid (Bk w6 w0.heap.size [.int .i64 kk, .int .i64 (aa:Int), .string wd]):=eM.out.kept hk (by omega)
 clear hp hk iV iD eM
 go_wp2_with fail
 refine (cQ kA.out [101,120,105,115,116,115] (by decide) _ (by simp)).mono ?_
 rintro r w7 ⟨rfl,hp,hk⟩
 cases gM:σ.is s [101,120,105,115,116,115]
 case true=>
  have h1:=aM gM
  have h3:=iB s [40] d (σ.step s)
  have HV:Hid (Sp.run s (n+1) .atom d σ=St.must s [41] (Sp.run s n .query (d+1) (St.opened s [40] d (σ.step s)))):=by show _=_;rw [Sp.run];simp [cT,dG,eJ,eY,fT,gL,dP,gM]
  have cA:Hid (Sp.tr s (n+1) .atom d .nil σ=Nd.within (σ.word s) (σ.at_ s) .nil (Sp.tr s n .query (d+1) .nil (St.opened s [40] d (σ.step s)))):=by show _=_;rw [Sp.tr];simp [cT,dG,eJ,eY,fT,gL,dP,gM]
  have HT:Hid (aa=σ.at_ s/\wd=bz (σ.word s)):=⟨(jQ.out (cK gM)).1,(jQ.out (cK gM)).2 (dC gM)⟩
  rw [aZ gM] at hp
  have o7:=hid hp
  have rN:=hid (iX.out.trans hk)
  have pN:Hid (Bk w7 w0.heap.size [.int .i64 kk, .int .i64 (aa:Int), .string wd]):=iY.out.kept hk (by omega)
  clear hp hk kA iX iY
  have hx:=pN.out.lt
  have x0:=pN.out.k0
  have x1:=pN.out.k1
  have x2:=pN.out.k2
  go_wp2_with fail
  refine (kJ o7.out (by omega) _ _ _ _ _ _ (Sp.run s n .query (d+1) (St.opened s [40] d (σ.step s))) (Sp.tr s n .query (d+1) .nil (St.opened s [40] d (σ.step s))) (λw' hp'=>((IH.out n (aF _)).query (d+1) _ _ (by omega) (by show 32*rem s _+15<=n;omega) hp').mono λ_ _ h=>h.rq)).mono ?_
  rintro r w9 ⟨qv,bb,rfl,tL,hk9,Qg,hi9,TH,Bw⟩
  have HX:Hid (PS b c cap len s d (St.must s [41] (Sp.run s n .query (d+1) (St.opened s [40] d (σ.step s)))) w9/\Kept b w w9/\At w9 bb [.string wd, .int .i64 (aa:Int), .slice none 0 0,qv]/\aQ qv/\w.heap.size<=bb/\((St.must s [41] (Sp.run s n .query (d+1) (St.opened s [40] d (σ.step s)))).aA=true->Rp w9 (Sp.tr s n .query (d+1) .nil (St.opened s [40] d (σ.step s))) w7.heap.size bb qv)):=⟨tL,rN.out.trans hk9,Qg,hi9,by have:=rN.out.size;omega,Bw⟩
  clear tL hk9 Qg hi9 TH Bw x0 x1 x2
  go_wp2_with fail
  go_ret
  obtain ⟨g1,g2,g3,g4,g5,g6⟩:=HX.out
  refine ⟨_,rfl,by rw [HV.out];exact g1,g2,Or.inr ⟨_,_,rfl⟩,λhl=>?_⟩
  rw [HV.out] at hl
  rw [cA.out]
  obtain ⟨e1,e2⟩:=HT.out
  subst e1 e2
  exact Rp.EY (g6 hl) g4.bC rN.out.size g3.1 g3
 rw [bE gM] at hp
 have o7:=hid hp
 have rN:=hid (iX.out.trans hk)
 have pN:Hid (Bk w7 w0.heap.size [.int .i64 kk, .int .i64 (aa:Int), .string wd]):=iY.out.kept hk (by omega)
 clear hp hk kA iX iY
 go_wp2_with fail
 refine (DO o7.out [40] (by decide) _ (by simp)).mono ?_
 rintro r w8 ⟨rfl,hp,hk⟩
 rw [dP]
 have Gm:=hid hp
 have EZ:=hid (rN.out.trans hk)
 have MZ:Hid (Bk w8 w0.heap.size [.int .i64 kk, .int .i64 (aa:Int), .string wd]):=pN.out.kept hk (by omega)
 clear hp hk o7 rN pN
 go_wp2_with fail
 refine (cQ Gm.out [99,111,97,108,101,115,99,101] (by decide) _ (by simp)).mono ?_
 rintro r w9 ⟨rfl,hp,hk⟩
 cases kU:σ.is s [99,111,97,108,101,115,99,101]
 case true=>
  have h1:=aM kU
  have h3:=iB s [40] d (σ.step s)
  have HV:Hid (Sp.run s (n+1) .atom d σ=St.must s [41] (Sp.run s n .list (d+1) (St.opened s [40] d (σ.step s)))):=by show _=_;rw [Sp.run];simp [cT,dG,eJ,eY,fT,gL,dP,gM,kU]
  have cA:Hid (Sp.tr s (n+1) .atom d .nil σ=Nd.op (σ.word s) (σ.at_ s) (Sp.tr s n .list (d+1) .nil (St.opened s [40] d (σ.step s)))):=by show _=_;rw [Sp.tr];simp [cT,dG,eJ,eY,fT,gL,dP,gM,kU]
  have HT:Hid (aa=σ.at_ s/\wd=bz (σ.word s)):=⟨(jQ.out (cK kU)).1,(jQ.out (cK kU)).2 (dC kU)⟩
  rw [aZ kU] at hp
  have IU:=hid hp
  have Gn:=hid (EZ.out.trans hk)
  have Ax:Hid (Bk w9 w0.heap.size [.int .i64 kk, .int .i64 (aa:Int), .string wd]):=MZ.out.kept hk (by omega)
  clear hp hk Gm EZ MZ
  have hx:=Ax.out.lt
  have x0:=Ax.out.k0
  have x1:=Ax.out.k1
  have x2:=Ax.out.k2
  go_wp2_with fail
  go_region_held3 (λw'=>w'.cell? ⟨w0.heap.size,0,none⟩=some (.int .i64 kk)/\w'.cell? ⟨w0.heap.size,1,none⟩=some (.int .i64 (aa:Int))/\w'.cell? ⟨w0.heap.size,2,none⟩=some (.string wd)) (first | go_keep | exact ⟨y0,y1,y2⟩) (first | (go_at_call 346;refine (iW (.inr (.inl ⟨rfl,rfl,rfl,rfl,rfl,rfl⟩)) IU.out.drew (by omega) (Sp.run s n .list (d+1) (St.opened s [40] d (σ.step s))) (Sp.tr s n .list (d+1) .nil (St.opened s [40] d (σ.step s))) (λw' hp'=>(IH.out n (aF _)).list (d+1) _ _ (by omega) (by show 32*rem s _+10<=n;omega) hp')).mono ?_;rintro e wz ⟨v9,rfl,hpz,hkz,⟨sa,sn,sc,rfl⟩,hrz⟩;have vO : Kept b w9 wz:=((Kept.refl b w9).drew).trans hkz;have Qh:=Ax.out.kept vO (by omega);have hy:=Qh.lt;have y0:=Qh.k0;have y1:=Qh.k1;have y2:=Qh.k2) | (go_at_call 252;refine (dD _ _ _ _ _ _ _).mono ?_;rintro e w10 ⟨rfl,rfl⟩))
  have X0:=hid hpz
  have X1:Hid (Kept b w wz):=Gn.out.trans vO
  have X3:Hid (_->Rq wz _ w9.heap.size wz.heap.size _):=hrz
  have hzz:=vO.size
  have hzw:=Gn.out.size
  clear hpz hkz vO hrz Qh y0 y1 y2 x0 x1 x2
  go_wp2_with fail
  go_ret
  refine ⟨_,rfl,by rw [HV.out];exact (X0.out.alloc _).alloc _,(X1.out.alloc _).alloc _,Or.inr ⟨_,_,rfl⟩,λhl=>?_⟩
  rw [HV.out] at hl
  rw [cA.out]
  obtain ⟨e1,e2⟩:=HT.out
  subst e1 e2
  have rz:=(X3.out hl).kept (b:=b) (((Kept.refl b wz).alloc (.cells #[.int .i64 kk, .int .i64 (St.at_ s σ:Nat), .string (bz (St.word s σ))] 155)).alloc (.cells #[.string (bz (St.word s σ)), .int .i64 (St.at_ s σ:Nat), .slice sa sn sc] 379)) (by omega) (aF _)
  refine Rp.XZ rz.1 rz.2 hzw (by omega) (by simp) ?_
  have:=(Bk.new (wz.alloc (.cells #[.int .i64 kk, .int .i64 (St.at_ s σ:Nat), .string (bz (St.word s σ))] 155)) #[.string (bz (St.word s σ)), .int .i64 (St.at_ s σ:Nat), .slice sa sn sc] 379).at_
  simpa using this
 rw [bE kU] at hp
 have IU:=hid hp
 have Gn:=hid (EZ.out.trans hk)
 have Ax:Hid (Bk w9 w0.heap.size [.int .i64 kk, .int .i64 (aa:Int), .string wd]):=MZ.out.kept hk (by omega)
 clear hp hk Gm EZ MZ
 go_wp2_with fail
 refine (DO IU.out [99,97,115,101] (by decide) _ (by simp)).mono ?_
 rintro r w10 ⟨rfl,hp,hk⟩
 cases E7:σ.is s [99,97,115,101]
 case true=>
  have h1:=eG (d:=d) E7
  have HV:Hid (Sp.run s (n+1) .atom d σ=St.must s [101,110,100] (Sp.run s n .cX (d+1) (St.dF s d σ))):=by show _=_;rw [Sp.run];simp [cT,dG,eJ,eY,fT,gL,dP,gM,kU,E7]
  have cA:Hid (Sp.tr s (n+1) .atom d .nil σ=Sp.tr s n .cX (d+1) .nil (σ.dF s d)):=by show _=_;rw [Sp.tr];simp [cT,dG,eJ,eY,fT,gL,dP,gM,kU]
  rw [<- cV E7] at h1 HV cA
  obtain ⟨n',rfl⟩:∃ n',n=n'+2:=⟨n - 2,by omega⟩
  have IW:=hid hp
  have A7:=hid (Gn.out.trans hk)
  have TI:Hid (Bk w10 w0.heap.size [.int .i64 kk, .int .i64 (aa:Int), .string wd]):=Ax.out.kept hk (by omega)
  clear hp hk IU Gn Ax
  go_wp2_with fail
  refine (qL (.inl ⟨rfl,rfl, .inr (.inr rfl),rfl,rfl,rfl⟩) IW.out [99,97,115,101] (by decide) (by omega) (St.must s [101,110,100] (Sp.run s (n'+2) .cX (d+1) (St.opened s [99,97,115,101] d σ))) (Sp.tr s (n'+2) .cX (d+1) .nil (St.opened s [99,97,115,101] d σ)) (λw' _ hp'=>(Je IH (by omega) (by omega) hp').mono λ_ _ h=>h.rq)).mono ?_
  rintro r wz ⟨vz,rfl,hpz,hkz,hiz,hrz⟩
  have HX:Hid (PS b c cap len s d (St.must s [101,110,100] (Sp.run s (n'+2) .cX (d+1) (St.opened s [99,97,115,101] d σ))) wz/\Kept b w wz/\aQ vz/\((St.must s [101,110,100] (Sp.run s (n'+2) .cX (d+1) (St.opened s [99,97,115,101] d σ))).aA=true->Rp wz (Sp.tr s (n'+2) .cX (d+1) .nil (St.opened s [99,97,115,101] d σ)) w.heap.size wz.heap.size vz)):=⟨hpz,A7.out.trans hkz,hiz,λhl=>Rp.wide _ _ _ _ _ _ (hrz hl).1 A7.out.size (aF _)⟩
  clear hpz hkz hiz hrz
  go_wp2_with fail
  go_ret
  exact ⟨_,rfl,by rw [HV.out];exact HX.out.1,HX.out.2.1,HX.out.2.2.1,by rw [HV.out,cA.out];exact HX.out.2.2.2⟩
 have HV:Hid (Sp.run s (n+1) .atom d σ=σ.fail s 2):=by show _=_;rw [Sp.run];simp [cT,dG,eJ,eY,fT,gL,dP,gM,kU,E7]
 have cA:Hid (Sp.tr s (n+1) .atom d .nil σ=Sp.tr s n .cX (d+1) .nil (σ.dF s d)):=by show _=_;rw [Sp.tr];simp [cT,dG,eJ,eY,fT,gL,dP,gM,kU]
 have IW:=hid hp
 have A7:=hid (Gn.out.trans hk)
 have TI:Hid (Bk w10 w0.heap.size [.int .i64 kk, .int .i64 (aa:Int), .string wd]):=Ax.out.kept hk (by omega)
 clear hp hk IU Gn Ax
 go_wp2_with fail
 refine (fV IW.out).mono ?_
 rintro r w9 ⟨rfl,tL,hk9⟩
 have IU:=hid tL
 have Gn:=hid (A7.out.trans hk9)
 clear tL hk9
 go_wp2_with fail
 go_ret
 exact ⟨_,rfl,by rw [HV.out];exact IU.out,Gn.out,Or.inl rfl,λhl=>by rw [HV.out] at hl;exact (eV hl).elim⟩
theorem Gy {b c cap len:Nat} {s:Sp.Bs} {n:Nat} (hsl:s.length<=100000) (IH:Hid (∀ m,m<=n->All b c cap len s m)):Sd b c cap len s (n+1) .atom aQ 337:=λ_ _ _ hd hm hp=>Jh hsl IH hd hm hp
end Go.Proofs.YtgnncnhkgmhngaaGreatDoor
