import Derived.Test.YtgnncnhkgmhngaaGreatDoorJ22
set_option maxHeartbeats 20000000
namespace Go.Proofs.YtgnncnhkgmhngaaGreatDoor
open Go.RowKit
theorem txtLen_pos:∀ {l:Sp.Bs} {n:Nat},Sp.txtLen l=some n->1<=n:=by
 intro l
 induction l using Sp.txtLen.induct with
 | case1=>intro n h;simp [Sp.txtLen] at h
 | case2=>intro n h;simp_all [Sp.txtLen]
 | case3 c h1 c' r' h2 ih=>
  intro n h
  simp only [Sp.txtLen,h1,h2,if_true] at h
  cases hx:Sp.txtLen r' with
  | none=>rw [hx] at h;simp at h
  | some k=>rw [hx] at h;simp at h;omega
 | case4=>intro n h;simp_all [Sp.txtLen]
 | case5 c r h1 ih=>
  intro n h
  rw [Sp.txtLen.eq_def] at h
  simp only [if_neg h1] at h
  cases hx:Sp.txtLen r with
  | none=>rw [hx] at h;simp at h
  | some k=>rw [hx] at h;simp at h;omega
theorem txt_word {s:Sp.Bs} {e:Nat} (h:Sp.tokCl s e = .txt):2<=(Sp.tokWord s e).length:=by
 unfold Sp.tokCl at h
 unfold Sp.tokWord Sp.tokLen
 generalize s.drop (Sp.tokAt s e)=l at *
 cases l with
 | nil=>simp [Sp.first] at h
 | cons c r=>
  cases h1:Sp.isLo c
  ·cases h2:Sp.isDg c
   ·cases h3:(c == 39)
    ·rw [first_sign h1 h2 h3] at h;split at h <;> cases h
    ·rw [first_txt h1 h2 h3] at h ⊢
     cases ht:Sp.txtLen r with
     | none=>rw [ht] at h;cases h
     | some n=>
      simp only
      have a:=txtLen_pos ht
      have b:=txtLen_le r n ht
      rw [List.length_take]
      simp
      omega
   ·rw [first_num h1 h2] at h
    simp only at h
    split at h <;> cases h
  ·rw [first_word h1] at h
   simp only at h
   split at h
   ·cases h
   ·split at h <;> cases h
def VM (w:World):Prop:=∃ m:Int,w.cell? ⟨5,0,none⟩=some (.int .i64 m)/\5<w.heap.size
theorem VM.below {w w' : World} (h:VM w) (k:Below w.heap.size w w'):VM w':=by
 obtain ⟨m,h1,h2⟩:=h
 exact ⟨m,(k.cell (p:=⟨5,0,none⟩) h2).trans h1,Nat.lt_of_lt_of_le h2 k.size⟩
theorem PS.vmv {b c cap len:Nat} {s:Sp.Bs} {d:Nat} {σ:Sp.St} {w:World} (h:PS b c cap len s d σ w):VM w:=by
 obtain ⟨m,hm⟩:=h.vm
 have h1:=h.h5
 have h2:=h.lc
 exact ⟨m,hm,by omega⟩
theorem VM.kept {b:Nat} {w w' : World} (h:VM w) (k:Kept b w w') (hb:b≠5):VM w':=by
 obtain ⟨m,h1,h2⟩:=h
 exact ⟨m,(k.cell (p:=⟨5,0,none⟩) h2 (Ne.symm hb)).trans h1,Nat.lt_of_lt_of_le h2 k.size⟩
theorem countB_le (s sub:ByteArray):Lib.countB s sub<=s.size+1:=by
 have:=Lib.count_le s.data.toList sub.data.toList
 rw [size_data] at this
 exact this
theorem clone_any (s:ByteArray) (w:World) (hs:s.size<=100000):Calls Tryz.prog 142 #[.string s] w fun e w'=>e = .returned (.string s)/\Below w.heap.size w w':=by
 go_enter Tryz.func142,Tryz.ntmps142
 go_wp2_with fail
 refine (Tryz.stringslite_Clone s _ (by omega)).mono ?_
 rintro e w1 ⟨rfl,hb⟩
 go_wp2_with fail
 go_ret
 exact ⟨rfl,hb⟩
theorem txt_inside (s:ByteArray):(s.extract 1 (s.size - 1)).data.toList=(s.data.toList.drop 1).take (s.data.toList.length - 2):=by
 rw [Lib.extract_data,size_data]
 congr 1
theorem unq_le:∀ l:Sp.Bs,(Sp.unq l).length<=l.length
 | []=>Nat.le_refl _
 | [c]=>Nat.le_refl _
 | c::c'::r=>by
  rw [Sp.unq]
  split
  ·have:=unq_le r;simp;omega
  ·have:=unq_le (c'::r);simp at this ⊢;omega
theorem textOf_any (s:ByteArray) (w:World) (h2:2<=s.size) (hs:s.size<=100000) (hm:VM w) :
  Calls Tryz.prog 342 #[.string s] w fun e w'=>e = .returned (enV (Sv.text ⟨(Sp.txtVal s.data.toList).toArray⟩))/\Below w.heap.size w w':=by
 have HV:Hid (Sp.txtVal s.data.toList=Lib.replaceAll (s.extract 1 (s.size - 1)).data.toList [39,39] [39]):=by
  show _=_
  rw [Sp.replaceAll_unq,txt_inside s];rfl
 have hsz:(s.extract 1 (s.size - 1)).size<=100000:=by
  have:=congrArg List.length (txt_inside s)
  rw [size_data,List.length_take,List.length_drop,size_data] at this
  omega
 have HC:Hid ((s.extract 1 (s.size - 1)).size+Lib.countB (s.extract 1 (s.size - 1)) ⟨#[39,39]⟩*(⟨#[39]⟩:ByteArray).size<=140737488355328):=by
  have:=countB_le (s.extract 1 (s.size - 1)) ⟨#[39,39]⟩
  have e1:(⟨#[39]⟩:ByteArray).size=1:=rfl
  show _<=_
  rw [e1]
  omega
 have HB0:Hid (Bk (w.alloc (.cells #[.int .i64 0, .int .i64 0, .string ⟨#[]⟩] 40)) w.heap.size [.int .i64 0, .int .i64 0, .string ⟨#[]⟩]):=Bk.new _ _ _
 have HL0:Hid (Below w.heap.size w (w.alloc (.cells #[.int .i64 0, .int .i64 0, .string ⟨#[]⟩] 40))):=(Below.refl _ _).alloc (Nat.le_refl _) _
 have HM0:Hid (VM (w.alloc (.cells #[.int .i64 0, .int .i64 0, .string ⟨#[]⟩] 40))):=hm.below ((Below.refl _ _).alloc (Nat.le_refl _) _)
 have HSZ:=hid hsz
 clear hm hsz
 go_enter Tryz.func342,Tryz.ntmps342
 go_wp2_with fail
 obtain ⟨m,hm1,hm2⟩:=HM0.out
 refine (Tryz.strings_ReplaceAll (s.extract 1 (s.size - 1)) ⟨#[39,39]⟩ ⟨#[39]⟩ m _ (by have:=HSZ.out;omega) hm1 (by decide) HC.out).mono ?_
 clear hm1 hm2
 generalize (w.alloc (.cells #[.int .i64 0, .int .i64 0, .string ⟨#[]⟩] 40))=w0 at *
 rintro e w1 ⟨rfl,hb1⟩
 have e0:Lib.replaceAll (s.extract 1 (s.size - 1)).data.toList (⟨#[39,39]⟩:ByteArray).data.toList (⟨#[39]⟩:ByteArray).data.toList=Sp.txtVal s.data.toList:=HV.out.symm
 rw [e0]
 have hle:(⟨(Sp.txtVal s.data.toList).toArray⟩:ByteArray).size<=100000:=by
  show (Sp.txtVal s.data.toList).toArray.size<=100000
  rw [List.size_toArray]
  have a:(Sp.txtVal s.data.toList).length<=((s.data.toList.drop 1).take (s.data.toList.length - 2)).length:=unq_le _
  rw [List.length_take,List.length_drop,size_data] at a
  omega
 have HLE:=hid hle
 clear hle e0
 have HB1:=hid (HB0.out.below hb1)
 have HL1:Hid (Below w.heap.size w w1):=HL0.out.trans (hb1.mono HL0.out.size)
 clear hb1 HB0 HL0 HV HC HSZ
 generalize htv:(⟨(Sp.txtVal s.data.toList).toArray⟩:ByteArray)=tv at *
 have HTV:=hid htv
 clear htv
 go_wp2_with fail
 refine (clone_any _ _ HLE.out).mono ?_
 rintro e w2 ⟨rfl,hb2⟩
 have HB2:=hid (HB1.out.below hb2)
 have HL2:Hid (Below w.heap.size w w2):=HL1.out.trans (hb2.mono HL1.out.size)
 clear hb2
 go_wp2_with fail
 refine (vtext_b _ _).mono ?_
 rintro e w3 ⟨rfl,hb3⟩
 have hB3:=HB2.out.below hb3
 have HL3:Hid (Below w.heap.size w w3):=HL2.out.trans (hb3.mono HL2.out.size)
 have c0:=hB3.k0
 have c1:=hB3.k1
 have c2:=hB3.k2
 have f0:=hB3.f 0
 have f1:=hB3.f 1
 have f2:=hB3.f 2
 clear hB3 hb3
 go_wp2_with fail
 exact bodyPost_ret (v:=enV (Sv.text tv)) (by simp [results,Tryz.results342,go_sem, *]) rfl ⟨by rw [HTV.out],((HL3.out.setCell (Nat.le_refl _) _).setCell (Nat.le_refl _) _).setCell (Nat.le_refl _) _⟩
attribute [local go_sem ↓] Go.wp_at_zero Go.wp_at_succ
theorem kind_name {c:Nat} {s:Sp.Bs} {len i:Nat} {σ:Sp.St} {w:World} {wd:ByteArray} (tk:TK s len) (hi:IX s len i σ) (_tc:TC c s w i wd):(kn (Sp.tokCl s (pos s i)) == 3)=σ.isCl s .name:=by
 cases σ with
 | live e=>
  rw [hi.2]
  show _=(Sp.tokCl s e == .name)
  cases Sp.tokCl s e <;> rfl
 | dead x a=>
  rcases tk.last i hi.1 with h | h <;> rw [h] <;> rfl
theorem Rp.opL {W:World} {x:Sp.Nd} {lo l1 h1 bb hi:Nat} {v:Value} {wd:Sp.Bs} {a:Nat} (r1:Rp W x l1 h1 v) (hI:SIn l1 h1 v) (e0:lo<=l1) (e2:h1<=bb) (e4:bb<hi) (kb:At W bb [.string (bz wd), .int .i64 (a:Int),v]) :
  Rp W (.op wd a x) lo hi (.iface 363 (.pointer (some ⟨bb,0,none⟩))):=by
 have l1:=Rp.le _ _ _ _ r1
 exact ⟨bb,_,_,_,rfl,by omega,e4,by unfold Sub;omega,kb,hI.wide e0 (by omega),r1⟩
theorem sees1q {b c cap len:Nat} {s:Sp.Bs} {d:Nat} {σ:Sp.St} {w:World} (h:PS b c cap len s d σ w) (z:Sp.Bs) (hf:z∈fixd) (q:Nat) (hq:q=w.heap.size) :
  Calls Tryz.prog 122 #[.pointer (some ⟨b,0,none⟩), .slice (some ⟨q,0,none⟩) 1 1] (w.alloc (.cells #[.string ⟨z.toArray⟩] 9)) fun r w'=>r = .returned (.bool (σ.is s z))/\PS b c cap len s d σ w'/\Kept b w w':=by
 subst hq;exact sees1 h z hf
theorem is_other {s:Sp.Bs} {z y:Sp.Bs} {σ:Sp.St} (h:σ.is s z=true) (hn:(z == y)=false):σ.is s y=false:=by
 cases σ with
 | dead x a=>rfl
 | live e=>
  simp only [Sp.St.is,Bool.and_eq_true,beq_iff_eq] at h
  simp only [Sp.St.is,h.2,hn,Bool.and_false]
theorem word_le {s:Sp.Bs} (e:Nat) (hl:s.length<=100000):(Sp.tokWord s e).length<=100000:=by
 unfold Sp.tokWord
 rw [List.length_take,List.length_drop]
 omega
theorem num_bz {s:Sp.Bs} {σ:Sp.St} (h:σ.isCl s .num=true) (hsl:s.length<=100000):∀ wd:ByteArray,wd=bz (σ.word s)->wd.data.toList=σ.word s/\wd.data.toList ≠ []/\wd.data.toList.all Sp.isDg=true/\Sp.numVal wd.data.toList<9223372036854775808/\wd.size<=100000:=by
 intro wd hw
 subst hw
 cases σ with
 | dead x a=>cases h
 | live e=>
  have hc:Sp.tokCl s e = .num:=by simpa [Sp.St.isCl] using h
  obtain ⟨a,b,c⟩:=num_word hc
  have e1:(bz (Sp.St.word s (.live e))).data.toList=Sp.tokWord s e:=by simp [bz,Sp.St.word]
  refine ⟨e1,?_,?_,?_,?_⟩
  ·rw [e1];exact a
  ·rw [e1];exact b
  ·rw [e1];exact c
  ·rw [<- size_data,e1];exact word_le e hsl
theorem txt_bz {s:Sp.Bs} {σ:Sp.St} (h:σ.isCl s .txt=true) (hsl:s.length<=100000):∀ wd:ByteArray,wd=bz (σ.word s)->wd.data.toList=σ.word s/\2<=wd.size/\wd.size<=100000:=by
 intro wd hw
 subst hw
 cases σ with
 | dead x a=>cases h
 | live e=>
  have hc:Sp.tokCl s e = .txt:=by simpa [Sp.St.isCl] using h
  have a:=txt_word hc
  have e1:(bz (Sp.St.word s (.live e))).data.toList=Sp.tokWord s e:=by simp [bz,Sp.St.word]
  refine ⟨e1,?_,?_⟩
  ·rw [<- size_data,e1];exact a
  ·rw [<- size_data,e1];exact word_le e hsl
theorem atom_any {b c cap len:Nat} {s:Sp.Bs} {n d:Nat} {σ:Sp.St} {w:World} (hsl:s.length<=100000) (IH:Hid (∀ m,m<=n->All b c cap len s m)) (hd:d+(n+1)<=1000000) (hm:32*Sp.rem s σ+2<=n+1) (hp:PS b c cap len s d σ w) :
  Calls Tryz.prog 337 #[.pointer (some ⟨b,0,none⟩)] w (PostV b c cap len s d (Sp.run s (n+1) .atom d σ) w IsIf fun w' v=>Rp w' (Sp.tr s (n+1) .atom d .nil σ) w.heap.size w'.heap.size v):=by
 have hbw:=hp.lb
 have hcw:=hp.lc
 obtain ⟨i,wd,hi,tc,PK⟩:=peek_any hp
 have hk3:=kind_name hp.tk hi tc
 have HTK:Hid (σ.isLive=true->Sp.tokAt s (pos s i)=σ.at_ s/\((∀ e,σ = .live e->Sp.tokCl s e ≠ .bad)->wd=bz (σ.word s))):=fun hl=>tok_live hi tc hl
 have HPA:=hid hp
 have HPK:=hidc PK
 clear hp hi tc PK
 generalize kn (Sp.tokCl s (pos s i))=kk at *
 generalize Sp.tokAt s (pos s i)=aa at *
 have hmf:=mkFn
 go_enter Tryz.func337,Tryz.ntmps337
 go_wp2_with fail
 refine (HPK.out _ rfl).mono ?_
 rintro r w0 ⟨rfl,hb0⟩
 have hz0:=hb0.size
 have HP0:Hid (PS b c cap len s d σ (w0.alloc (.cells #[.int .i64 kk, .int .i64 (aa:Int), .string wd] 155))):=(HPA.out.below hb0).alloc _
 have HK0:Hid (Kept b w (w0.alloc (.cells #[.int .i64 kk, .int .i64 (aa:Int), .string wd] 155))):=(Kept.below hb0).alloc _
 have HX0:Hid (Bk (w0.alloc (.cells #[.int .i64 kk, .int .i64 (aa:Int), .string wd] 155)) w0.heap.size [.int .i64 kk, .int .i64 (aa:Int), .string wd]):=Bk.new _ _ _
 clear hb0 HPK HPA
 go_wp2_with fail
 refine (acceptKind_any HP0.out .num (by decide) (by decide) _ rfl).mono ?_
 rintro r w1 ⟨rfl,hp,hk⟩
 cases h_num:σ.isCl s .num
 case true=>
  have HV:Hid (Sp.run s (n+1) .atom d σ=σ.step s):=by show _=_;rw [Sp.run];simp [h_num]
  have HVT:Hid (Sp.tr s (n+1) .atom d .nil σ=Sp.Nd.const (Sv.int (Sp.numVal (σ.word s):Nat))):=by show _=_;rw [Sp.tr];simp [h_num]
  have HNW:Hid (∀ wd:ByteArray,wd=bz (σ.word s)->wd.data.toList=σ.word s/\wd.data.toList ≠ []/\wd.data.toList.all Sp.isDg=true/\Sp.numVal wd.data.toList<9223372036854775808/\wd.size<=100000):=num_bz h_num hsl
  have HT:Hid (aa=σ.at_ s/\wd=bz (σ.word s)):=⟨(HTK.out (Sp.live_isCl h_num)).1,(HTK.out (Sp.live_isCl h_num)).2 (not_bad h_num (by decide))⟩
  rw [h_num] at hp
  have HP1:Hid (PS b c cap len s d (σ.step s) w1):=hp
  have HK1:=hid (HK0.out.trans hk)
  have HX1:Hid (Bk w1 w0.heap.size [.int .i64 kk, .int .i64 (aa:Int), .string wd]):=HX0.out.kept hk (by omega)
  clear hp hk HP0 HK0 HX0
  have hx:=HX1.out.lt
  have x0:=HX1.out.k0
  have x1:=HX1.out.k1
  have x2:=HX1.out.k2
  obtain ⟨n1,n2,n3,n4,n5⟩:=HNW.out wd HT.out.2
  have HN1:=hid n1
  clear n1
  go_wp2_with fail
  refine (numberOf_any _ _ n2 n3 n5 n4).mono ?_
  rintro e w2 ⟨rfl,hb⟩
  have HPc:=hid (HP1.out.below hb)
  have HKc:Hid (Kept b w w2):=HK1.out.trans (Kept.below hb)
  clear hb
  go_wp2_with fail
  go_ret
  refine ⟨_,rfl,by rw [HV.out];exact HPc.out.alloc _,HKc.out.alloc _,Or.inr ⟨_,_,rfl⟩,fun _=>?_⟩
  rw [HVT.out,<- HN1.out]
  exact constRp (Bk.new w2 _ _).at_ HKc.out.size (by simp)
 rw [h_num] at hp
 have HP1:Hid (PS b c cap len s d σ w1):=hp
 have HK1:=hid (HK0.out.trans hk)
 have HX1:Hid (Bk w1 w0.heap.size [.int .i64 kk, .int .i64 (aa:Int), .string wd]):=HX0.out.kept hk (by omega)
 clear hp hk HP0 HK0 HX0
 go_wp2_with fail
 refine (acceptKind_any HP1.out .txt (by decide) (by decide) _ rfl).mono ?_
 rintro r w2 ⟨rfl,hp,hk⟩
 cases h_txt:σ.isCl s .txt
 case true=>
  have HV:Hid (Sp.run s (n+1) .atom d σ=σ.step s):=by show _=_;rw [Sp.run];simp [h_num,h_txt]
  have HVT:Hid (Sp.tr s (n+1) .atom d .nil σ=Sp.Nd.const (Sv.text ⟨(Sp.txtVal (σ.word s)).toArray⟩)):=by show _=_;rw [Sp.tr];simp [h_num,h_txt]
  have HNW:Hid (∀ wd:ByteArray,wd=bz (σ.word s)->wd.data.toList=σ.word s/\2<=wd.size/\wd.size<=100000):=txt_bz h_txt hsl
  have HT:Hid (aa=σ.at_ s/\wd=bz (σ.word s)):=⟨(HTK.out (Sp.live_isCl h_txt)).1,(HTK.out (Sp.live_isCl h_txt)).2 (not_bad h_txt (by decide))⟩
  rw [h_txt] at hp
  have HP2:Hid (PS b c cap len s d (σ.step s) w2):=hp
  have HK2:=hid (HK1.out.trans hk)
  have HX2:Hid (Bk w2 w0.heap.size [.int .i64 kk, .int .i64 (aa:Int), .string wd]):=HX1.out.kept hk (by omega)
  clear hp hk HP1 HK1 HX1
  have hx:=HX2.out.lt
  have x0:=HX2.out.k0
  have x1:=HX2.out.k1
  have x2:=HX2.out.k2
  obtain ⟨n1,n2,n3⟩:=HNW.out wd HT.out.2
  have HN1:=hid n1
  clear n1
  go_wp2_with fail
  refine (textOf_any _ _ n2 n3 HP2.out.vmv).mono ?_
  rintro e w3 ⟨rfl,hb⟩
  have HPc:=hid (HP2.out.below hb)
  have HKc:Hid (Kept b w w3):=HK2.out.trans (Kept.below hb)
  clear hb
  go_wp2_with fail
  go_ret
  refine ⟨_,rfl,by rw [HV.out];exact HPc.out.alloc _,HKc.out.alloc _,Or.inr ⟨_,_,rfl⟩,fun _=>?_⟩
  rw [HVT.out,<- HN1.out]
  exact constRp (Bk.new w3 _ _).at_ HKc.out.size (by simp)
 rw [h_txt] at hp
 have HP2:Hid (PS b c cap len s d σ w2):=hp
 have HK2:=hid (HK1.out.trans hk)
 have HX2:Hid (Bk w2 w0.heap.size [.int .i64 kk, .int .i64 (aa:Int), .string wd]):=HX1.out.kept hk (by omega)
 clear hp hk HP1 HK1 HX1
 go_wp2_with fail
 refine (accept1q HP2.out [116,114,117,101] (by decide) _ (by simp)).mono ?_
 rintro r w3 ⟨rfl,hp,hk⟩
 cases h_tru:σ.is s [116,114,117,101]
 case true=>
  have HV:Hid (Sp.run s (n+1) .atom d σ=σ.step s):=by show _=_;rw [Sp.run];simp [h_num,h_txt,h_tru]
  have HVT:Hid (Sp.tr s (n+1) .atom d .nil σ=Sp.Nd.const (Sv.bool true)):=by show _=_;rw [Sp.tr];simp [h_num,h_txt,h_tru]
  rw [take_yes h_tru] at hp
  have HP3:=hid hp
  have HK3:=hid (HK2.out.trans hk)
  have HX3:Hid (Bk w3 w0.heap.size [.int .i64 kk, .int .i64 (aa:Int), .string wd]):=HX2.out.kept hk (by omega)
  clear hp hk HP2 HK2 HX2
  go_wp2_with fail
  refine (vbool_b true _).mono ?_
  rintro e w4 ⟨rfl,hb⟩
  have HPc:=hid (HP3.out.below hb)
  have HKc:Hid (Kept b w w4):=HK3.out.trans (Kept.below hb)
  clear hb
  go_wp2_with fail
  go_ret
  refine ⟨_,rfl,by rw [HV.out];exact HPc.out.alloc _,HKc.out.alloc _,Or.inr ⟨_,_,rfl⟩,fun _=>?_⟩
  rw [HVT.out]
  exact constRp (Bk.new w4 _ _).at_ HKc.out.size (by simp)
 rw [take_no h_tru] at hp
 have HP3:=hid hp
 have HK3:=hid (HK2.out.trans hk)
 have HX3:Hid (Bk w3 w0.heap.size [.int .i64 kk, .int .i64 (aa:Int), .string wd]):=HX2.out.kept hk (by omega)
 clear hp hk HP2 HK2 HX2
 go_wp2_with fail
 refine (accept1q HP3.out [102,97,108,115,101] (by decide) _ (by simp)).mono ?_
 rintro r w4 ⟨rfl,hp,hk⟩
 cases h_fls:σ.is s [102,97,108,115,101]
 case true=>
  have HV:Hid (Sp.run s (n+1) .atom d σ=σ.step s):=by show _=_;rw [Sp.run];simp [h_num,h_txt,h_tru,h_fls]
  have HVT:Hid (Sp.tr s (n+1) .atom d .nil σ=Sp.Nd.const (Sv.bool false)):=by show _=_;rw [Sp.tr];simp [h_num,h_txt,h_tru,h_fls]
  rw [take_yes h_fls] at hp
  have HP4:=hid hp
  have HK4:=hid (HK3.out.trans hk)
  have HX4:Hid (Bk w4 w0.heap.size [.int .i64 kk, .int .i64 (aa:Int), .string wd]):=HX3.out.kept hk (by omega)
  clear hp hk HP3 HK3 HX3
  go_wp2_with fail
  refine (vbool_b false _).mono ?_
  rintro e w5 ⟨rfl,hb⟩
  have HPc:=hid (HP4.out.below hb)
  have HKc:Hid (Kept b w w5):=HK4.out.trans (Kept.below hb)
  clear hb
  go_wp2_with fail
  go_ret
  refine ⟨_,rfl,by rw [HV.out];exact HPc.out.alloc _,HKc.out.alloc _,Or.inr ⟨_,_,rfl⟩,fun _=>?_⟩
  rw [HVT.out]
  exact constRp (Bk.new w5 _ _).at_ HKc.out.size (by simp)
 rw [take_no h_fls] at hp
 have HP4:=hid hp
 have HK4:=hid (HK3.out.trans hk)
 have HX4:Hid (Bk w4 w0.heap.size [.int .i64 kk, .int .i64 (aa:Int), .string wd]):=HX3.out.kept hk (by omega)
 clear hp hk HP3 HK3 HX3
 go_wp2_with fail
 refine (accept1q HP4.out [110,117,108,108] (by decide) _ (by simp)).mono ?_
 rintro r w5 ⟨rfl,hp,hk⟩
 cases h_nul:σ.is s [110,117,108,108]
 case true=>
  have HV:Hid (Sp.run s (n+1) .atom d σ=σ.step s):=by show _=_;rw [Sp.run];simp [h_num,h_txt,h_tru,h_fls,h_nul]
  have HVT:Hid (Sp.tr s (n+1) .atom d .nil σ=Sp.Nd.const (Sv.null)):=by show _=_;rw [Sp.tr];simp [h_num,h_txt,h_tru,h_fls,h_nul]
  rw [take_yes h_nul] at hp
  have HP5:=hid hp
  have HK5:=hid (HK4.out.trans hk)
  have HX5:Hid (Bk w5 w0.heap.size [.int .i64 kk, .int .i64 (aa:Int), .string wd]):=HX4.out.kept hk (by omega)
  clear hp hk HP4 HK4 HX4
  go_wp2_with fail
  refine (vnull_b _).mono ?_
  rintro e w6 ⟨rfl,hb⟩
  have HPc:=hid (HP5.out.below hb)
  have HKc:Hid (Kept b w w6):=HK5.out.trans (Kept.below hb)
  clear hb
  go_wp2_with fail
  go_ret
  refine ⟨_,rfl,by rw [HV.out];exact HPc.out.alloc _,HKc.out.alloc _,Or.inr ⟨_,_,rfl⟩,fun _=>?_⟩
  rw [HVT.out]
  exact constRp (Bk.new w6 _ _).at_ HKc.out.size (by simp)
 rw [take_no h_nul] at hp
 have HP5:=hid hp
 have HK5:=hid (HK4.out.trans hk)
 have HX5:Hid (Bk w5 w0.heap.size [.int .i64 kk, .int .i64 (aa:Int), .string wd]):=HX4.out.kept hk (by omega)
 clear hp hk HP4 HK4 HX4
 have hx:=HX5.out.lt
 have x0:=HX5.out.k0
 have x1:=HX5.out.k1
 have x2:=HX5.out.k2
 cases h_nam:σ.isCl s .name
 case true=>
  have HV:Hid (Sp.run s (n+1) .atom d σ=colS s σ):=by show _=_;rw [Sp.run];simp [h_num,h_txt,h_tru,h_fls,h_nul,h_nam,colS]
  have HVT:Hid (Sp.tr s (n+1) .atom d .nil σ=colN s σ):=by show _=_;rw [Sp.tr];simp [h_num,h_txt,h_tru,h_fls,h_nul,h_nam,colN]
  rw [h_nam] at hk3
  go_wp2_with fail
  refine (column_any HP5.out h_nam).mono ?_
  rintro r w9 ⟨v9,rfl,hp9,hk9,hi9,hr9⟩
  have HX:Hid (PS b c cap len s d (colS s σ) w9/\Kept b w w9/\IsIf v9/\((colS s σ).isLive=true->Rp w9 (colN s σ) w.heap.size w9.heap.size v9)):=⟨hp9,HK5.out.trans hk9,hi9,fun hl=>Rp.wide _ _ _ _ _ _ (hr9 hl) HK5.out.size (Nat.le_refl _)⟩
  clear hp9 hk9 hi9 hr9
  go_wp2_with fail
  go_ret
  exact ⟨_,rfl,by rw [HV.out];exact HX.out.1,HX.out.2.1,HX.out.2.2.1,by rw [HV.out,HVT.out];exact HX.out.2.2.2⟩
 rw [h_nam] at hk3
 go_wp2_with fail
 clear x0 x1 x2 hx
 cases h_opn:σ.is s [40]
 case true=>
  cases h_ask:σ.asks s
  case true=>
   have h1:=Sp.rem_openT_lt (d:=d) h_opn
   have HV:Hid (Sp.run s (n+1) .atom d σ=Sp.St.must s [41] (Sp.run s n .query (d+1) (Sp.St.openT s d σ))):=by show _=_;rw [Sp.run];simp [h_num,h_txt,h_tru,h_fls,h_nul,h_nam,h_opn,h_ask]
   have HVT:Hid (Sp.tr s (n+1) .atom d .nil σ=Sp.Nd.within (σ.word s) (σ.at_ s) .nil (Sp.tr s n .query (d+1) .nil (Sp.St.openT s d σ))):=by show _=_;rw [Sp.tr];simp [h_num,h_txt,h_tru,h_fls,h_nul,h_nam,h_opn,h_ask]
   rw [<- opened_is h_opn] at h1 HV HVT
   have HT:Hid (aa=σ.at_ s/\wd=bz (σ.word s)):=⟨(HTK.out (Sp.live_is h_opn)).1,(HTK.out (Sp.live_is h_opn)).2 (not_bad_is h_opn)⟩
   obtain ⟨e,rfl⟩:∃ e,σ = .live e:=by cases σ with | live e=>exact ⟨e,rfl⟩ | dead x a=>cases h_opn
   refine (isQuery_open HP5.out h_opn).mono ?_
   rintro r w6 ⟨rfl,hp,hk⟩
   rw [h_ask]
   have HP6:=hid hp
   have HK6:=hid (HK5.out.trans hk)
   have HX6:Hid (Bk w6 w0.heap.size [.int .i64 kk, .int .i64 (aa:Int), .string wd]):=HX5.out.kept hk (by omega)
   clear hp hk HP5 HK5 HX5
   have hx:=HX6.out.lt
   have x0:=HX6.out.k0
   have x1:=HX6.out.k1
   have x2:=HX6.out.k2
   go_wp2_with fail
   refine (within_any HP6.out (by omega) _ _ _ _ _ _ (Sp.run s n .query (d+1) (Sp.St.opened s [40] d (.live e))) (Sp.tr s n .query (d+1) .nil (Sp.St.opened s [40] d (.live e))) (fun w' hp'=>((IH.out n (Nat.le_refl _)).query (d+1) _ _ (by omega) (by show 32*Sp.rem s _+15<=n;omega) hp').mono fun _ _ h=>h.rq)).mono ?_
   rintro r w9 ⟨qv,bb,rfl,hp9,hk9,ha9,hi9,hb9,hr9⟩
   have HX:Hid (PS b c cap len s d (Sp.St.must s [41] (Sp.run s n .query (d+1) (Sp.St.opened s [40] d (.live e)))) w9/\Kept b w w9/\At w9 bb [.string wd, .int .i64 (aa:Int), .slice none 0 0,qv]/\IsIf qv/\w.heap.size<=bb/\((Sp.St.must s [41] (Sp.run s n .query (d+1) (Sp.St.opened s [40] d (.live e)))).isLive=true->Rp w9 (Sp.tr s n .query (d+1) .nil (Sp.St.opened s [40] d (.live e))) w6.heap.size bb qv)):=⟨hp9,HK6.out.trans hk9,ha9,hi9,by have:=HK6.out.size;omega,hr9⟩
   clear hp9 hk9 ha9 hi9 hb9 hr9 x0 x1 x2
   go_wp2_with fail
   go_ret
   obtain ⟨g1,g2,g3,g4,g5,g6⟩:=HX.out
   refine ⟨_,rfl,by rw [HV.out];exact g1,g2,Or.inr ⟨_,_,rfl⟩,fun hl=>?_⟩
   rw [HV.out] at hl
   rw [HVT.out]
   obtain ⟨e1,e2⟩:=HT.out
   subst e1 e2
   exact Rp.within0 (g6 hl) g4.noSl HK6.out.size g3.1 g3
  have h_exi:σ.is s [101,120,105,115,116,115]=false:=is_other h_opn (by decide)
  have h1:=Sp.rem_openT_lt (d:=d) h_opn
  have HV:Hid (Sp.run s (n+1) .atom d σ=Sp.St.must s [41] (Sp.run s n .expr (d+1) (Sp.St.openT s d σ))):=by show _=_;rw [Sp.run];simp [h_num,h_txt,h_tru,h_fls,h_nul,h_nam,h_opn,h_ask]
  have HVT:Hid (Sp.tr s (n+1) .atom d .nil σ=Sp.tr s n .expr (d+1) .nil (Sp.St.openT s d σ)):=by show _=_;rw [Sp.tr];simp [h_num,h_txt,h_tru,h_fls,h_nul,h_nam,h_opn,h_ask]
  rw [<- opened_is h_opn] at h1 HV HVT
  obtain ⟨e,rfl⟩:∃ e,σ = .live e:=by cases σ with | live e=>exact ⟨e,rfl⟩ | dead x a=>cases h_opn
  refine (isQuery_open HP5.out h_opn).mono ?_
  rintro r w6 ⟨rfl,hp,hk⟩
  rw [h_ask]
  have HP6:=hid hp
  have HK6:=hid (HK5.out.trans hk)
  have HX6:Hid (Bk w6 w0.heap.size [.int .i64 kk, .int .i64 (aa:Int), .string wd]):=HX5.out.kept hk (by omega)
  clear hp hk HP5 HK5 HX5
  go_wp2_with fail
  refine (accept1q HP6.out [101,120,105,115,116,115] (by decide) _ (by simp)).mono ?_
  rintro r w7 ⟨rfl,hp,hk⟩
  rw [take_no h_exi] at hp
  rw [h_exi]
  have HP7:=hid hp
  have HK7:=hid (HK6.out.trans hk)
  have HX7:Hid (Bk w7 w0.heap.size [.int .i64 kk, .int .i64 (aa:Int), .string wd]):=HX6.out.kept hk (by omega)
  clear hp hk HP6 HK6 HX6
  go_wp2_with fail
  refine (sees1q HP7.out [40] (by decide) _ (by simp)).mono ?_
  rintro r w8 ⟨rfl,hp,hk⟩
  rw [h_opn]
  have HP8:=hid hp
  have HK8:=hid (HK7.out.trans hk)
  have HX8:Hid (Bk w8 w0.heap.size [.int .i64 kk, .int .i64 (aa:Int), .string wd]):=HX7.out.kept hk (by omega)
  clear hp hk HP7 HK7 HX7
  go_wp2_with fail
  refine (enclosed_of (.inl ⟨rfl,rfl,rfl,rfl,rfl,rfl⟩) HP8.out (by omega) (Sp.run s n .expr (d+1) (Sp.St.opened s [40] d (.live e))) (Sp.tr s n .expr (d+1) .nil (Sp.St.opened s [40] d (.live e))) (fun w' hp'=>((IH.out n (Nat.le_refl _)).expr (d+1) _ _ (by omega) (by show 32*Sp.rem s _+9<=n;omega) hp').mono fun _ _ h=>h.rq)).mono ?_
  rintro r w9 ⟨v9,rfl,hp9,hk9,hi9,hr9⟩
  have HX:Hid (PS b c cap len s d (Sp.St.must s [41] (Sp.run s n .expr (d+1) (Sp.St.opened s [40] d (.live e)))) w9/\Kept b w w9/\IsIf v9/\((Sp.St.must s [41] (Sp.run s n .expr (d+1) (Sp.St.opened s [40] d (.live e)))).isLive=true->Rp w9 (Sp.tr s n .expr (d+1) .nil (Sp.St.opened s [40] d (.live e))) w.heap.size w9.heap.size v9)):=⟨hp9,HK8.out.trans hk9,hi9,fun hl=>Rp.wide _ _ _ _ _ _ (hr9 hl).1 HK8.out.size (Nat.le_refl _)⟩
  clear hp9 hk9 hi9 hr9
  go_wp2_with fail
  go_ret
  exact ⟨_,rfl,by rw [HV.out];exact HX.out.1,HX.out.2.1,HX.out.2.2.1,by rw [HV.out,HVT.out];exact HX.out.2.2.2⟩
 refine (isQuery_no HP5.out h_opn).mono ?_
 rintro r w6 ⟨rfl,hp,hk⟩
 have HP6:=hid hp
 have HK6:=hid (HK5.out.trans hk)
 have HX6:Hid (Bk w6 w0.heap.size [.int .i64 kk, .int .i64 (aa:Int), .string wd]):=HX5.out.kept hk (by omega)
 clear hp hk HP5 HK5 HX5
 go_wp2_with fail
 refine (accept1q HP6.out [101,120,105,115,116,115] (by decide) _ (by simp)).mono ?_
 rintro r w7 ⟨rfl,hp,hk⟩
 cases h_exi:σ.is s [101,120,105,115,116,115]
 case true=>
  have h1:=Sp.rem_step_lt h_exi
  have h3:=Sp.rem_opened s [40] d (σ.step s)
  have HV:Hid (Sp.run s (n+1) .atom d σ=Sp.St.must s [41] (Sp.run s n .query (d+1) (Sp.St.opened s [40] d (σ.step s)))):=by show _=_;rw [Sp.run];simp [h_num,h_txt,h_tru,h_fls,h_nul,h_nam,h_opn,h_exi]
  have HVT:Hid (Sp.tr s (n+1) .atom d .nil σ=Sp.Nd.within (σ.word s) (σ.at_ s) .nil (Sp.tr s n .query (d+1) .nil (Sp.St.opened s [40] d (σ.step s)))):=by show _=_;rw [Sp.tr];simp [h_num,h_txt,h_tru,h_fls,h_nul,h_nam,h_opn,h_exi]
  have HT:Hid (aa=σ.at_ s/\wd=bz (σ.word s)):=⟨(HTK.out (Sp.live_is h_exi)).1,(HTK.out (Sp.live_is h_exi)).2 (not_bad_is h_exi)⟩
  rw [take_yes h_exi] at hp
  have HP7:=hid hp
  have HK7:=hid (HK6.out.trans hk)
  have HX7:Hid (Bk w7 w0.heap.size [.int .i64 kk, .int .i64 (aa:Int), .string wd]):=HX6.out.kept hk (by omega)
  clear hp hk HP6 HK6 HX6
  have hx:=HX7.out.lt
  have x0:=HX7.out.k0
  have x1:=HX7.out.k1
  have x2:=HX7.out.k2
  go_wp2_with fail
  refine (within_any HP7.out (by omega) _ _ _ _ _ _ (Sp.run s n .query (d+1) (Sp.St.opened s [40] d (σ.step s))) (Sp.tr s n .query (d+1) .nil (Sp.St.opened s [40] d (σ.step s))) (fun w' hp'=>((IH.out n (Nat.le_refl _)).query (d+1) _ _ (by omega) (by show 32*Sp.rem s _+15<=n;omega) hp').mono fun _ _ h=>h.rq)).mono ?_
  rintro r w9 ⟨qv,bb,rfl,hp9,hk9,ha9,hi9,hb9,hr9⟩
  have HX:Hid (PS b c cap len s d (Sp.St.must s [41] (Sp.run s n .query (d+1) (Sp.St.opened s [40] d (σ.step s)))) w9/\Kept b w w9/\At w9 bb [.string wd, .int .i64 (aa:Int), .slice none 0 0,qv]/\IsIf qv/\w.heap.size<=bb/\((Sp.St.must s [41] (Sp.run s n .query (d+1) (Sp.St.opened s [40] d (σ.step s)))).isLive=true->Rp w9 (Sp.tr s n .query (d+1) .nil (Sp.St.opened s [40] d (σ.step s))) w7.heap.size bb qv)):=⟨hp9,HK7.out.trans hk9,ha9,hi9,by have:=HK7.out.size;omega,hr9⟩
  clear hp9 hk9 ha9 hi9 hb9 hr9 x0 x1 x2
  go_wp2_with fail
  go_ret
  obtain ⟨g1,g2,g3,g4,g5,g6⟩:=HX.out
  refine ⟨_,rfl,by rw [HV.out];exact g1,g2,Or.inr ⟨_,_,rfl⟩,fun hl=>?_⟩
  rw [HV.out] at hl
  rw [HVT.out]
  obtain ⟨e1,e2⟩:=HT.out
  subst e1 e2
  exact Rp.within0 (g6 hl) g4.noSl HK7.out.size g3.1 g3
 rw [take_no h_exi] at hp
 have HP7:=hid hp
 have HK7:=hid (HK6.out.trans hk)
 have HX7:Hid (Bk w7 w0.heap.size [.int .i64 kk, .int .i64 (aa:Int), .string wd]):=HX6.out.kept hk (by omega)
 clear hp hk HP6 HK6 HX6
 go_wp2_with fail
 refine (sees1q HP7.out [40] (by decide) _ (by simp)).mono ?_
 rintro r w8 ⟨rfl,hp,hk⟩
 rw [h_opn]
 have HP8:=hid hp
 have HK8:=hid (HK7.out.trans hk)
 have HX8:Hid (Bk w8 w0.heap.size [.int .i64 kk, .int .i64 (aa:Int), .string wd]):=HX7.out.kept hk (by omega)
 clear hp hk HP7 HK7 HX7
 go_wp2_with fail
 refine (accept1q HP8.out [99,111,97,108,101,115,99,101] (by decide) _ (by simp)).mono ?_
 rintro r w9 ⟨rfl,hp,hk⟩
 cases h_coa:σ.is s [99,111,97,108,101,115,99,101]
 case true=>
  have h1:=Sp.rem_step_lt h_coa
  have h3:=Sp.rem_opened s [40] d (σ.step s)
  have HV:Hid (Sp.run s (n+1) .atom d σ=Sp.St.must s [41] (Sp.run s n .list (d+1) (Sp.St.opened s [40] d (σ.step s)))):=by show _=_;rw [Sp.run];simp [h_num,h_txt,h_tru,h_fls,h_nul,h_nam,h_opn,h_exi,h_coa]
  have HVT:Hid (Sp.tr s (n+1) .atom d .nil σ=Sp.Nd.op (σ.word s) (σ.at_ s) (Sp.tr s n .list (d+1) .nil (Sp.St.opened s [40] d (σ.step s)))):=by show _=_;rw [Sp.tr];simp [h_num,h_txt,h_tru,h_fls,h_nul,h_nam,h_opn,h_exi,h_coa]
  have HT:Hid (aa=σ.at_ s/\wd=bz (σ.word s)):=⟨(HTK.out (Sp.live_is h_coa)).1,(HTK.out (Sp.live_is h_coa)).2 (not_bad_is h_coa)⟩
  rw [take_yes h_coa] at hp
  have HP9:=hid hp
  have HK9:=hid (HK8.out.trans hk)
  have HX9:Hid (Bk w9 w0.heap.size [.int .i64 kk, .int .i64 (aa:Int), .string wd]):=HX8.out.kept hk (by omega)
  clear hp hk HP8 HK8 HX8
  have hx:=HX9.out.lt
  have x0:=HX9.out.k0
  have x1:=HX9.out.k1
  have x2:=HX9.out.k2
  go_wp2_with fail
  go_region_held3 (fun w'=>w'.cell? ⟨w0.heap.size,0,none⟩=some (.int .i64 kk)/\w'.cell? ⟨w0.heap.size,1,none⟩=some (.int .i64 (aa:Int))/\w'.cell? ⟨w0.heap.size,2,none⟩=some (.string wd)) (first | go_keep | exact ⟨y0,y1,y2⟩) (first | (go_at_call 346;refine (enclosed_of (.inr (.inl ⟨rfl,rfl,rfl,rfl,rfl,rfl⟩)) HP9.out.drew (by omega) (Sp.run s n .list (d+1) (Sp.St.opened s [40] d (σ.step s))) (Sp.tr s n .list (d+1) .nil (Sp.St.opened s [40] d (σ.step s))) (fun w' hp'=>(IH.out n (Nat.le_refl _)).list (d+1) _ _ (by omega) (by show 32*Sp.rem s _+10<=n;omega) hp')).mono ?_;rintro e wz ⟨v9,rfl,hpz,hkz,⟨sa,sn,sc,rfl⟩,hrz⟩;have hkz' : Kept b w9 wz:=((Kept.refl b w9).drew).trans hkz;have hB9:=HX9.out.kept hkz' (by omega);have hy:=hB9.lt;have y0:=hB9.k0;have y1:=hB9.k1;have y2:=hB9.k2) | (go_at_call 252;refine (operation_any _ _ _ _ _ _ _).mono ?_;rintro e w10 ⟨rfl,rfl⟩))
  have HPz:=hid hpz
  have HKz:Hid (Kept b w wz):=HK9.out.trans hkz'
  have HRz:Hid (_->Rq wz _ w9.heap.size wz.heap.size _):=hrz
  have hzz:=hkz'.size
  have hzw:=HK9.out.size
  clear hpz hkz hkz' hrz hB9 y0 y1 y2 x0 x1 x2
  go_wp2_with fail
  go_ret
  refine ⟨_,rfl,by rw [HV.out];exact (HPz.out.alloc _).alloc _,(HKz.out.alloc _).alloc _,Or.inr ⟨_,_,rfl⟩,fun hl=>?_⟩
  rw [HV.out] at hl
  rw [HVT.out]
  obtain ⟨e1,e2⟩:=HT.out
  subst e1 e2
  have rz:=(HRz.out hl).kept (b:=b) (((Kept.refl b wz).alloc (.cells #[.int .i64 kk, .int .i64 (Sp.St.at_ s σ:Nat), .string (bz (Sp.St.word s σ))] 155)).alloc (.cells #[.string (bz (Sp.St.word s σ)), .int .i64 (Sp.St.at_ s σ:Nat), .slice sa sn sc] 379)) (by omega) (Nat.le_refl _)
  refine Rp.opL rz.1 rz.2 hzw (by omega) (by simp) ?_
  have:=(Bk.new (wz.alloc (.cells #[.int .i64 kk, .int .i64 (Sp.St.at_ s σ:Nat), .string (bz (Sp.St.word s σ))] 155)) #[.string (bz (Sp.St.word s σ)), .int .i64 (Sp.St.at_ s σ:Nat), .slice sa sn sc] 379).at_
  simpa using this
 rw [take_no h_coa] at hp
 have HP9:=hid hp
 have HK9:=hid (HK8.out.trans hk)
 have HX9:Hid (Bk w9 w0.heap.size [.int .i64 kk, .int .i64 (aa:Int), .string wd]):=HX8.out.kept hk (by omega)
 clear hp hk HP8 HK8 HX8
 go_wp2_with fail
 refine (sees1q HP9.out [99,97,115,101] (by decide) _ (by simp)).mono ?_
 rintro r w10 ⟨rfl,hp,hk⟩
 cases h_cas:σ.is s [99,97,115,101]
 case true=>
  have h1:=Sp.rem_openT_lt (d:=d) h_cas
  have HV:Hid (Sp.run s (n+1) .atom d σ=Sp.St.must s [101,110,100] (Sp.run s n .caseW (d+1) (Sp.St.openT s d σ))):=by show _=_;rw [Sp.run];simp [h_num,h_txt,h_tru,h_fls,h_nul,h_nam,h_opn,h_exi,h_coa,h_cas]
  have HVT:Hid (Sp.tr s (n+1) .atom d .nil σ=Sp.tr s n .caseW (d+1) .nil (σ.openT s d)):=by show _=_;rw [Sp.tr];simp [h_num,h_txt,h_tru,h_fls,h_nul,h_nam,h_opn,h_exi,h_coa]
  rw [<- opened_is h_cas] at h1 HV HVT
  obtain ⟨n',rfl⟩:∃ n',n=n'+2:=⟨n - 2,by omega⟩
  have HP10:=hid hp
  have HK10:=hid (HK9.out.trans hk)
  have HX10:Hid (Bk w10 w0.heap.size [.int .i64 kk, .int .i64 (aa:Int), .string wd]):=HX9.out.kept hk (by omega)
  clear hp hk HP9 HK9 HX9
  go_wp2_with fail
  refine (opened_of (.inl ⟨rfl,rfl, .inr (.inr rfl),rfl,rfl,rfl⟩) HP10.out [99,97,115,101] (by decide) (by omega) (Sp.St.must s [101,110,100] (Sp.run s (n'+2) .caseW (d+1) (Sp.St.opened s [99,97,115,101] d σ))) (Sp.tr s (n'+2) .caseW (d+1) .nil (Sp.St.opened s [99,97,115,101] d σ)) (fun w' _ hp'=>(arms_any IH (by omega) (by omega) hp').mono fun _ _ h=>h.rq)).mono ?_
  rintro r wz ⟨vz,rfl,hpz,hkz,hiz,hrz⟩
  have HX:Hid (PS b c cap len s d (Sp.St.must s [101,110,100] (Sp.run s (n'+2) .caseW (d+1) (Sp.St.opened s [99,97,115,101] d σ))) wz/\Kept b w wz/\IsIf vz/\((Sp.St.must s [101,110,100] (Sp.run s (n'+2) .caseW (d+1) (Sp.St.opened s [99,97,115,101] d σ))).isLive=true->Rp wz (Sp.tr s (n'+2) .caseW (d+1) .nil (Sp.St.opened s [99,97,115,101] d σ)) w.heap.size wz.heap.size vz)):=⟨hpz,HK10.out.trans hkz,hiz,fun hl=>Rp.wide _ _ _ _ _ _ (hrz hl).1 HK10.out.size (Nat.le_refl _)⟩
  clear hpz hkz hiz hrz
  go_wp2_with fail
  go_ret
  exact ⟨_,rfl,by rw [HV.out];exact HX.out.1,HX.out.2.1,HX.out.2.2.1,by rw [HV.out,HVT.out];exact HX.out.2.2.2⟩
 have HV:Hid (Sp.run s (n+1) .atom d σ=σ.fail s 2):=by show _=_;rw [Sp.run];simp [h_num,h_txt,h_tru,h_fls,h_nul,h_nam,h_opn,h_exi,h_coa,h_cas]
 have HVT:Hid (Sp.tr s (n+1) .atom d .nil σ=Sp.tr s n .caseW (d+1) .nil (σ.openT s d)):=by show _=_;rw [Sp.tr];simp [h_num,h_txt,h_tru,h_fls,h_nul,h_nam,h_opn,h_exi,h_coa]
 have HP10:=hid hp
 have HK10:=hid (HK9.out.trans hk)
 have HX10:Hid (Bk w10 w0.heap.size [.int .i64 kk, .int .i64 (aa:Int), .string wd]):=HX9.out.kept hk (by omega)
 clear hp hk HP9 HK9 HX9
 go_wp2_with fail
 refine (refuse_any HP10.out).mono ?_
 rintro r w9 ⟨rfl,hp9,hk9⟩
 have HP9:=hid hp9
 have HK9:=hid (HK10.out.trans hk9)
 clear hp9 hk9
 go_wp2_with fail
 go_ret
 exact ⟨_,rfl,by rw [HV.out];exact HP9.out,HK9.out,Or.inl rfl,fun hl=>by rw [HV.out] at hl;exact (Sp.live_fail hl).elim⟩
theorem atom_step {b c cap len:Nat} {s:Sp.Bs} {n:Nat} (hsl:s.length<=100000) (IH:Hid (∀ m,m<=n->All b c cap len s m)):Sd b c cap len s (n+1) .atom IsIf 337:=fun _ _ _ hd hm hp=>atom_any hsl IH hd hm hp
end Go.Proofs.YtgnncnhkgmhngaaGreatDoor
