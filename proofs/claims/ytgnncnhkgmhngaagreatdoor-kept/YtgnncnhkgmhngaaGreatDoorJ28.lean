import Derived.Test.YtgnncnhkgmhngaaGreatDoorJ27
import Derived.Test.YtgnncnhkgmhngaaGreatDoorJ16
set_option maxHeartbeats 20000000
set_option maxRecDepth 100000
namespace Go.Proofs.YtgnncnhkgmhngaaGreatDoor
open Go.RowKit
def StV (w:World):Sp.Stm→Nat→Nat→Value→Prop
 | .create t cols,lo,hi,v=>∃ p,v = .iface 160 p∧CrV w t cols lo hi p
 | .drop t,lo,hi,v=>∃ q,v = .iface 163 (.pointer (some ⟨q,0,none⟩))∧lo≤q∧q<hi∧At w q [.string (bz t.1), .int .i64 (t.2:Nat)]
 | .insertV a t rows,lo,hi,v=>∃ p,v = .iface 169 p∧InV w a t rows lo hi p
 | .insertQ a t nd,lo,hi,v=>∃ p,v = .iface 169 p∧InQ w a t nd lo hi p
 | .delete t wh,lo,hi,v=>∃ q pv,v = .iface 171 (.pointer (some ⟨q,0,none⟩))∧lo≤q∧q<hi∧At w q [.string (bz t.1), .int .i64 (t.2:Nat),pv]∧IsPt pv∧Rp w wh lo q pv
 | .update t sets wh,lo,hi,v=>∃ p,v = .iface 176 p∧UpV w t sets wh lo hi p
 | .trans z,lo,hi,v=>∃ q,v = .iface 122 (.pointer (some ⟨q,0,none⟩))∧lo≤q∧q<hi∧At w q [.string (bz z)]
 | .query nd,lo,hi,v=>Rp w nd lo hi v
theorem CrV.low {w:World} {nm:Sp.Nm} {ns:List (Sp.Nm×Int)} {lo hi lo' : Nat} {v:Value} (h:CrV w nm ns lo hi v) (h1:lo'≤lo):CrV w nm ns lo' hi v:=by
 obtain ⟨q,sl,e,a,b,c,d⟩:=h
 exact ⟨q,sl,e,by omega,b,c,d.wide h1 (Nat.le_refl _)⟩
theorem InV.low {w:World} {a:Nat} {nm:Sp.Nm} {ns:List (Nat×Sp.Nd)} {lo hi lo' : Nat} {v:Value} (h:InV w a nm ns lo hi v) (h1:lo'≤lo):InV w a nm ns lo' hi v:=by
 obtain ⟨q,sl,e,a,b,c,d⟩:=h
 exact ⟨q,sl,e,by omega,b,c,d⟩
theorem InQ.low {w:World} {a:Nat} {nm:Sp.Nm} {nd:Sp.Nd} {lo hi lo' : Nat} {v:Value} (h:InQ w a nm nd lo hi v) (h1:lo'≤lo):InQ w a nm nd lo' hi v:=by
 obtain ⟨q,sl,e,a,b,c,d⟩:=h
 exact ⟨q,sl,e,by omega,b,c,d⟩
theorem UpV.low {w:World} {nm:Sp.Nm} {ns:List (Sp.Nm×Nat×Sp.Nd)} {wh:Sp.Nd} {lo hi lo' : Nat} {v:Value} (h:UpV w nm ns wh lo hi v) (h1:lo'≤lo):UpV w nm ns wh lo' hi v:=by
 obtain ⟨q,sl,pv,mid,e,a,b,c,d,f,g⟩:=h
 exact ⟨q,sl,pv,mid,e,by omega,b,c,d,f.wide h1 (Nat.le_refl _),g⟩
theorem three (s:Sp.Bs) (x y z:Sp.Bs) (σ:Sp.St):seesOne s [x,y,z] σ=(σ.is s x||σ.is s y||σ.is s z):=by simp [seesOne,Bool.or_assoc]
theorem statement_any {b c cap len:Nat} {s:Sp.Bs} {m:Nat} {σ:Sp.St} {w:World} (IA:All b c cap len s (m+1)) (IB:All b c cap len s m) (hn:m+1≤900000) (hm:32*Sp.rem s σ+31≤m+1) (hp:PS b c cap len s 0 σ w) :
  Calls Tryz.prog 48 #[.pointer (some ⟨b,0,none⟩)] w (PostV b c cap len s 0 (Sp.stmt s (m+1) σ) w IsIf fun w' v=>StV w' (Sp.stm s (m+1) σ) w.heap.size w'.heap.size v):=by
 have hbw:=hp.lb
 have hcw:=hp.lc
 have r0:=Sp.rem_step_le s σ
 obtain ⟨i,wd,hi,tc,PK⟩:=peek_any hp
 have HTK:Hid (σ.isLive=true→(∀ e,σ = .live e→Sp.tokCl s e ≠ .bad)→wd=bz (σ.word s)):=fun hl=>(tok_live hi tc hl).2
 have HP0:=hid hp
 have HPK:=hidc PK
 have HIA:=hid IA
 have HIB:=hid IB
 clear hp tc hi PK IA IB
 generalize kn (Sp.tokCl s (pos s i))=kk at *
 generalize Sp.tokAt s (pos s i)=st at *
 have hfd:=tokF2
 go_enter Tryz.func48,Tryz.ntmps48
 go_wp2_with fail
 refine (HPK.out _ rfl).mono ?_
 clear HPK
 rintro r w1 ⟨rfl,hb1⟩
 have HP1:Hid (PS b c cap len s 0 σ (w1.alloc (.cells #[.int .i64 kk, .int .i64 (st:Int), .string wd] 155))):=(HP0.out.below hb1).alloc _
 have HK1:Hid (Kept b w (w1.alloc (.cells #[.int .i64 kk, .int .i64 (st:Int), .string wd] 155))):=(Kept.below hb1).alloc _
 have HX1:Hid (Bk (w1.alloc (.cells #[.int .i64 kk, .int .i64 (st:Int), .string wd] 155)) w1.heap.size [.int .i64 kk, .int .i64 (st:Int), .string wd]):=Bk.new _ _ _
 have hz1:w.heap.size≤w1.heap.size:=hb1.size
 clear hb1 HP0
 go_wp2_with fail
 refine (accept1q HP1.out [99,114,101,97,116,101] (by decide) _ (by simp)).mono ?_
 generalize w1.alloc (.cells #[.int .i64 kk, .int .i64 (st:Int), .string wd] 155)=w1' at *
 rintro r w2 ⟨rfl,hp2,hk2⟩
 cases h_create:σ.is s [99,114,101,97,116,101]
 case true=>
  have HV:Hid (Sp.stmt s (m+1) σ=crT s m (σ.step s)):=by show _=_;simp only [Sp.stmt,h_create,if_true];rfl
  have HVT:Hid (Sp.stm s (m+1) σ = .create (((σ.step s).must s [116,97,98,108,101]).nm s) (Sp.colTs s (m+1) 0 ((((σ.step s).must s [116,97,98,108,101]).nameT s).must s [40]))):=by show _=_;simp only [Sp.stm,h_create,if_true]
  rw [take_yes h_create] at hp2
  have HP2:=hid hp2
  have HK2:=hid (HK1.out.trans hk2)
  have HX2:Hid (Bk w2 w1.heap.size [.int .i64 kk, .int .i64 (st:Int), .string wd]):=HX1.out.kept hk2 (by omega)
  clear hp2 hk2 HP1 HK1 HX1
  go_wp2_with fail
  refine (create_any (m:=m) (by omega) (by omega) HP2.out).mono ?_
  rintro r w20 ⟨v20,rfl,hp20,hk20,⟨q20,rfl⟩,hq20⟩
  have HP20:Hid (PS b c cap len s 0 (Sp.stmt s (m+1) σ) w20):=by show PS b c cap len s 0 _ w20;rw [HV.out];exact hp20
  have HK20:=hid (HK2.out.trans hk20)
  have hzk:=HK2.out.size
  have HR20:Hid ((Sp.stmt s (m+1) σ).isLive=true→StV w20 (Sp.stm s (m+1) σ) w.heap.size w20.heap.size (.iface 160 (.pointer (some ⟨q20,0,none⟩)))):=fun hl=>by rw [HV.out] at hl;rw [HVT.out];exact ⟨_,rfl,CrV.low (hq20 hl) hzk⟩
  clear hp20 hk20 hq20 HP2 HK2 HX2
  go_wp2_with fail
  go_ret
  exact ⟨_,rfl,HP20.out,HK20.out,Or.inr ⟨_,_,rfl⟩,HR20.out⟩
 rw [take_no h_create] at hp2
 have HP2:=hid hp2
 have HK2:=hid (HK1.out.trans hk2)
 have HX2:Hid (Bk w2 w1.heap.size [.int .i64 kk, .int .i64 (st:Int), .string wd]):=HX1.out.kept hk2 (by omega)
 clear hp2 hk2 HP1 HK1 HX1
 go_wp2_with fail
 refine (accept1 HP2.out [100,114,111,112] (by decide)).mono ?_
 rintro r w3 ⟨rfl,hp3,hk3⟩
 cases h_drop:σ.is s [100,114,111,112]
 case true=>
  have HV:Hid (Sp.stmt s (m+1) σ=Sp.St.nameT s ((σ.step s).must s [116,97,98,108,101])):=by show _=_;simp only [Sp.stmt,h_create,h_drop,Bool.false_eq_true,if_true,if_false];skip
  have HVT:Hid (Sp.stm s (m+1) σ = .drop (Sp.St.nm s ((σ.step s).must s [116,97,98,108,101]))):=by show _=_;simp only [Sp.stm,h_create,h_drop,Bool.false_eq_true,if_true,if_false]
  rw [take_yes h_drop] at hp3
  have HP3:=hid hp3
  have HK3:=hid (HK2.out.trans hk3)
  have HX3:Hid (Bk w3 w1.heap.size [.int .i64 kk, .int .i64 (st:Int), .string wd]):=HX2.out.kept hk3 (by omega)
  clear hp3 hk3 HP2 HK2 HX2
  go_wp2_with fail
  refine (expect_any HP3.out [116,97,98,108,101] (by decide)).mono ?_
  rintro r w20 ⟨rfl,hp20,hk20⟩
  have HP20:=hid hp20
  have HK20:=hid (HK3.out.trans hk20)
  clear hp20 hk20 HP3 HK3 HX3
  go_wp2_with fail
  refine (name_any HP20.out).mono ?_
  rintro r w21 ⟨v21,rfl,hp21,hk21,⟨wd21,a21,rfl⟩,hq21⟩
  have HP21:Hid (PS b c cap len s 0 (Sp.stmt s (m+1) σ) w21):=by show PS b c cap len s 0 _ w21;rw [HV.out];exact hp21
  have HK21:=hid (HK20.out.trans hk21)
  have HR21:Hid ((Sp.stmt s (m+1) σ).isLive=true→wd21=bz (Sp.St.nm s ((σ.step s).must s [116,97,98,108,101])).1∧a21=((Sp.St.nm s ((σ.step s).must s [116,97,98,108,101])).2:Nat)):=fun hl=>by rw [HV.out] at hl;exact agg2n (hq21 hl)
  have hz21:=(HK20.out.trans hk21).size
  clear hp21 hk21 hq21 HP20 HK20
  go_wp2_with fail
  go_ret
  refine ⟨_,rfl,HP21.out.alloc _,HK21.out.alloc _,Or.inr ⟨_,_,rfl⟩,fun hl=>?_⟩
  obtain ⟨e0,e1⟩:=HR21.out hl
  rw [HVT.out]
  refine ⟨_,rfl,by omega,by simp,?_⟩
  rw [← e0,← e1]
  exact (Bk.new w21 #[.string wd21, .int .i64 a21] _).at_
 rw [take_no h_drop] at hp3
 have HP3:=hid hp3
 have HK3:=hid (HK2.out.trans hk3)
 have HX3:Hid (Bk w3 w1.heap.size [.int .i64 kk, .int .i64 (st:Int), .string wd]):=HX2.out.kept hk3 (by omega)
 clear hp3 hk3 HP2 HK2 HX2
 go_wp2_with fail
 refine (accept1 HP3.out [105,110,115,101,114,116] (by decide)).mono ?_
 rintro r w4 ⟨rfl,hp4,hk4⟩
 cases h_insert:σ.is s [105,110,115,101,114,116]
 case true=>
  rw [take_yes h_insert] at hp4
  have HP4:=hid hp4
  have HK4:=hid (HK3.out.trans hk4)
  have HX4:Hid (Bk w4 w1.heap.size [.int .i64 kk, .int .i64 (st:Int), .string wd]):=HX3.out.kept hk4 (by omega)
  clear hp4 hk4 HP3 HK3 HX3
  go_wp2_with fail
  cases h_values:Sp.St.is s [118,97,108,117,101,115] (((σ.step s).must s [105,110,116,111]).nameT s)
  case true=>
   have HV:Hid (Sp.stmt s (m+1) σ=Sp.rowL s (m+1) (m+1) (Sp.St.step s (((σ.step s).must s [105,110,116,111]).nameT s))):=by show _=_;simp only [Sp.stmt,h_create,h_drop,h_insert,h_values,Bool.false_eq_true,if_true,if_false];skip
   have HVT:Hid (Sp.stm s (m+1) σ = .insertV ((σ.step s).at_ s) (((σ.step s).must s [105,110,116,111]).nm s) (Sp.rowTs s (m+1) (m+1) (Sp.St.step s (((σ.step s).must s [105,110,116,111]).nameT s)))):=by show _=_;simp only [Sp.stm,h_create,h_drop,h_insert,h_values,Bool.false_eq_true,if_true,if_false]
   refine (insertV_any HIA.out hn (by omega) HP4.out h_values).mono ?_
   rintro r w20 ⟨v20,rfl,hp20,hk20,⟨q20,rfl⟩,hq20⟩
   have HP20:Hid (PS b c cap len s 0 (Sp.stmt s (m+1) σ) w20):=by show PS b c cap len s 0 _ w20;rw [HV.out];exact hp20
   have HK20:=hid (HK4.out.trans hk20)
   have hzk:=HK4.out.size
   have HR20:Hid ((Sp.stmt s (m+1) σ).isLive=true→StV w20 (Sp.stm s (m+1) σ) w.heap.size w20.heap.size (.iface 169 (.pointer (some ⟨q20,0,none⟩)))):=fun hl=>by rw [HV.out] at hl;rw [HVT.out];exact ⟨_,rfl,InV.low (hq20 hl) hzk⟩
   clear hp20 hk20 hq20 HP4 HK4 HX4
   go_wp2_with fail
   go_ret
   exact ⟨_,rfl,HP20.out,HK20.out,Or.inr ⟨_,_,rfl⟩,HR20.out⟩
  have HV:Hid (Sp.stmt s (m+1) σ=Sp.run s (m+1) .query 0 (((σ.step s).must s [105,110,116,111]).nameT s)):=by show _=_;simp only [Sp.stmt,h_create,h_drop,h_insert,h_values,Bool.false_eq_true,if_true,if_false];skip
  have HVT:Hid (Sp.stm s (m+1) σ = .insertQ ((σ.step s).at_ s) (((σ.step s).must s [105,110,116,111]).nm s) (Sp.tr s (m+1) .query 0 .nil (((σ.step s).must s [105,110,116,111]).nameT s))):=by show _=_;simp only [Sp.stm,h_create,h_drop,h_insert,h_values,Bool.false_eq_true,if_true,if_false]
  refine (insertQ_any HIA.out hn (by omega) HP4.out h_values).mono ?_
  rintro r w20 ⟨v20,rfl,hp20,hk20,⟨q20,rfl⟩,hq20⟩
  have HP20:Hid (PS b c cap len s 0 (Sp.stmt s (m+1) σ) w20):=by show PS b c cap len s 0 _ w20;rw [HV.out];exact hp20
  have HK20:=hid (HK4.out.trans hk20)
  have hzk:=HK4.out.size
  have HR20:Hid ((Sp.stmt s (m+1) σ).isLive=true→StV w20 (Sp.stm s (m+1) σ) w.heap.size w20.heap.size (.iface 169 (.pointer (some ⟨q20,0,none⟩)))):=fun hl=>by rw [HV.out] at hl;rw [HVT.out];exact ⟨_,rfl,InQ.low (hq20 hl) hzk⟩
  clear hp20 hk20 hq20 HP4 HK4 HX4
  go_wp2_with fail
  go_ret
  exact ⟨_,rfl,HP20.out,HK20.out,Or.inr ⟨_,_,rfl⟩,HR20.out⟩
 rw [take_no h_insert] at hp4
 have HP4:=hid hp4
 have HK4:=hid (HK3.out.trans hk4)
 have HX4:Hid (Bk w4 w1.heap.size [.int .i64 kk, .int .i64 (st:Int), .string wd]):=HX3.out.kept hk4 (by omega)
 clear hp4 hk4 HP3 HK3 HX3
 go_wp2_with fail
 refine (accept1 HP4.out [100,101,108,101,116,101] (by decide)).mono ?_
 rintro r w5 ⟨rfl,hp5,hk5⟩
 cases h_delete:σ.is s [100,101,108,101,116,101]
 case true=>
  have r4:=Sp.rem_must s [102,114,111,109] (σ.step s)
  have r5:=Sp.rem_nameT s ((σ.step s).must s [102,114,111,109])
  have HV:Hid (Sp.stmt s (m+1) σ=clT s m 0 [119,104,101,114,101] (Sp.St.nameT s ((σ.step s).must s [102,114,111,109]))):=by show _=_;simp only [Sp.stmt,h_create,h_drop,h_insert,h_delete,Bool.false_eq_true,if_true,if_false];exact where_eq s m 0 _
  have HVT:Hid (Sp.stm s (m+1) σ = .delete (Sp.St.nm s ((σ.step s).must s [102,114,111,109])) (clN s m 0 [119,104,101,114,101] (Sp.St.nameT s ((σ.step s).must s [102,114,111,109])))):=by show _=_;simp only [Sp.stm,h_create,h_drop,h_insert,h_delete,Bool.false_eq_true,if_true,if_false];rw [whereN_eq s m 0 _]
  rw [take_yes h_delete] at hp5
  have HP5:=hid hp5
  have HK5:=hid (HK4.out.trans hk5)
  have HX5:Hid (Bk w5 w1.heap.size [.int .i64 kk, .int .i64 (st:Int), .string wd]):=HX4.out.kept hk5 (by omega)
  clear hp5 hk5 HP4 HK4 HX4
  go_wp2_with fail
  refine (expect_any HP5.out [102,114,111,109] (by decide)).mono ?_
  rintro r w20 ⟨rfl,hp20,hk20⟩
  have HP20:=hid hp20
  have HK20:=hid (HK5.out.trans hk20)
  clear hp20 hk20 HP5 HK5 HX5
  go_wp2_with fail
  refine (name_any HP20.out).mono ?_
  rintro r w21 ⟨v21,rfl,hp21,hk21,⟨wd21,a21,rfl⟩,hq21⟩
  have HP21:=hid hp21
  have HK21:=hid (HK20.out.trans hk21)
  have HR21:Hid ((Sp.St.nameT s ((σ.step s).must s [102,114,111,109])).isLive=true→wd21=bz (Sp.St.nm s ((σ.step s).must s [102,114,111,109])).1∧a21=((Sp.St.nm s ((σ.step s).must s [102,114,111,109])).2:Nat)):=fun hl=>agg2n (hq21 hl)
  have hz21:=(HK20.out.trans hk21).size
  clear hp21 hk21 hq21 HP20 HK20
  go_wp2_with fail
  refine (clauseIfAny_any (n:=m) HP21.out [119,104,101,114,101] (by decide) (fun hw w' hp'=>HIB.out.expr 0 _ _ (by omega) (by have:=Sp.rem_step_lt hw;show 32*Sp.rem s _+9≤m;omega) hp')).mono ?_
  rintro r w22 ⟨v22,rfl,hp22,hk22,⟨pa,rfl⟩,hq22⟩
  have HP22:Hid (PS b c cap len s 0 (Sp.stmt s (m+1) σ) w22):=by show PS b c cap len s 0 _ w22;rw [HV.out];exact hp22
  have HK22:=hid (HK21.out.trans hk22)
  have HR22:=hid hq22
  have hz22:=hk22.size
  clear hp22 hk22 hq22 HP21 HK21
  go_wp2_with fail
  go_ret
  refine ⟨_,rfl,HP22.out.alloc _,HK22.out.alloc _,Or.inr ⟨_,_,rfl⟩,fun hl=>?_⟩
  rw [HV.out] at hl
  obtain ⟨e0,e1⟩:=HR21.out (live_clT hl)
  rw [HVT.out]
  refine ⟨_, .pointer pa,rfl,by omega,by simp,?_,⟨_,rfl⟩,?_⟩
  ·rw [← e0,← e1]
   exact (Bk.new w22 #[.string wd21, .int .i64 a21, .pointer pa] _).at_
  ·exact Rp.wide _ _ _ _ _ _ ((HR22.out hl).frame (by simp) _ _ _ _ (fun k h1 h2=>Below.heap_alloc _ _ _ h2) (fun blk off n c ee=>by cases ee)) hz21 (Nat.le_refl _)
 rw [take_no h_delete] at hp5
 have HP5:=hid hp5
 have HK5:=hid (HK4.out.trans hk5)
 have HX5:Hid (Bk w5 w1.heap.size [.int .i64 kk, .int .i64 (st:Int), .string wd]):=HX4.out.kept hk5 (by omega)
 clear hp5 hk5 HP4 HK4 HX4
 go_wp2_with fail
 refine (accept1 HP5.out [117,112,100,97,116,101] (by decide)).mono ?_
 rintro r w6 ⟨rfl,hp6,hk6⟩
 cases h_update:σ.is s [117,112,100,97,116,101]
 case true=>
  have HV:Hid (Sp.stmt s (m+1) σ=Sp.run s (m+1) .where_ 0 (Sp.chgL s (m+1) (m+1) (((σ.step s).nameT s).must s [115,101,116]))):=by show _=_;simp only [Sp.stmt,h_create,h_drop,h_insert,h_delete,h_update,Bool.false_eq_true,if_true,if_false];skip
  have HVT:Hid (Sp.stm s (m+1) σ = .update ((σ.step s).nm s) (Sp.chgTs s (m+1) (m+1) (((σ.step s).nameT s).must s [115,101,116])) (Sp.tr s (m+1) .where_ 0 .nil (Sp.chgL s (m+1) (m+1) (((σ.step s).nameT s).must s [115,101,116])))):=by show _=_;simp only [Sp.stm,h_create,h_drop,h_insert,h_delete,h_update,Bool.false_eq_true,if_true,if_false]
  rw [take_yes h_update] at hp6
  have HP6:=hid hp6
  have HK6:=hid (HK5.out.trans hk6)
  have HX6:Hid (Bk w6 w1.heap.size [.int .i64 kk, .int .i64 (st:Int), .string wd]):=HX5.out.kept hk6 (by omega)
  clear hp6 hk6 HP5 HK5 HX5
  go_wp2_with fail
  refine (update_any HIA.out HIB.out hn (by omega) HP6.out).mono ?_
  rintro r w20 ⟨v20,rfl,hp20,hk20,⟨q20,rfl⟩,hq20⟩
  have HP20:Hid (PS b c cap len s 0 (Sp.stmt s (m+1) σ) w20):=by show PS b c cap len s 0 _ w20;rw [HV.out];exact hp20
  have HK20:=hid (HK6.out.trans hk20)
  have hzk:=HK6.out.size
  have HR20:Hid ((Sp.stmt s (m+1) σ).isLive=true→StV w20 (Sp.stm s (m+1) σ) w.heap.size w20.heap.size (.iface 176 (.pointer (some ⟨q20,0,none⟩)))):=fun hl=>by rw [HV.out] at hl;rw [HVT.out];exact ⟨_,rfl,UpV.low (hq20 hl) hzk⟩
  clear hp20 hk20 hq20 HP6 HK6 HX6
  go_wp2_with fail
  go_ret
  exact ⟨_,rfl,HP20.out,HK20.out,Or.inr ⟨_,_,rfl⟩,HR20.out⟩
 rw [take_no h_update] at hp6
 have HP6:=hid hp6
 have HK6:=hid (HK5.out.trans hk6)
 have HX6:Hid (Bk w6 w1.heap.size [.int .i64 kk, .int .i64 (st:Int), .string wd]):=HX5.out.kept hk6 (by omega)
 clear hp6 hk6 HP5 HK5 HX5
 go_wp2_with fail
 refine (accept_lit HP6.out [[98,101,103,105,110], [99,111,109,109,105,116], [114,111,108,108,98,97,99,107]] (by decide) (by decide) 3 rfl #[.string ⟨#[98,101,103,105,110]⟩, .string ⟨#[99,111,109,109,105,116]⟩, .string ⟨#[114,111,108,108,98,97,99,107]⟩] rfl).mono ?_
 rintro r w7 ⟨rfl,hp7,hk7⟩
 cases h_trans:seesOne s [[98,101,103,105,110], [99,111,109,109,105,116], [114,111,108,108,98,97,99,107]] σ
 case true=>
  have h_three:(σ.is s [98,101,103,105,110]||σ.is s [99,111,109,109,105,116]||σ.is s [114,111,108,108,98,97,99,107])=true:=(three s _ _ _ σ).symm.trans h_trans
  have HV:Hid (Sp.stmt s (m+1) σ=σ.step s):=by show _=_;simp only [Sp.stmt,h_create,h_drop,h_insert,h_delete,h_update,h_three,Bool.false_eq_true,if_true,if_false]
  have HVT:Hid (Sp.stm s (m+1) σ = .trans (σ.word s)):=by show _=_;simp only [Sp.stm,h_create,h_drop,h_insert,h_delete,h_update,h_three,Bool.false_eq_true,if_true,if_false]
  have HNB:Hid (∀ e,σ = .live e→Sp.tokCl s e ≠ .bad):=not_bad_sees h_trans
  clear h_three
  rw [h_trans] at hp7
  have HP7:Hid (PS b c cap len s 0 (σ.step s) w7):=hp7
  have HK7:=hid (HK6.out.trans hk7)
  have HX7:Hid (Bk w7 w1.heap.size [.int .i64 kk, .int .i64 (st:Int), .string wd]):=HX6.out.kept hk7 (by omega)
  have y2:=HX7.out.k2
  have y1:=HX7.out.k1
  have y0:=HX7.out.k0
  clear hp7 hk7 HP6 HK6 HX6
  go_wp2_with fail
  have HPE:Hid (PS b c cap len s 0 (Sp.stmt s (m+1) σ) w7):=by show PS b c cap len s 0 _ w7;rw [HV.out];exact HP7.out
  have hz20:=HK7.out.size
  go_ret
  refine ⟨_,rfl,HPE.out.alloc _,HK7.out.alloc _,Or.inr ⟨_,_,rfl⟩,fun hl=>?_⟩
  rw [HV.out] at hl
  have e0:=HTK.out (Sp.live_step hl) HNB.out
  rw [HVT.out]
  refine ⟨_,rfl,by omega,by simp,?_⟩
  rw [← e0]
  exact (Bk.new w7 #[.string wd] _).at_
 have h_three:(σ.is s [98,101,103,105,110]||σ.is s [99,111,109,109,105,116]||σ.is s [114,111,108,108,98,97,99,107])=false:=(three s _ _ _ σ).symm.trans h_trans
 have HV:Hid (Sp.stmt s (m+1) σ=Sp.run s (m+1) .query 0 σ):=by show _=_;simp only [Sp.stmt,h_create,h_drop,h_insert,h_delete,h_update,h_three,Bool.false_eq_true,if_false]
 have HVT:Hid (Sp.stm s (m+1) σ = .query (Sp.tr s (m+1) .query 0 .nil σ)):=by show _=_;simp only [Sp.stm,h_create,h_drop,h_insert,h_delete,h_update,h_three,Bool.false_eq_true,if_false]
 clear h_three
 rw [h_trans] at hp7
 have HP7:Hid (PS b c cap len s 0 σ w7):=hp7
 have HK7:=hid (HK6.out.trans hk7)
 have HX7:Hid (Bk w7 w1.heap.size [.int .i64 kk, .int .i64 (st:Int), .string wd]):=HX6.out.kept hk7 (by omega)
 clear hp7 hk7 HP6 HK6 HX6
 go_wp2_with fail
 refine (HIA.out.query 0 _ _ (by omega) (Nat.le_trans (Nat.add_le_add_left (by decide:Sp.lev .query≤31) _) (by omega)) HP7.out).mono ?_
 rintro r w20 ⟨y20,rfl,hp20,hk20,hy20,hq20⟩
 have HP20:Hid (PS b c cap len s 0 (Sp.stmt s (m+1) σ) w20):=by show PS b c cap len s 0 _ w20;rw [HV.out];exact hp20
 have HK20:=hid (HK7.out.trans hk20)
 have HI20:=hid hy20
 have hzk:=HK7.out.size
 have HR20:Hid ((Sp.stmt s (m+1) σ).isLive=true→StV w20 (Sp.stm s (m+1) σ) w.heap.size w20.heap.size y20):=fun hl=>by rw [HV.out] at hl;rw [HVT.out];exact Rp.wide _ _ _ _ _ _ (hq20 hl) hzk (Nat.le_refl _)
 clear hp20 hk20 hq20 hy20 HP7 HK7 HX7
 go_wp2_with fail
 go_ret
 exact ⟨_,rfl,HP20.out,HK20.out,HI20.out,HR20.out⟩
open Go.RowKit Go.Sort
section
variable {α:Type} {P:World→α→List Value→Nat→Nat→Prop}
theorem LsR.len {w:World} {g:Nat} : ∀ {ns:List α} {xs:List (List Value)} {lo hi:Nat},LsR P w g ns xs lo hi→xs.length=ns.length
 | [], [],_,_,_=>rfl
 | _::_,_::_,_,_,h=>by obtain ⟨_,_,_,_,ht⟩:=h;simp [LsR.len ht]
 | [],_::_,_,_,h=>h.elim
 | _::_, [],_,_,h=>h.elim
theorem LsR.lens {w:World} {g L:Nat} (hL:∀ n x m1 m2,P w n x m1 m2→x.length=L):∀ {ns:List α} {xs:List (List Value)} {lo hi:Nat},LsR P w g ns xs lo hi→∀ x∈xs,x.length=L
 | [], [],_,_,_,x,hx=>by simp at hx
 | _::_,_::_,_,_,h,x,hx=>by
  obtain ⟨m1,m2,_,hp,ht⟩:=h
  rw [List.mem_cons] at hx
  rcases hx with rfl | hx
  ·exact hL _ _ _ _ hp
  ·exact LsR.lens hL ht x hx
 | [],_::_,_,_,h,_,_=>h.elim
 | _::_, [],_,_,h,_,_=>h.elim
theorem LsR.upd {w:World} {g:Nat} (hF:∀ w' n x m1 m2,w.heap.size≤w'.heap.size→P w n x m1 m2→(∀ k,m1≤k→k<m2→w'.heap[k]?=w.heap[k]?)→P w' n x m1 m2):∀ (a b:List α) (n:α) (xs:List (List Value)) (lo hi:Nat),LsR P w g (a++n::b) xs lo hi→∃ m1 m2 x,xs[a.length]?=some x∧lo≤m1∧m1≤m2∧m2≤hi∧¬ (m1≤g∧g<m2)∧P w n x m1 m2∧
  ∀ w' n',w.heap.size≤w'.heap.size→(∀ q,lo≤q→q<hi→q≠g→¬ (m1≤q∧q<m2)→w'.heap[q]?=w.heap[q]?)→P w' n' x m1 m2→LsR P w' g (a++n'::b) xs lo hi
 | [],b,n, [],lo,hi,h=>h.elim
 | [],b,n,x::xs,lo,hi,h=>by
  obtain ⟨m1,m2,hS,hp,ht⟩:=h
  have hS':=hS
  have hle:=ht.le
  unfold Sub at hS'
  refine ⟨m1,m2,x,rfl,by omega,by omega,by omega,by omega,hp,fun w' n' hs hk hp'=>⟨m1,m2,hS,hp',ht.frame (fun n x m1 m2 h1 h2=>hF w' n x m1 m2 hs h1 h2) fun q h1 h2 h3=>hk q (by omega) h2 h3 (by omega)⟩⟩
 | y::a,b,n, [],lo,hi,h=>h.elim
 | y::a,b,n,x::xs,lo,hi,h=>by
  obtain ⟨m1,m2,hS,hp,ht⟩:=h
  obtain ⟨p1,p2,u,e,l1,l2,l3,l4,l5,l6⟩:=LsR.upd hF a b n xs m2 hi ht
  have hS':=hS
  unfold Sub at hS'
  refine ⟨p1,p2,u,by simpa using e,by omega,l2,l3,l4,l5,fun w' n' hs hk hp'=>⟨m1,m2,hS,hF w' _ _ _ _ hs hp (fun q h1 h2=>hk q (by omega) (by omega) (by omega) (by omega)),l6 w' n' hs (fun q h1 h2 h3 h4=>hk q (by omega) h2 h3 h4) hp'⟩⟩
end
theorem flat_pos {β:Type} (L:Nat):∀ (xs:List (List β)) (_:∀ x∈xs,x.length=L) (j d:Nat) (x:List β),xs[j]?=some x→d<L→xs.flatten[j*L+d]?=x[d]?
 | [],_,j,d,x,h,_=>by simp at h
 | y::xs,hl,0,d,x,h,hd=>by
  simp at h;subst h
  have:=hl y (by simp)
  simp only [List.flatten_cons,Nat.zero_mul,Nat.zero_add]
  rw [List.getElem?_append_left (by omega)]
 | y::xs,hl,j+1,d,x,h,hd=>by
  have ih:=flat_pos L xs (fun z hz=>hl z (by simp [hz])) j d x (by simpa using h) hd
  have hy:=hl y (by simp)
  simp only [List.flatten_cons]
  rw [List.getElem?_append_right (by rw [hy,Nat.succ_mul];omega),← ih]
  congr 1
  rw [hy,Nat.succ_mul];omega
theorem rowsC_snoc (T:List Sp.Tb) (t:Sp.Tb):∀ (l:List (Nat×Sp.Nd)) (x:Nat×Sp.Nd) (c:Sp.CS),Sp.rowsC T t (l ++ [x]) c=(Sp.fill t x.1 (Sp.ck T x.2 [] 0 (Sp.rowsC T t l c).1).1.dropLast (Sp.ck T x.2 [] 0 (Sp.rowsC T t l c).1).2.1,(Sp.rowsC T t l c).2 ++ [(x.1,(Sp.ck T x.2 [] 0 (Sp.rowsC T t l c).1).2.2)])
 | [],x,c=>rfl
 | (a,e)::l,x,c=>by
  have ih:=rowsC_snoc T t l x (Sp.fill t a (Sp.ck T e [] 0 c).1.dropLast (Sp.ck T e [] 0 c).2.1)
  simp only [List.cons_append,Sp.rowsC]
  rw [ih]
theorem rowsC_len (T:List Sp.Tb) (t:Sp.Tb):∀ (l:List (Nat×Sp.Nd)) (c:Sp.CS),(Sp.rowsC T t l c).2.length=l.length
 | [],_=>rfl
 | (a,e)::l,c=>by simp only [Sp.rowsC,List.length_cons,rowsC_len T t l]
theorem RowP.lenR {w:World} {n:Nat×Sp.Nd} {x:List Value} {m1 m2:Nat} (h:RowP w n x m1 m2):x.length=2:=by obtain ⟨v,e,_⟩:=h;rw [e];rfl
theorem nq_nil (w:World):Sem.run Tryz.prog (binOp BinOp.neq 179 .nilIface .nilIface) w = .ok (.bool false) w:=by kernel_rfl
theorem nq_sel (p:Value) (w:World):Sem.run Tryz.prog (binOp BinOp.neq 179 (.iface 278 p) .nilIface) w = .ok (.bool true) w:=by kernel_rfl
theorem nq_comb (p:Value) (w:World):Sem.run Tryz.prog (binOp BinOp.neq 179 (.iface 280 p) .nilIface) w = .ok (.bool true) w:=by kernel_rfl
theorem cinsertV_any {T:List Sp.Tb} {N k cb lo hi q a:Nat} {tv sl:Value} {c:Sp.CS} {w:World} {nm:Sp.Nm} {rows:List (Nat×Sp.Nd)} (hX:∀ x∈rows,ExsC T x.2∧x.2.dep≤100000∧Sp.wf N x.2 .list∧x.2.len≤90000) (hrl:rows.length≤90000)
  (hc:CB cb tv c w) (ht:Tbs k w T tv) (hkl:k≤lo) (hhc:hi≤cb) (hlq:lo≤q∧q<hi) (hA:At w q [.int .i64 (a:Nat), .string (bz nm.1), .int .i64 (nm.2:Nat),sl, .nilIface]) (hL:LsV RowP w rows (q+1) hi sl) :
  Calls Tryz.prog 137 #[.pointer (some ⟨cb,0,none⟩), .pointer (some ⟨q,0,none⟩)] w fun r w'=>r = .returned (.tuple #[])∧CB cb tv (Sp.rowsC T (Sp.tableC T nm c).1 rows (Sp.tableC T nm c).2).1 w'∧LsV RowP w' (Sp.rowsC T (Sp.tableC T nm c).1 rows (Sp.tableC T nm c).2).2 (q+1) hi sl∧Fc cb (q+1) hi w w':=by
 have hcw:=hc.lt
 obtain ⟨g,kc,xs,h0,rfl,hg1,hg2,hh0,hLs,hcells⟩:=hL
 have b1:=hA.k1
 have b2:=hA.k2
 have b3:=hA.k3
 have b4:=hA.k4
 have hqw:=hA.1
 have hle:=hLs.le
 have hlens:=LsR.lens (L:=2) (fun n x m1 m2 h=>RowP.lenR h) hLs
 obtain ⟨n,hn⟩:∃ n,n=rows.length:=⟨_,rfl⟩
 rw [← hn] at b3 hrl
 have HN:=hid hn
 have HC:=hid hc
 have HT:=hid ht
 have HX:=hid hX
 have HLs:=hid hLs
 have HCe:=hid hcells
 have HLe:=hid hlens
 have HA:=hid hA
 obtain ⟨nw,na⟩:=nm
 simp only [] at b1 b2
 have hkw':=hid ht.2.1
 have HTC:=hid (ctable_any hc ht (nw,na))
 have u1:=nq_nil
 generalize Sp.tableC T (nw,na) c=TC at *
 obtain ⟨t,c0⟩:=TC
 simp only [] at HTC ⊢
 clear hc ht hX hLs hcells hlens hA hn
 go_enter Tryz.func137,Tryz.ntmps137
 go_wp2_with fail
 refine HTC.out.mono ?_
 rintro e w1 ⟨tt,rfl,ht1,h1,k1⟩
 have K1:=hid k1
 have HT1:=hid ht1
 have H1:=hid h1
 obtain ⟨tn,tca,tcl,tcc,tra,trl,trc⟩:=tt
 have hz1:=k1.size
 have c3:=(k1.cell (p:=⟨q,3,none⟩) hqw (by show q≠cb;omega)).trans b3
 have c4:=(k1.cell (p:=⟨q,4,none⟩) hqw (by show q≠cb;omega)).trans b4
 have hqw1:q<w1.heap.size:=by omega
 clear ht1 h1 k1 HTC b1 b2
 rw [show enT ⟨tn,tca,tcl,tcc,tra,trl,trc⟩ = .agg #[.string tn, .slice tca tcl tcc, .slice tra trl trc] from rfl]
 go_wp2_with fail
 go_loopw [18] (fun i wr=>∃ j:Nat,j≤n∧i = .int .i64 (j:Nat)∧Hid (CB cb tv (Sp.rowsC T t (rows.take j) c0).1 wr)∧Hid (LsR RowP wr g ((Sp.rowsC T t (rows.take j) c0).2++rows.drop j) xs (q+1) h0)∧Hid (Fc cb (q+1) hi w wr)∧Hid (Sb g w wr)∧Hid (B3 wr w1.heap.size (.string tn) (.slice tca tcl tcc) (.slice tra trl trc))∧Hid (Tb1 k wr t ⟨tn,tca,tcl,tcc,tra,trl,trc⟩)) (fun i _=>n - (intOf i).toNat)
 case atStart=>
  refine ⟨0,Nat.zero_le _,rfl,H1.out.alloc _,?_,(Fc.of (K1.out.alloc _)),?_,B3.new w1 _ _ _ _,HT1.out.low (Nat.le_trans hkw'.out hz1) (Low.of_gr ((Gr.refl w1).alloc _))⟩
  ·exact HLs.out.frame (fun n x m1 m2 h hk=>RowP.frame (Nat.le_trans hz1 (by simp)) n x m1 m2 h hk) fun u u1 u2 _=>(Below.heap_alloc _ _ _ (by omega)).trans (K1.out.block u (by omega) (by omega))
  ·exact (Below.heap_alloc _ _ _ (by omega)).trans (K1.out.block g (by omega) (by omega))
 case round=>
  obtain ⟨j,hj,rfl,HCr,HLr,HF,HBg,HB4,HTr⟩:=hrel
  have hwr:=HF.out.size
  have hq4:=HB4.out.lt
  by_cases hlt:j<n
  ·have hjz:j<rows.length:=by have:=HN.out;omega
   have HS:=hid (rowsC_snoc T t (rows.take j) rows[j] c0)
   rw [← List.take_succ_eq_append_getElem hjz] at HS
   have hl2:=rowsC_len T t (rows.take j) c0
   rw [List.length_take,Nat.min_eq_left (by omega)] at hl2
   have hx:=HLr.out
   rw [List.drop_eq_getElem_cons hjz] at hx
   obtain ⟨m1,m2,x,ex,l1,l2,l3,l4,⟨xv,rfl,hrq⟩,l6⟩:=LsR.upd (fun w' n x m1 m2 hs h hk=>RowP.frame hs n x m1 m2 h hk) _ _ _ _ _ _ hx
   rw [hl2] at ex
   have f0:=flat_pos 2 xs HLe.out j 0 _ ex (by omega)
   have f1:=flat_pos 2 xs HLe.out j 1 _ ex (by omega)
   have e0:=(World.cell?_of_block (w:=w) (a:=⟨g,_,none⟩) HBg.out).trans (HCe.out _ _ f0)
   have e1:=(World.cell?_of_block (w:=w) (a:=⟨g,_,none⟩) HBg.out).trans (HCe.out _ _ f1)
   rw [Nat.add_zero] at e0
   have hXj:=HX.out _ (List.getElem_mem hjz)
   obtain ⟨xa,xn,xc,rfl⟩:=hrq.1.isSl hXj.2.2.1
   have HXj:=hid hXj
   have HRq:=hid hrq
   have HL6:=hid l6
   have HLen:=hid (fun c=>(ck_list_len T N rows[j].2 hXj.2.2.1 [] c).trans rfl)
   have hln:=hXj.2.2.2
   clear f0 f1 hx ex hl2 hXj hrq l6 HLr
   generalize Sp.rowsC T t (rows.take j) c0=R at *
   obtain ⟨R1,R2⟩:=R
   generalize rows[j]=rj at *
   obtain ⟨ra,re⟩:=rj
   simp only [] at e0 e1 HXj HRq HLen hln HS HCr HL6
   have hlen:=HLen.out R1
   have GX:=hid ((((Gr.refl wr).alloc (.cells #[.int .i64 (ra:Nat), .slice xa xn xc] 239)).drew))
   have hz6:=GX.out.size
   have HEn:Hid (En T k cb (cb+1) tv R1 [] (.pointer none) m1 m2 ((wr.alloc (.cells #[.int .i64 (ra:Nat), .slice xa xn xc] 239)).drew)):=
    ⟨HCr.out.gr GX.out,(HT.out.low (Low.of_fc HF.out (by omega) (by omega))).low (Low.of_gr GX.out),rfl,by omega,by omega,by omega,by omega⟩
   have HCx:=hid (HXj.out.1 k cb (cb+1) m1 m2 tv (.slice xa xn xc) (.pointer none) R1 [] _ HEn.out (by simpa using HXj.out.2.1) (HRq.out.1.gr GX.out (by omega) fun blk off n c e=>by have:=HRq.out.2 blk off n c e;omega) (fun blk off n c e=>by have:=HRq.out.2 blk off n c e;omega))
   generalize hCK:Sp.ck T re [] 0 R1=CK at *
   clear hCK
   obtain ⟨K1',K2',K3'⟩:=CK
   simp only [] at HCx HS hlen
   generalize K1'.dropLast=tys at *
   have hlb:tys.length≤90000:=by rw [hlen];exact hln
   clear hlen HLen
   obtain ⟨bl,z0,z1,z2,z3,z4,z5⟩:=HB4.out
   have q0:(wr.alloc (.cells #[.int .i64 (ra:Nat), .slice xa xn xc] 239)).cell? ⟨wr.heap.size,0,none⟩=some (.int .i64 (ra:Nat)):=by simp
   have q1:(wr.alloc (.cells #[.int .i64 (ra:Nat), .slice xa xn xc] 239)).cell? ⟨wr.heap.size,1,none⟩=some (.slice xa xn xc):=by simp
   have hq6:wr.heap.size<(wr.alloc (.cells #[.int .i64 (ra:Nat), .slice xa xn xc] 239)).heap.size:=by simp
   have y0:=(((Gr.refl wr).alloc (.cells #[.int .i64 (ra:Nat), .slice xa xn xc] 239)).cell (p:=⟨w1.heap.size,0,none⟩) hq4).trans z0
   have y1:=(((Gr.refl wr).alloc (.cells #[.int .i64 (ra:Nat), .slice xa xn xc] 239)).cell (p:=⟨w1.heap.size,1,none⟩) hq4).trans z1
   have y2:=(((Gr.refl wr).alloc (.cells #[.int .i64 (ra:Nat), .slice xa xn xc] 239)).cell (p:=⟨w1.heap.size,2,none⟩) hq4).trans z2
   go_wp2_with fail
   have hkr:k≤wr.heap.size:=Nat.le_trans hkw'.out hwr
   have hq4' : w1.heap.size<(wr.alloc (.cells #[.int .i64 (ra:Nat), .slice xa xn xc] 239)).heap.size:=by simp;omega
   have hqq:wr.heap.size≠cb∧w1.heap.size≠cb∧¬ (m1≤wr.heap.size∧wr.heap.size<m2)∧¬ (m1≤w1.heap.size∧w1.heap.size<m2):=by omega
   go_region_held3 (fun w'=>w'.cell? ⟨w1.heap.size,0,none⟩=some (.string tn)∧w'.cell? ⟨w1.heap.size,1,none⟩=some (.slice tca tcl tcc)∧w'.cell? ⟨w1.heap.size,2,none⟩=some (.slice tra trl trc)∧w'.cell? ⟨wr.heap.size,0,none⟩=some (.int .i64 (ra:Nat))∧w'.cell? ⟨wr.heap.size,1,none⟩=some (.slice xa xn xc)) (first | go_keep | exact ⟨y0,y1,y2,q0,q1⟩ | exact ⟨d0,d1,d2,d3,d4⟩ | exact ⟨s0,s1,s2,s3,s4⟩) (first | (go_at_call 180;refine HCx.out.mono ?_;rintro e2 w2 ⟨v2,rfl,o2,h2,r2,g2⟩;have d0:=(g2.cell (p:=⟨w1.heap.size,0,none⟩) hq4' hqq.2.1 hqq.2.2.2).trans y0;have d1:=(g2.cell (p:=⟨w1.heap.size,1,none⟩) hq4' hqq.2.1 hqq.2.2.2).trans y1;have d2:=(g2.cell (p:=⟨w1.heap.size,2,none⟩) hq4' hqq.2.1 hqq.2.2.2).trans y2;have d3:=(g2.cell (p:=⟨wr.heap.size,0,none⟩) hq6 hqq.1 hqq.2.2.1).trans q0;have d4:=(g2.cell (p:=⟨wr.heap.size,1,none⟩) hq6 hqq.1 hqq.2.2.1).trans q1;have hz2:(wr.alloc (.cells #[.int .i64 (ra:Nat), .slice xa xn xc] 239)).heap.size≤w2.heap.size:=g2.size;have hTb:=(HTr.out.low hkr (Low.of_gr GX.out)).low (Nat.le_trans hkr hz6) (Low.of_fc g2 (by omega) (by omega));obtain ⟨oa,oc,rfl⟩:=o2.sl) | (go_at_call 179;refine (fill_any (a:=ra) h2 (Nat.le_trans hkr (Nat.le_trans hz6 g2.size)) (by omega) hTb o2.si (fun b' o' n' c' e=>by have:=o2.fresh b' o' n' c' e;omega) (by omega)).mono ?_;rintro e3 w3 ⟨rfl,h3,k3⟩;have s0:=(k3.cell (p:=⟨w1.heap.size,0,none⟩) (Nat.lt_of_lt_of_le hq4' hz2) hqq.2.1).trans d0;have s1:=(k3.cell (p:=⟨w1.heap.size,1,none⟩) (Nat.lt_of_lt_of_le hq4' hz2) hqq.2.1).trans d1;have s2:=(k3.cell (p:=⟨w1.heap.size,2,none⟩) (Nat.lt_of_lt_of_le hq4' hz2) hqq.2.1).trans d2;have s3:=(k3.cell (p:=⟨wr.heap.size,0,none⟩) (Nat.lt_of_lt_of_le hq6 hz2) hqq.1).trans d3;have s4:=(k3.cell (p:=⟨wr.heap.size,1,none⟩) (Nat.lt_of_lt_of_le hq6 hz2) hqq.1).trans d4))
   have k3':=hid k3
   have F2:Hid (Fc cb m1 m2 wr w2):=(Fc.gr GX.out).trans g2
   have F3:Hid (Fc cb m1 m2 wr w3):=F2.out.trans (Fc.of k3)
   have hz3:=F3.out.size
   have HR3:Hid (RowP w3 (ra,K3') [.int .i64 (ra:Int), .slice xa xn xc] m1 m2):=⟨_,rfl,r2.frame k3.size _ _ _ _ (fun u _ u2=>k3.block u (by have:=F2.out.size;omega) (by omega)) (fun blk off n c e=>k3.block blk (by have:=HRq.out.2 blk off n c e;have:=F2.out.size;omega) (by have:=HRq.out.2 blk off n c e;omega)),HRq.out.2⟩
   have H3:=hid h3
   have HB3:Hid (B3 w3 w1.heap.size (.string tn) (.slice tca tcl tcc) (.slice tra trl trc)):=HB4.out.same hz3 (F3.out.block w1.heap.size hq4 (by omega) (by omega))
   have HT3:Hid (Tb1 k w3 t ⟨tn,tca,tcl,tcc,tra,trl,trc⟩):=HTr.out.low hkr (Low.of_fc F3.out (by omega) (by omega))
   have HL3:Hid (LsR RowP w3 g ((Sp.rowsC T t (rows.take (j+1)) c0).2++rows.drop (j+1)) xs (q+1) h0):=by
    show LsR _ _ _ _ _ _ _
    rw [HS.out]
    have E:=HL6.out w3 (ra,K3') hz3 (fun u u1 u2 u3 u4=>F3.out.block u (by omega) (by omega) u4) HR3.out
    simpa using E
   have HC3:Hid (CB cb tv (Sp.rowsC T t (rows.take (j+1)) c0).1 w3):=by show CB _ _ _ _;rw [HS.out];exact H3.out
   have HF3:Hid (Fc cb (q+1) hi w w3):=HF.out.trans (F3.out.wide l1 (by omega))
   have HG3:Hid (Sb g w w3):=(F3.out.block g (by omega) (by omega) l4).trans HBg.out
   clear h3 k3 h2 o2 r2 g2 hTb d0 d1 d2 d3 d4 s0 s1 s2 s3 s4 y0 y1 y2 q0 q1 z0 z1 z2 z3 z4 z5 e0 e1
   go_wp2_with fail
   go_roundw
   case rel=>exact ⟨j+1,by omega,by go_num,HC3,HL3,HF3,HG3,HB3,HT3⟩
   case measure=>simp [intOf];omega
  ·have hje:rows.take j=rows:=List.take_of_length_le (by have:=HN.out;omega)
   have hdr:rows.drop j = []:=List.drop_of_length_le (by have:=HN.out;omega)
   rw [hje] at HCr HLr
   rw [hdr,List.append_nil] at HLr
   have r4:=(HF.out.cell (p:=⟨q,4,none⟩) hqw (by show q≠cb;omega) (by show ¬ (q+1≤q∧q<hi);omega)).trans b4
   have hlen2:=rowsC_len T t rows c0
   clear hje hdr
   go_wp2_with fail
   go_end0
   refine ⟨rfl,HCr.out,⟨g,kc,xs,h0,?_,hg1,hg2,⟨hh0.1,by rw [hlen2];exact hh0.2⟩,HLr.out,fun u v hu=>(World.cell?_of_block (w:=w) (a:=⟨g,_,none⟩) HBg.out).trans (HCe.out u v hu)⟩,HF.out⟩
   rw [hlen2]
end Go.Proofs.YtgnncnhkgmhngaaGreatDoor
