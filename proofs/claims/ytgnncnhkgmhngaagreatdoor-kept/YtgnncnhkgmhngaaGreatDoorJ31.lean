import Derived.Test.YtgnncnhkgmhngaaGreatDoorJ30
set_option maxHeartbeats 20000000
namespace Go.Proofs.YtgnncnhkgmhngaaGreatDoor
open Go.RowKit
def StV (w:World):Sp.Stm->Nat->Nat->Value->Prop
 | .create t cols,lo,hi,v=>∃ p,v = .iface 160 p/\CrV w t cols lo hi p
 | .drop t,lo,hi,v=>∃ q,v = .iface 163 (.pointer (some ⟨q,0,none⟩))/\lo<=q/\q<hi/\At w q [.string (bz t.1), .int .i64 (t.2:Nat)]
 | .insertV a t rows,lo,hi,v=>∃ p,v = .iface 169 p/\InV w a t rows lo hi p
 | .insertQ a t nd,lo,hi,v=>∃ p,v = .iface 169 p/\InQ w a t nd lo hi p
 | .delete t wh,lo,hi,v=>∃ q pv,v = .iface 171 (.pointer (some ⟨q,0,none⟩))/\lo<=q/\q<hi/\At w q [.string (bz t.1), .int .i64 (t.2:Nat),pv]/\IsPt pv/\Rp w wh lo q pv
 | .update t sets wh,lo,hi,v=>∃ p,v = .iface 176 p/\UpV w t sets wh lo hi p
 | .trans z,lo,hi,v=>∃ q,v = .iface 122 (.pointer (some ⟨q,0,none⟩))/\lo<=q/\q<hi/\At w q [.string (bz z)]
 | .query nd,lo,hi,v=>Rp w nd lo hi v
theorem CrV.low {w:World} {nm:Sp.Nm} {ns:List (Sp.Nm×Int)} {lo hi lo' : Nat} {v:Value} (h:CrV w nm ns lo hi v) (h1:lo'<=lo):CrV w nm ns lo' hi v:=by
 obtain ⟨q,sl,e,a,b,c,d⟩:=h
 exact ⟨q,sl,e,by omega,b,c,d.wide h1 (Nat.le_refl _)⟩
theorem InV.low {w:World} {a:Nat} {nm:Sp.Nm} {ns:List (Nat×Sp.Nd)} {lo hi lo' : Nat} {v:Value} (h:InV w a nm ns lo hi v) (h1:lo'<=lo):InV w a nm ns lo' hi v:=by
 obtain ⟨q,sl,e,a,b,c,d⟩:=h
 exact ⟨q,sl,e,by omega,b,c,d⟩
theorem InQ.low {w:World} {a:Nat} {nm:Sp.Nm} {nd:Sp.Nd} {lo hi lo' : Nat} {v:Value} (h:InQ w a nm nd lo hi v) (h1:lo'<=lo):InQ w a nm nd lo' hi v:=by
 obtain ⟨q,sl,e,a,b,c,d⟩:=h
 exact ⟨q,sl,e,by omega,b,c,d⟩
theorem UpV.low {w:World} {nm:Sp.Nm} {ns:List (Sp.Nm×Nat×Sp.Nd)} {wh:Sp.Nd} {lo hi lo' : Nat} {v:Value} (h:UpV w nm ns wh lo hi v) (h1:lo'<=lo):UpV w nm ns wh lo' hi v:=by
 obtain ⟨q,sl,pv,mid,e,a,b,c,d,f,g⟩:=h
 exact ⟨q,sl,pv,mid,e,by omega,b,c,d,f.wide h1 (Nat.le_refl _),g⟩
theorem three (s:Sp.Bs) (x y z:Sp.Bs) (σ:Sp.St):seesOne s [x,y,z] σ=(σ.is s x||σ.is s y||σ.is s z):=by simp [seesOne,Bool.or_assoc]
theorem statement_any {b c cap len:Nat} {s:Sp.Bs} {m:Nat} {σ:Sp.St} {w:World} (IA:All b c cap len s (m+1)) (IB:All b c cap len s m) (hn:m+1<=900000) (hm:32*Sp.rem s σ+31<=m+1) (hp:PS b c cap len s 0 σ w) :
  Calls Tryz.prog 48 #[.pointer (some ⟨b,0,none⟩)] w (PostV b c cap len s 0 (Sp.stmt s (m+1) σ) w IsIf fun w' v=>StV w' (Sp.stm s (m+1) σ) w.heap.size w'.heap.size v):=by
 have hbw:=hp.lb
 have hcw:=hp.lc
 have r0:=Sp.rem_step_le s σ
 obtain ⟨i,wd,hi,tc,PK⟩:=peek_any hp
 have HTK:Hid (σ.isLive=true->(∀ e,σ = .live e->Sp.tokCl s e ≠ .bad)->wd=bz (σ.word s)):=fun hl=>(tok_live hi tc hl).2
 have HP0:=hid hp
 have HPK:=hidc PK
 have HIA:=hid IA
 have HIB:=hid IB
 clear hp tc hi PK IA IB
 generalize kn (Sp.tokCl s (pos s i))=kk at *
 generalize Sp.tokAt s (pos s i)=st at *
 have hfd:=tokF2
 go_enter Tryz.func48,Tryz.ntmps48
 go_wp2_with fail
 refine (HPK.out _ rfl).mono ?_
 clear HPK
 rintro r w1 ⟨rfl,hb1⟩
 have HP1:Hid (PS b c cap len s 0 σ (w1.alloc (.cells #[.int .i64 kk, .int .i64 (st:Int), .string wd] 155))):=(HP0.out.below hb1).alloc _
 have HK1:Hid (Kept b w (w1.alloc (.cells #[.int .i64 kk, .int .i64 (st:Int), .string wd] 155))):=(Kept.below hb1).alloc _
 have HX1:Hid (Bk (w1.alloc (.cells #[.int .i64 kk, .int .i64 (st:Int), .string wd] 155)) w1.heap.size [.int .i64 kk, .int .i64 (st:Int), .string wd]):=Bk.new _ _ _
 have hz1:w.heap.size<=w1.heap.size:=hb1.size
 clear hb1 HP0
 go_wp2_with fail
 refine (accept1q HP1.out [99,114,101,97,116,101] (by decide) _ (by simp)).mono ?_
 generalize w1.alloc (.cells #[.int .i64 kk, .int .i64 (st:Int), .string wd] 155)=w1' at *
 rintro r w2 ⟨rfl,hp2,hk2⟩
 cases h_create:σ.is s [99,114,101,97,116,101]
 case true=>
  have HV:Hid (Sp.stmt s (m+1) σ=crT s m (σ.step s)):=by show _=_;simp only [Sp.stmt,h_create,if_true];rfl
  have HVT:Hid (Sp.stm s (m+1) σ = .create (((σ.step s).must s [116,97,98,108,101]).nm s) (Sp.colTs s (m+1) 0 ((((σ.step s).must s [116,97,98,108,101]).nameT s).must s [40]))):=by show _=_;simp only [Sp.stm,h_create,if_true]
  rw [take_yes h_create] at hp2
  have HP2:=hid hp2
  have HK2:=hid (HK1.out.trans hk2)
  have HX2:Hid (Bk w2 w1.heap.size [.int .i64 kk, .int .i64 (st:Int), .string wd]):=HX1.out.kept hk2 (by omega)
  clear hp2 hk2 HP1 HK1 HX1
  go_wp2_with fail
  refine (create_any (m:=m) (by omega) (by omega) HP2.out).mono ?_
  rintro r w20 ⟨v20,rfl,hp20,hk20,⟨q20,rfl⟩,hq20⟩
  have HP20:Hid (PS b c cap len s 0 (Sp.stmt s (m+1) σ) w20):=by show PS b c cap len s 0 _ w20;rw [HV.out];exact hp20
  have HK20:=hid (HK2.out.trans hk20)
  have hzk:=HK2.out.size
  have HR20:Hid ((Sp.stmt s (m+1) σ).isLive=true->StV w20 (Sp.stm s (m+1) σ) w.heap.size w20.heap.size (.iface 160 (.pointer (some ⟨q20,0,none⟩)))):=fun hl=>by rw [HV.out] at hl;rw [HVT.out];exact ⟨_,rfl,CrV.low (hq20 hl) hzk⟩
  clear hp20 hk20 hq20 HP2 HK2 HX2
  go_wp2_with fail
  go_ret
  exact ⟨_,rfl,HP20.out,HK20.out,Or.inr ⟨_,_,rfl⟩,HR20.out⟩
 rw [take_no h_create] at hp2
 have HP2:=hid hp2
 have HK2:=hid (HK1.out.trans hk2)
 have HX2:Hid (Bk w2 w1.heap.size [.int .i64 kk, .int .i64 (st:Int), .string wd]):=HX1.out.kept hk2 (by omega)
 clear hp2 hk2 HP1 HK1 HX1
 go_wp2_with fail
 refine (accept1 HP2.out [100,114,111,112] (by decide)).mono ?_
 rintro r w3 ⟨rfl,hp3,hk3⟩
 cases h_drop:σ.is s [100,114,111,112]
 case true=>
  have HV:Hid (Sp.stmt s (m+1) σ=Sp.St.nameT s ((σ.step s).must s [116,97,98,108,101])):=by show _=_;simp only [Sp.stmt,h_create,h_drop,Bool.false_eq_true,if_true,if_false];skip
  have HVT:Hid (Sp.stm s (m+1) σ = .drop (Sp.St.nm s ((σ.step s).must s [116,97,98,108,101]))):=by show _=_;simp only [Sp.stm,h_create,h_drop,Bool.false_eq_true,if_true,if_false]
  rw [take_yes h_drop] at hp3
  have HP3:=hid hp3
  have HK3:=hid (HK2.out.trans hk3)
  have HX3:Hid (Bk w3 w1.heap.size [.int .i64 kk, .int .i64 (st:Int), .string wd]):=HX2.out.kept hk3 (by omega)
  clear hp3 hk3 HP2 HK2 HX2
  go_wp2_with fail
  refine (expect_any HP3.out [116,97,98,108,101] (by decide)).mono ?_
  rintro r w20 ⟨rfl,hp20,hk20⟩
  have HP20:=hid hp20
  have HK20:=hid (HK3.out.trans hk20)
  clear hp20 hk20 HP3 HK3 HX3
  go_wp2_with fail
  refine (name_any HP20.out).mono ?_
  rintro r w21 ⟨v21,rfl,hp21,hk21,⟨wd21,a21,rfl⟩,hq21⟩
  have HP21:Hid (PS b c cap len s 0 (Sp.stmt s (m+1) σ) w21):=by show PS b c cap len s 0 _ w21;rw [HV.out];exact hp21
  have HK21:=hid (HK20.out.trans hk21)
  have HR21:Hid ((Sp.stmt s (m+1) σ).isLive=true->wd21=bz (Sp.St.nm s ((σ.step s).must s [116,97,98,108,101])).1/\a21=((Sp.St.nm s ((σ.step s).must s [116,97,98,108,101])).2:Nat)):=fun hl=>by rw [HV.out] at hl;exact agg2n (hq21 hl)
  have hz21:=(HK20.out.trans hk21).size
  clear hp21 hk21 hq21 HP20 HK20
  go_wp2_with fail
  go_ret
  refine ⟨_,rfl,HP21.out.alloc _,HK21.out.alloc _,Or.inr ⟨_,_,rfl⟩,fun hl=>?_⟩
  obtain ⟨e0,e1⟩:=HR21.out hl
  rw [HVT.out]
  refine ⟨_,rfl,by omega,by simp,?_⟩
  rw [<- e0,<- e1]
  exact (Bk.new w21 #[.string wd21, .int .i64 a21] _).at_
 rw [take_no h_drop] at hp3
 have HP3:=hid hp3
 have HK3:=hid (HK2.out.trans hk3)
 have HX3:Hid (Bk w3 w1.heap.size [.int .i64 kk, .int .i64 (st:Int), .string wd]):=HX2.out.kept hk3 (by omega)
 clear hp3 hk3 HP2 HK2 HX2
 go_wp2_with fail
 refine (accept1 HP3.out [105,110,115,101,114,116] (by decide)).mono ?_
 rintro r w4 ⟨rfl,hp4,hk4⟩
 cases h_insert:σ.is s [105,110,115,101,114,116]
 case true=>
  rw [take_yes h_insert] at hp4
  have HP4:=hid hp4
  have HK4:=hid (HK3.out.trans hk4)
  have HX4:Hid (Bk w4 w1.heap.size [.int .i64 kk, .int .i64 (st:Int), .string wd]):=HX3.out.kept hk4 (by omega)
  clear hp4 hk4 HP3 HK3 HX3
  go_wp2_with fail
  cases h_values:Sp.St.is s [118,97,108,117,101,115] (((σ.step s).must s [105,110,116,111]).nameT s)
  case true=>
   have HV:Hid (Sp.stmt s (m+1) σ=Sp.rowL s (m+1) (m+1) (Sp.St.step s (((σ.step s).must s [105,110,116,111]).nameT s))):=by show _=_;simp only [Sp.stmt,h_create,h_drop,h_insert,h_values,Bool.false_eq_true,if_true,if_false];skip
   have HVT:Hid (Sp.stm s (m+1) σ = .insertV ((σ.step s).at_ s) (((σ.step s).must s [105,110,116,111]).nm s) (Sp.rowTs s (m+1) (m+1) (Sp.St.step s (((σ.step s).must s [105,110,116,111]).nameT s)))):=by show _=_;simp only [Sp.stm,h_create,h_drop,h_insert,h_values,Bool.false_eq_true,if_true,if_false]
   refine (insertV_any HIA.out hn (by omega) HP4.out h_values).mono ?_
   rintro r w20 ⟨v20,rfl,hp20,hk20,⟨q20,rfl⟩,hq20⟩
   have HP20:Hid (PS b c cap len s 0 (Sp.stmt s (m+1) σ) w20):=by show PS b c cap len s 0 _ w20;rw [HV.out];exact hp20
   have HK20:=hid (HK4.out.trans hk20)
   have hzk:=HK4.out.size
   have HR20:Hid ((Sp.stmt s (m+1) σ).isLive=true->StV w20 (Sp.stm s (m+1) σ) w.heap.size w20.heap.size (.iface 169 (.pointer (some ⟨q20,0,none⟩)))):=fun hl=>by rw [HV.out] at hl;rw [HVT.out];exact ⟨_,rfl,InV.low (hq20 hl) hzk⟩
   clear hp20 hk20 hq20 HP4 HK4 HX4
   go_wp2_with fail
   go_ret
   exact ⟨_,rfl,HP20.out,HK20.out,Or.inr ⟨_,_,rfl⟩,HR20.out⟩
  have HV:Hid (Sp.stmt s (m+1) σ=Sp.run s (m+1) .query 0 (((σ.step s).must s [105,110,116,111]).nameT s)):=by show _=_;simp only [Sp.stmt,h_create,h_drop,h_insert,h_values,Bool.false_eq_true,if_true,if_false];skip
  have HVT:Hid (Sp.stm s (m+1) σ = .insertQ ((σ.step s).at_ s) (((σ.step s).must s [105,110,116,111]).nm s) (Sp.tr s (m+1) .query 0 .nil (((σ.step s).must s [105,110,116,111]).nameT s))):=by show _=_;simp only [Sp.stm,h_create,h_drop,h_insert,h_values,Bool.false_eq_true,if_true,if_false]
  refine (insertQ_any HIA.out hn (by omega) HP4.out h_values).mono ?_
  rintro r w20 ⟨v20,rfl,hp20,hk20,⟨q20,rfl⟩,hq20⟩
  have HP20:Hid (PS b c cap len s 0 (Sp.stmt s (m+1) σ) w20):=by show PS b c cap len s 0 _ w20;rw [HV.out];exact hp20
  have HK20:=hid (HK4.out.trans hk20)
  have hzk:=HK4.out.size
  have HR20:Hid ((Sp.stmt s (m+1) σ).isLive=true->StV w20 (Sp.stm s (m+1) σ) w.heap.size w20.heap.size (.iface 169 (.pointer (some ⟨q20,0,none⟩)))):=fun hl=>by rw [HV.out] at hl;rw [HVT.out];exact ⟨_,rfl,InQ.low (hq20 hl) hzk⟩
  clear hp20 hk20 hq20 HP4 HK4 HX4
  go_wp2_with fail
  go_ret
  exact ⟨_,rfl,HP20.out,HK20.out,Or.inr ⟨_,_,rfl⟩,HR20.out⟩
 rw [take_no h_insert] at hp4
 have HP4:=hid hp4
 have HK4:=hid (HK3.out.trans hk4)
 have HX4:Hid (Bk w4 w1.heap.size [.int .i64 kk, .int .i64 (st:Int), .string wd]):=HX3.out.kept hk4 (by omega)
 clear hp4 hk4 HP3 HK3 HX3
 go_wp2_with fail
 refine (accept1 HP4.out [100,101,108,101,116,101] (by decide)).mono ?_
 rintro r w5 ⟨rfl,hp5,hk5⟩
 cases h_delete:σ.is s [100,101,108,101,116,101]
 case true=>
  have r4:=Sp.rem_must s [102,114,111,109] (σ.step s)
  have r5:=Sp.rem_nameT s ((σ.step s).must s [102,114,111,109])
  have HV:Hid (Sp.stmt s (m+1) σ=clT s m 0 [119,104,101,114,101] (Sp.St.nameT s ((σ.step s).must s [102,114,111,109]))):=by show _=_;simp only [Sp.stmt,h_create,h_drop,h_insert,h_delete,Bool.false_eq_true,if_true,if_false];exact where_eq s m 0 _
  have HVT:Hid (Sp.stm s (m+1) σ = .delete (Sp.St.nm s ((σ.step s).must s [102,114,111,109])) (clN s m 0 [119,104,101,114,101] (Sp.St.nameT s ((σ.step s).must s [102,114,111,109])))):=by show _=_;simp only [Sp.stm,h_create,h_drop,h_insert,h_delete,Bool.false_eq_true,if_true,if_false];rw [whereN_eq s m 0 _]
  rw [take_yes h_delete] at hp5
  have HP5:=hid hp5
  have HK5:=hid (HK4.out.trans hk5)
  have HX5:Hid (Bk w5 w1.heap.size [.int .i64 kk, .int .i64 (st:Int), .string wd]):=HX4.out.kept hk5 (by omega)
  clear hp5 hk5 HP4 HK4 HX4
  go_wp2_with fail
  refine (expect_any HP5.out [102,114,111,109] (by decide)).mono ?_
  rintro r w20 ⟨rfl,hp20,hk20⟩
  have HP20:=hid hp20
  have HK20:=hid (HK5.out.trans hk20)
  clear hp20 hk20 HP5 HK5 HX5
  go_wp2_with fail
  refine (name_any HP20.out).mono ?_
  rintro r w21 ⟨v21,rfl,hp21,hk21,⟨wd21,a21,rfl⟩,hq21⟩
  have HP21:=hid hp21
  have HK21:=hid (HK20.out.trans hk21)
  have HR21:Hid ((Sp.St.nameT s ((σ.step s).must s [102,114,111,109])).isLive=true->wd21=bz (Sp.St.nm s ((σ.step s).must s [102,114,111,109])).1/\a21=((Sp.St.nm s ((σ.step s).must s [102,114,111,109])).2:Nat)):=fun hl=>agg2n (hq21 hl)
  have hz21:=(HK20.out.trans hk21).size
  clear hp21 hk21 hq21 HP20 HK20
  go_wp2_with fail
  refine (clauseIfAny_any (n:=m) HP21.out [119,104,101,114,101] (by decide) (fun hw w' hp'=>HIB.out.expr 0 _ _ (by omega) (by have:=Sp.rem_step_lt hw;show 32*Sp.rem s _+9<=m;omega) hp')).mono ?_
  rintro r w22 ⟨v22,rfl,hp22,hk22,⟨pa,rfl⟩,hq22⟩
  have HP22:Hid (PS b c cap len s 0 (Sp.stmt s (m+1) σ) w22):=by show PS b c cap len s 0 _ w22;rw [HV.out];exact hp22
  have HK22:=hid (HK21.out.trans hk22)
  have HR22:=hid hq22
  have hz22:=hk22.size
  clear hp22 hk22 hq22 HP21 HK21
  go_wp2_with fail
  go_ret
  refine ⟨_,rfl,HP22.out.alloc _,HK22.out.alloc _,Or.inr ⟨_,_,rfl⟩,fun hl=>?_⟩
  rw [HV.out] at hl
  obtain ⟨e0,e1⟩:=HR21.out (live_clT hl)
  rw [HVT.out]
  refine ⟨_, .pointer pa,rfl,by omega,by simp,?_,⟨_,rfl⟩,?_⟩
  ·rw [<- e0,<- e1]
   exact (Bk.new w22 #[.string wd21, .int .i64 a21, .pointer pa] _).at_
  ·exact Rp.wide _ _ _ _ _ _ ((HR22.out hl).frame (by simp) _ _ _ _ (fun k h1 h2=>Below.heap_alloc _ _ _ h2) (fun blk off n c ee=>by cases ee)) hz21 (Nat.le_refl _)
 rw [take_no h_delete] at hp5
 have HP5:=hid hp5
 have HK5:=hid (HK4.out.trans hk5)
 have HX5:Hid (Bk w5 w1.heap.size [.int .i64 kk, .int .i64 (st:Int), .string wd]):=HX4.out.kept hk5 (by omega)
 clear hp5 hk5 HP4 HK4 HX4
 go_wp2_with fail
 refine (accept1 HP5.out [117,112,100,97,116,101] (by decide)).mono ?_
 rintro r w6 ⟨rfl,hp6,hk6⟩
 cases h_update:σ.is s [117,112,100,97,116,101]
 case true=>
  have HV:Hid (Sp.stmt s (m+1) σ=Sp.run s (m+1) .where_ 0 (Sp.chgL s (m+1) (m+1) (((σ.step s).nameT s).must s [115,101,116]))):=by show _=_;simp only [Sp.stmt,h_create,h_drop,h_insert,h_delete,h_update,Bool.false_eq_true,if_true,if_false];skip
  have HVT:Hid (Sp.stm s (m+1) σ = .update ((σ.step s).nm s) (Sp.chgTs s (m+1) (m+1) (((σ.step s).nameT s).must s [115,101,116])) (Sp.tr s (m+1) .where_ 0 .nil (Sp.chgL s (m+1) (m+1) (((σ.step s).nameT s).must s [115,101,116])))):=by show _=_;simp only [Sp.stm,h_create,h_drop,h_insert,h_delete,h_update,Bool.false_eq_true,if_true,if_false]
  rw [take_yes h_update] at hp6
  have HP6:=hid hp6
  have HK6:=hid (HK5.out.trans hk6)
  have HX6:Hid (Bk w6 w1.heap.size [.int .i64 kk, .int .i64 (st:Int), .string wd]):=HX5.out.kept hk6 (by omega)
  clear hp6 hk6 HP5 HK5 HX5
  go_wp2_with fail
  refine (update_any HIA.out HIB.out hn (by omega) HP6.out).mono ?_
  rintro r w20 ⟨v20,rfl,hp20,hk20,⟨q20,rfl⟩,hq20⟩
  have HP20:Hid (PS b c cap len s 0 (Sp.stmt s (m+1) σ) w20):=by show PS b c cap len s 0 _ w20;rw [HV.out];exact hp20
  have HK20:=hid (HK6.out.trans hk20)
  have hzk:=HK6.out.size
  have HR20:Hid ((Sp.stmt s (m+1) σ).isLive=true->StV w20 (Sp.stm s (m+1) σ) w.heap.size w20.heap.size (.iface 176 (.pointer (some ⟨q20,0,none⟩)))):=fun hl=>by rw [HV.out] at hl;rw [HVT.out];exact ⟨_,rfl,UpV.low (hq20 hl) hzk⟩
  clear hp20 hk20 hq20 HP6 HK6 HX6
  go_wp2_with fail
  go_ret
  exact ⟨_,rfl,HP20.out,HK20.out,Or.inr ⟨_,_,rfl⟩,HR20.out⟩
 rw [take_no h_update] at hp6
 have HP6:=hid hp6
 have HK6:=hid (HK5.out.trans hk6)
 have HX6:Hid (Bk w6 w1.heap.size [.int .i64 kk, .int .i64 (st:Int), .string wd]):=HX5.out.kept hk6 (by omega)
 clear hp6 hk6 HP5 HK5 HX5
 go_wp2_with fail
 refine (accept_lit HP6.out [[98,101,103,105,110], [99,111,109,109,105,116], [114,111,108,108,98,97,99,107]] (by decide) (by decide) 3 rfl #[.string ⟨#[98,101,103,105,110]⟩, .string ⟨#[99,111,109,109,105,116]⟩, .string ⟨#[114,111,108,108,98,97,99,107]⟩] rfl).mono ?_
 rintro r w7 ⟨rfl,hp7,hk7⟩
 cases h_trans:seesOne s [[98,101,103,105,110], [99,111,109,109,105,116], [114,111,108,108,98,97,99,107]] σ
 case true=>
  have h_three:(σ.is s [98,101,103,105,110]||σ.is s [99,111,109,109,105,116]||σ.is s [114,111,108,108,98,97,99,107])=true:=(three s _ _ _ σ).symm.trans h_trans
  have HV:Hid (Sp.stmt s (m+1) σ=σ.step s):=by show _=_;simp only [Sp.stmt,h_create,h_drop,h_insert,h_delete,h_update,h_three,Bool.false_eq_true,if_true,if_false]
  have HVT:Hid (Sp.stm s (m+1) σ = .trans (σ.word s)):=by show _=_;simp only [Sp.stm,h_create,h_drop,h_insert,h_delete,h_update,h_three,Bool.false_eq_true,if_true,if_false]
  have HNB:Hid (∀ e,σ = .live e->Sp.tokCl s e ≠ .bad):=not_bad_sees h_trans
  clear h_three
  rw [h_trans] at hp7
  have HP7:Hid (PS b c cap len s 0 (σ.step s) w7):=hp7
  have HK7:=hid (HK6.out.trans hk7)
  have HX7:Hid (Bk w7 w1.heap.size [.int .i64 kk, .int .i64 (st:Int), .string wd]):=HX6.out.kept hk7 (by omega)
  have y2:=HX7.out.k2
  have y1:=HX7.out.k1
  have y0:=HX7.out.k0
  clear hp7 hk7 HP6 HK6 HX6
  go_wp2_with fail
  have HPE:Hid (PS b c cap len s 0 (Sp.stmt s (m+1) σ) w7):=by show PS b c cap len s 0 _ w7;rw [HV.out];exact HP7.out
  have hz20:=HK7.out.size
  go_ret
  refine ⟨_,rfl,HPE.out.alloc _,HK7.out.alloc _,Or.inr ⟨_,_,rfl⟩,fun hl=>?_⟩
  rw [HV.out] at hl
  have e0:=HTK.out (Sp.live_step hl) HNB.out
  rw [HVT.out]
  refine ⟨_,rfl,by omega,by simp,?_⟩
  rw [<- e0]
  exact (Bk.new w7 #[.string wd] _).at_
 have h_three:(σ.is s [98,101,103,105,110]||σ.is s [99,111,109,109,105,116]||σ.is s [114,111,108,108,98,97,99,107])=false:=(three s _ _ _ σ).symm.trans h_trans
 have HV:Hid (Sp.stmt s (m+1) σ=Sp.run s (m+1) .query 0 σ):=by show _=_;simp only [Sp.stmt,h_create,h_drop,h_insert,h_delete,h_update,h_three,Bool.false_eq_true,if_false]
 have HVT:Hid (Sp.stm s (m+1) σ = .query (Sp.tr s (m+1) .query 0 .nil σ)):=by show _=_;simp only [Sp.stm,h_create,h_drop,h_insert,h_delete,h_update,h_three,Bool.false_eq_true,if_false]
 clear h_three
 rw [h_trans] at hp7
 have HP7:Hid (PS b c cap len s 0 σ w7):=hp7
 have HK7:=hid (HK6.out.trans hk7)
 have HX7:Hid (Bk w7 w1.heap.size [.int .i64 kk, .int .i64 (st:Int), .string wd]):=HX6.out.kept hk7 (by omega)
 clear hp7 hk7 HP6 HK6 HX6
 go_wp2_with fail
 refine (HIA.out.query 0 _ _ (by omega) (Nat.le_trans (Nat.add_le_add_left (by decide:Sp.lev .query<=31) _) (by omega)) HP7.out).mono ?_
 rintro r w20 ⟨y20,rfl,hp20,hk20,hy20,hq20⟩
 have HP20:Hid (PS b c cap len s 0 (Sp.stmt s (m+1) σ) w20):=by show PS b c cap len s 0 _ w20;rw [HV.out];exact hp20
 have HK20:=hid (HK7.out.trans hk20)
 have HI20:=hid hy20
 have hzk:=HK7.out.size
 have HR20:Hid ((Sp.stmt s (m+1) σ).isLive=true->StV w20 (Sp.stm s (m+1) σ) w.heap.size w20.heap.size y20):=fun hl=>by rw [HV.out] at hl;rw [HVT.out];exact Rp.wide _ _ _ _ _ _ (hq20 hl) hzk (Nat.le_refl _)
 clear hp20 hk20 hq20 hy20 HP7 HK7 HX7
 go_wp2_with fail
 go_ret
 exact ⟨_,rfl,HP20.out,HK20.out,HI20.out,HR20.out⟩
end Go.Proofs.YtgnncnhkgmhngaaGreatDoor
