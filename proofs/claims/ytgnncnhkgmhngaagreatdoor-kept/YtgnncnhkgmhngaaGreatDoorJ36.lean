import Derived.Test.YtgnncnhkgmhngaaGreatDoorJ32
import Derived.Test.YtgnncnhkgmhngaaGreatDoorJ34
import Derived.Test.YtgnncnhkgmhngaaGreatDoorJ35
set_option maxHeartbeats 4000000
set_option maxRecDepth 100000
namespace Go.Proofs.YtgnncnhkgmhngaaGreatDoor
open Go.RowKit Go.Sort
theorem ts_Create_Create (v:Option Addr) (w:World):Sem.run Tryz.prog (Instr.typeAssert (.iface 160 (.pointer v)) 90 160 true) w = .ok (.tuple #[.pointer v, .bool true]) w:=by kernel_rfl
theorem ts_Drop_Create (v:Option Addr) (w:World):Sem.run Tryz.prog (Instr.typeAssert (.iface 163 (.pointer v)) 90 160 true) w = .ok (.tuple #[.pointer none, .bool false]) w:=by kernel_rfl
theorem ts_Drop_Drop (v:Option Addr) (w:World):Sem.run Tryz.prog (Instr.typeAssert (.iface 163 (.pointer v)) 90 163 true) w = .ok (.tuple #[.pointer v, .bool true]) w:=by kernel_rfl
theorem ts_Insert_Create (v:Option Addr) (w:World):Sem.run Tryz.prog (Instr.typeAssert (.iface 169 (.pointer v)) 90 160 true) w = .ok (.tuple #[.pointer none, .bool false]) w:=by kernel_rfl
theorem ts_Insert_Drop (v:Option Addr) (w:World):Sem.run Tryz.prog (Instr.typeAssert (.iface 169 (.pointer v)) 90 163 true) w = .ok (.tuple #[.pointer none, .bool false]) w:=by kernel_rfl
theorem ts_Insert_Insert (v:Option Addr) (w:World):Sem.run Tryz.prog (Instr.typeAssert (.iface 169 (.pointer v)) 90 169 true) w = .ok (.tuple #[.pointer v, .bool true]) w:=by kernel_rfl
theorem ts_Delete_Create (v:Option Addr) (w:World):Sem.run Tryz.prog (Instr.typeAssert (.iface 171 (.pointer v)) 90 160 true) w = .ok (.tuple #[.pointer none, .bool false]) w:=by kernel_rfl
theorem ts_Delete_Drop (v:Option Addr) (w:World):Sem.run Tryz.prog (Instr.typeAssert (.iface 171 (.pointer v)) 90 163 true) w = .ok (.tuple #[.pointer none, .bool false]) w:=by kernel_rfl
theorem ts_Delete_Insert (v:Option Addr) (w:World):Sem.run Tryz.prog (Instr.typeAssert (.iface 171 (.pointer v)) 90 169 true) w = .ok (.tuple #[.pointer none, .bool false]) w:=by kernel_rfl
theorem ts_Delete_Delete (v:Option Addr) (w:World):Sem.run Tryz.prog (Instr.typeAssert (.iface 171 (.pointer v)) 90 171 true) w = .ok (.tuple #[.pointer v, .bool true]) w:=by kernel_rfl
theorem ts_Update_Create (v:Option Addr) (w:World):Sem.run Tryz.prog (Instr.typeAssert (.iface 176 (.pointer v)) 90 160 true) w = .ok (.tuple #[.pointer none, .bool false]) w:=by kernel_rfl
theorem ts_Update_Drop (v:Option Addr) (w:World):Sem.run Tryz.prog (Instr.typeAssert (.iface 176 (.pointer v)) 90 163 true) w = .ok (.tuple #[.pointer none, .bool false]) w:=by kernel_rfl
theorem ts_Update_Insert (v:Option Addr) (w:World):Sem.run Tryz.prog (Instr.typeAssert (.iface 176 (.pointer v)) 90 169 true) w = .ok (.tuple #[.pointer none, .bool false]) w:=by kernel_rfl
theorem ts_Update_Delete (v:Option Addr) (w:World):Sem.run Tryz.prog (Instr.typeAssert (.iface 176 (.pointer v)) 90 171 true) w = .ok (.tuple #[.pointer none, .bool false]) w:=by kernel_rfl
theorem ts_Update_Update (v:Option Addr) (w:World):Sem.run Tryz.prog (Instr.typeAssert (.iface 176 (.pointer v)) 90 176 true) w = .ok (.tuple #[.pointer v, .bool true]) w:=by kernel_rfl
theorem ts_Select_Create (v:Option Addr) (w:World):Sem.run Tryz.prog (Instr.typeAssert (.iface 278 (.pointer v)) 90 160 true) w = .ok (.tuple #[.pointer none, .bool false]) w:=by kernel_rfl
theorem ts_Select_Drop (v:Option Addr) (w:World):Sem.run Tryz.prog (Instr.typeAssert (.iface 278 (.pointer v)) 90 163 true) w = .ok (.tuple #[.pointer none, .bool false]) w:=by kernel_rfl
theorem ts_Select_Insert (v:Option Addr) (w:World):Sem.run Tryz.prog (Instr.typeAssert (.iface 278 (.pointer v)) 90 169 true) w = .ok (.tuple #[.pointer none, .bool false]) w:=by kernel_rfl
theorem ts_Select_Delete (v:Option Addr) (w:World):Sem.run Tryz.prog (Instr.typeAssert (.iface 278 (.pointer v)) 90 171 true) w = .ok (.tuple #[.pointer none, .bool false]) w:=by kernel_rfl
theorem ts_Select_Update (v:Option Addr) (w:World):Sem.run Tryz.prog (Instr.typeAssert (.iface 278 (.pointer v)) 90 176 true) w = .ok (.tuple #[.pointer none, .bool false]) w:=by kernel_rfl
theorem ts_Select_Query (v:Option Addr) (w:World):Sem.run Tryz.prog (Instr.typeAssert (.iface 278 (.pointer v)) 90 179 true) w = .ok (.tuple #[.iface 278 (.pointer v), .bool true]) w:=by kernel_rfl
theorem ts_Combined_Create (v:Option Addr) (w:World):Sem.run Tryz.prog (Instr.typeAssert (.iface 280 (.pointer v)) 90 160 true) w = .ok (.tuple #[.pointer none, .bool false]) w:=by kernel_rfl
theorem ts_Combined_Drop (v:Option Addr) (w:World):Sem.run Tryz.prog (Instr.typeAssert (.iface 280 (.pointer v)) 90 163 true) w = .ok (.tuple #[.pointer none, .bool false]) w:=by kernel_rfl
theorem ts_Combined_Insert (v:Option Addr) (w:World):Sem.run Tryz.prog (Instr.typeAssert (.iface 280 (.pointer v)) 90 169 true) w = .ok (.tuple #[.pointer none, .bool false]) w:=by kernel_rfl
theorem ts_Combined_Delete (v:Option Addr) (w:World):Sem.run Tryz.prog (Instr.typeAssert (.iface 280 (.pointer v)) 90 171 true) w = .ok (.tuple #[.pointer none, .bool false]) w:=by kernel_rfl
theorem ts_Combined_Update (v:Option Addr) (w:World):Sem.run Tryz.prog (Instr.typeAssert (.iface 280 (.pointer v)) 90 176 true) w = .ok (.tuple #[.pointer none, .bool false]) w:=by kernel_rfl
theorem ts_Combined_Query (v:Option Addr) (w:World):Sem.run Tryz.prog (Instr.typeAssert (.iface 280 (.pointer v)) 90 179 true) w = .ok (.tuple #[.iface 280 (.pointer v), .bool true]) w:=by kernel_rfl
theorem cs_create {cb q:Nat} {w:World} {P:World->Prop} (hC:Calls Tryz.prog 135 #[.pointer (some ⟨cb,0,none⟩), .pointer (some ⟨q,0,none⟩)] w fun r w'=>r = .returned (.tuple #[])/\P w') :
  Calls Tryz.prog 85 #[.pointer (some ⟨cb,0,none⟩), .iface 160 (.pointer (some ⟨q,0,none⟩))] w fun r w'=>r = .returned (.tuple #[])/\P w':=by
 have HC:=hid hC
 have t0:=ts_Create_Create
 clear hC
 go_enter Tryz.func85,Tryz.ntmps85
 go_wp2_with fail
 refine HC.out.mono ?_
 rintro e w1 ⟨rfl,h⟩
 go_wp2_with fail
 go_end0
 exact ⟨rfl,h⟩
theorem cs_insert {cb q:Nat} {w:World} {P:World->Prop} (hC:Calls Tryz.prog 137 #[.pointer (some ⟨cb,0,none⟩), .pointer (some ⟨q,0,none⟩)] w fun r w'=>r = .returned (.tuple #[])/\P w') :
  Calls Tryz.prog 85 #[.pointer (some ⟨cb,0,none⟩), .iface 169 (.pointer (some ⟨q,0,none⟩))] w fun r w'=>r = .returned (.tuple #[])/\P w':=by
 have HC:=hid hC
 have t0:=ts_Insert_Create
 have t1:=ts_Insert_Drop
 have t2:=ts_Insert_Insert
 clear hC
 go_enter Tryz.func85,Tryz.ntmps85
 go_wp2_with fail
 refine HC.out.mono ?_
 rintro e w1 ⟨rfl,h⟩
 go_wp2_with fail
 go_end0
 exact ⟨rfl,h⟩
theorem cs_update {cb q:Nat} {w:World} {P:World->Prop} (hC:Calls Tryz.prog 140 #[.pointer (some ⟨cb,0,none⟩), .pointer (some ⟨q,0,none⟩)] w fun r w'=>r = .returned (.tuple #[])/\P w') :
  Calls Tryz.prog 85 #[.pointer (some ⟨cb,0,none⟩), .iface 176 (.pointer (some ⟨q,0,none⟩))] w fun r w'=>r = .returned (.tuple #[])/\P w':=by
 have HC:=hid hC
 have t0:=ts_Update_Create
 have t1:=ts_Update_Drop
 have t2:=ts_Update_Insert
 have t3:=ts_Update_Delete
 have t4:=ts_Update_Update
 clear hC
 go_enter Tryz.func85,Tryz.ntmps85
 go_wp2_with fail
 refine HC.out.mono ?_
 rintro e w1 ⟨rfl,h⟩
 go_wp2_with fail
 go_end0
 exact ⟨rfl,h⟩
theorem cs_sel {cb q:Nat} {w:World} {P:World->Prop} (hC:Calls Tryz.prog 141 #[.pointer (some ⟨cb,0,none⟩), .iface 278 (.pointer (some ⟨q,0,none⟩)), .pointer none] w fun r w'=>∃ v,r = .returned v/\P w') :
  Calls Tryz.prog 85 #[.pointer (some ⟨cb,0,none⟩), .iface 278 (.pointer (some ⟨q,0,none⟩))] w fun r w'=>r = .returned (.tuple #[])/\P w':=by
 have HC:=hid hC
 have t0:=ts_Select_Create
 have t1:=ts_Select_Drop
 have t2:=ts_Select_Insert
 have t3:=ts_Select_Delete
 have t4:=ts_Select_Update
 have t5:=ts_Select_Query
 clear hC
 go_enter Tryz.func85,Tryz.ntmps85
 go_wp2_with fail
 refine HC.out.mono ?_
 rintro e w1 ⟨v,rfl,h⟩
 go_wp2_with fail
 go_end0
 exact ⟨rfl,h⟩
theorem cs_comb {cb q:Nat} {w:World} {P:World->Prop} (hC:Calls Tryz.prog 141 #[.pointer (some ⟨cb,0,none⟩), .iface 280 (.pointer (some ⟨q,0,none⟩)), .pointer none] w fun r w'=>∃ v,r = .returned v/\P w') :
  Calls Tryz.prog 85 #[.pointer (some ⟨cb,0,none⟩), .iface 280 (.pointer (some ⟨q,0,none⟩))] w fun r w'=>r = .returned (.tuple #[])/\P w':=by
 have HC:=hid hC
 have t0:=ts_Combined_Create
 have t1:=ts_Combined_Drop
 have t2:=ts_Combined_Insert
 have t3:=ts_Combined_Delete
 have t4:=ts_Combined_Update
 have t5:=ts_Combined_Query
 clear hC
 go_enter Tryz.func85,Tryz.ntmps85
 go_wp2_with fail
 refine HC.out.mono ?_
 rintro e w1 ⟨v,rfl,h⟩
 go_wp2_with fail
 go_end0
 exact ⟨rfl,h⟩
theorem cs_drop {T:List Sp.Tb} {cb q k:Nat} {tv:Value} {c:Sp.CS} {w:World} {nm:Sp.Nm} (hc:CB cb tv c w) (ht:Tbs k w T tv) (hA:At w q [.string (bz nm.1), .int .i64 (nm.2:Nat)]) :
  Calls Tryz.prog 85 #[.pointer (some ⟨cb,0,none⟩), .iface 163 (.pointer (some ⟨q,0,none⟩))] w fun r w'=>r = .returned (.tuple #[])/\CB cb tv (Sp.tableC T nm c).2 w'/\Kept cb w w':=by
 have HC:=hid (ctable_any hc ht nm)
 have b0:=hA.k0
 have b1:=hA.k1
 have hqw:=hA.1
 obtain ⟨nw,na⟩:=nm
 have t0:=ts_Drop_Create
 have t1:=ts_Drop_Drop
 clear hc ht hA
 go_enter Tryz.func85,Tryz.ntmps85
 go_wp2_with fail
 refine HC.out.mono ?_
 rintro e w1 ⟨tt,rfl,ht1,h1,k1⟩
 have H1:=hid h1
 have K1:=hid k1
 obtain ⟨tn,tca,tcl,tcc,tra,trl,trc⟩:=tt
 rw [show enT ⟨tn,tca,tcl,tcc,tra,trl,trc⟩ = .agg #[.string tn, .slice tca tcl tcc, .slice tra trl trc] from rfl]
 clear ht1 h1 k1 HC
 go_wp2_with fail
 go_end0
 exact ⟨rfl,H1.out,K1.out⟩
theorem cs_delete {T:List Sp.Tb} {cb q k lo:Nat} {tv pv:Value} {c:Sp.CS} {w:World} {nm:Sp.Nm} {wh:Sp.Nd} (hW:wh = .none\/∃ a e,wh = .clause a e/\ExC T e/\1+e.dep<=100000) (hc:CB cb tv c w) (ht:Tbs k w T tv) (hkl:k<=lo) (hlq:lo<=q) (hqc:q<cb) (hA:At w q [.string (bz nm.1), .int .i64 (nm.2:Nat),pv]) (hpt:IsPt pv) (hR:Rp w wh lo q pv) :
  Calls Tryz.prog 85 #[.pointer (some ⟨cb,0,none⟩), .iface 171 (.pointer (some ⟨q,0,none⟩))] w fun r w'=>r = .returned (.tuple #[])/\CB cb tv (Sp.cond T wh [[((Sp.tableC T nm c).1.name,(Sp.tableC T nm c).1)]] (Sp.tableC T nm c).2).1 w'/\Rp w' (Sp.cond T wh [[((Sp.tableC T nm c).1.name,(Sp.tableC T nm c).1)]] (Sp.tableC T nm c).2).2 lo q pv/\Fc cb lo q w w':=by
 have hcw:=hc.lt
 have hkw:=ht.2.1
 have GX:=hid ((Gr.refl w).drew)
 have HC:=hid (ctable_any (hc.gr GX.out) (ht.low (Low.of_gr GX.out)) nm)
 have b0:=hA.k0
 have b1:=hA.k1
 have b2:=hA.k2
 have hqw:=hA.1
 have HNp:Hid (NoSl pv):=hpt.noSl
 obtain ⟨pa,rfl⟩:=hpt
 obtain ⟨nw,na⟩:=nm
 have HT:=hid ht
 have HR:=hid hR
 have HW:=hid hW
 have hkw':=hid hkw
 simp only [] at b0 b1
 generalize Sp.tableC T (nw,na) c=TC at *
 obtain ⟨t,c0⟩:=TC
 simp only [] at HC ⊢
 have t0:=ts_Delete_Create
 have t1:=ts_Delete_Drop
 have t2:=ts_Delete_Insert
 have t3:=ts_Delete_Delete
 have hqq:q≠cb/\¬ (lo<=q/\q<q):=by omega
 clear hc ht hA hR hW hkw
 go_enter Tryz.func85,Tryz.ntmps85
 go_wp2_with fail
 go_region_held3 (fun w'=>w'.cell? ⟨q,0,none⟩=some (.string (bz nw))/\w'.cell? ⟨q,1,none⟩=some (.int .i64 (na:Nat))/\w'.cell? ⟨q,2,none⟩=some (.pointer pa)) (first | go_keep | exact ⟨b0,b1,b2⟩ | exact ⟨d0,d1,d2⟩ | exact ⟨e0,e1,e2⟩ | exact ⟨s0,s1,s2⟩) (first | (go_at_call 136;refine HC.out.mono ?_;rintro er w1 ⟨tt,rfl,ht1,h1,k1⟩;obtain ⟨tn,tca,tcl,tcc,tra,trl,trc⟩:=tt;have hz1:w.heap.size<=w1.heap.size:=k1.size;have hq1:q<w1.heap.size:=Nat.lt_of_lt_of_le hqw hz1;have d0:=(k1.cell (p:=⟨q,0,none⟩) hqw hqq.1).trans b0;have d1:=(k1.cell (p:=⟨q,1,none⟩) hqw hqq.1).trans b1;have d2:=(k1.cell (p:=⟨q,2,none⟩) hqw hqq.1).trans b2) | (go_at_call 139;refine (itself_any k (cb+1) t ⟨tn,tca,tcl,tcc,tra,trl,trc⟩ w1 (Nat.le_trans hkw'.out hz1) (by omega) ht1).mono ?_;rintro er w2 ⟨iv,rfl,s2',g2⟩;obtain ⟨ia,rfl⟩:=s2'.ptr;have hz2:w1.heap.size<=w2.heap.size:=g2.size;have hq2:q<w2.heap.size:=Nat.lt_of_lt_of_le hq1 hz2;have e0:=(g2.cell (p:=⟨q,0,none⟩) hq1).trans d0;have e1:=(g2.cell (p:=⟨q,1,none⟩) hq1).trans d1;have e2:=(g2.cell (p:=⟨q,2,none⟩) hq1).trans d2) | (go_at_call 138;refine (cond_any (m:=cb+1) (k:=k) (T:=T) (lvs := [[(t.name,t)]]) (lo:=lo) (hi:=q) HW.out ⟨h1.gr g2,(HT.out.low (Low.of_gr GX.out)).low (Low.of_kept (k1.trans (Kept.gr g2)) (by omega)),s2',hkl,by omega,by omega,by omega⟩ (HR.out.frame (Nat.le_trans hz1 hz2) _ _ _ _ (fun u u1 u2=>(g2.below.block u (by omega)).trans (k1.block u (show u<w.heap.size by omega) (by omega))) (fun _ _ _ _ e=>absurd e (HNp.out _ _ _)))).mono ?_;rintro er w3 ⟨rfl,h3,r3,f3⟩;have s0:=(f3.cell (p:=⟨q,0,none⟩) hq2 hqq.1 hqq.2).trans e0;have s1:=(f3.cell (p:=⟨q,1,none⟩) hq2 hqq.1 hqq.2).trans e1;have s2:=(f3.cell (p:=⟨q,2,none⟩) hq2 hqq.1 hqq.2).trans e2))
 have F3:Hid (Fc cb lo q w w3):=(((Fc.gr GX.out).trans (Fc.of k1)).trans (Fc.gr g2)).trans f3
 have H3:=hid h3
 have R3:=hid r3
 go_end0
 exact ⟨rfl,H3.out,R3.out,F3.out⟩
theorem rp_query {w:World} {nd:Sp.Nd} {lo hi N:Nat} {v:Value} (h:Rp w nd lo hi v) (hw:Sp.wf N nd .query):(∃ b,v = .iface 278 (.pointer (some ⟨b,0,none⟩)))\/(∃ b,v = .iface 280 (.pointer (some ⟨b,0,none⟩))):=by
 cases nd with
 | sel di st ex src wh=>obtain ⟨b,xv,fv,wv,m1,m2,m3,m4,e,_⟩:=h;exact .inl ⟨b,e⟩
 | comb wd a all p q=>obtain ⟨b,pv,qv,m1,m2,m3,e,_⟩:=h;exact .inr ⟨b,e⟩
 | _=>simp [Sp.wf] at hw
theorem wh_of (T:List Sp.Tb) {wh:Sp.Nd} (hw:Sp.wf 90000 wh .cl) (hd:wh.dep<=90000):wh = .none\/∃ a e,wh = .clause a e/\ExC T e/\1+e.dep<=100000:=by
 cases wh with
 | none=>exact .inl rfl
 | clause a e=>exact .inr ⟨a,e,rfl,(ck_main T 90000 (Nat.le_refl _) (.clause a e)).2.2.2.1 hw a e rfl,by simp only [Sp.Nd.dep] at hd;omega⟩
 | _=>simp [Sp.wf] at hw
theorem cstmt_any {T:List Sp.Tb} {k cb lo hi:Nat} {tv v:Value} {s:Sp.Stm} {w:World} (hs:Sp.okS 90000 s) (hnt:∀ z,s ≠ .trans z) (hc:CB cb tv ⟨0,0,false⟩ w) (ht:Tbs k w T tv) (hkl:k<=lo) (hhc:hi<=cb) (hV:StV w s lo hi v) :
  Calls Tryz.prog 85 #[.pointer (some ⟨cb,0,none⟩),v] w fun r w'=>r = .returned (.tuple #[])/\CB cb tv (Sp.check T s).1 w'/\StV w' (Sp.check T s).2 lo hi v/\Fc cb lo hi w w':=by
 have hM:=ck_main T 90000 (Nat.le_refl _)
 have hcw:=hc.lt
 cases s with
 | create t cols=>
  obtain ⟨p,rfl,q,sl,rfl,h1,h2,hA,hL⟩:=hV
  have hcl:cols.length<=7:=hs
  refine cs_create (P:=fun w'=>CB cb tv (Sp.check T (.create t cols)).1 w'/\StV w' (Sp.check T (.create t cols)).2 lo hi (.iface 160 (.pointer (some ⟨q,0,none⟩)))/\Fc cb lo hi w w') ((ccreate_any hc ht hkl hhc ⟨h1,h2⟩ hA hL (by omega)).mono ?_)
  rintro r w' ⟨rfl,h,kk⟩
  exact ⟨rfl,h,⟨_,rfl,q,sl,rfl,h1,h2,hA.same kk.size (kk.block q hA.1 (by omega)),hL.frame (fun u u1 u2=>kk.block u (by omega) (by omega))⟩,Fc.of kk⟩
 | drop t=>
  obtain ⟨q,rfl,h1,h2,hA⟩:=hV
  refine (cs_drop hc ht hA).mono ?_
  rintro r w' ⟨rfl,h,kk⟩
  exact ⟨rfl,h,⟨q,rfl,h1,h2,hA.same kk.size (kk.block q hA.1 (by omega))⟩,Fc.of kk⟩
 | insertV a t rows=>
  obtain ⟨p,rfl,q,sl,rfl,h1,h2,hA,hL⟩:=hV
  obtain ⟨hrl,hrs⟩:=hs
  refine cs_insert (P:=fun w'=>CB cb tv (Sp.check T (.insertV a t rows)).1 w'/\StV w' (Sp.check T (.insertV a t rows)).2 lo hi (.iface 169 (.pointer (some ⟨q,0,none⟩)))/\Fc cb lo hi w w') ((cinsertV_any (N:=90000) (fun x hx=>⟨exs_of (hrs x hx).1 (hrs x hx).2.1 ((hM x.2).2.1 (hrs x hx).1),by have:=(hrs x hx).2.2;omega,(hrs x hx).1,(hrs x hx).2.1⟩) hrl hc ht hkl hhc ⟨h1,h2⟩ hA hL).mono ?_)
  rintro r w' ⟨rfl,h,l,f⟩
  exact ⟨rfl,h,⟨_,rfl,q,sl,rfl,h1,h2,hA.same f.size (f.block q hA.1 (by omega) (by omega)),l⟩,f.wide (by omega) (Nat.le_refl _)⟩
 | insertQ a t nd=>exact hs.elim
 | delete t wh=>
  obtain ⟨q,pv,rfl,h1,h2,hA,hp,hR⟩:=hV
  obtain ⟨hw,hd⟩:=hs
  refine (cs_delete (wh_of T hw hd) hc ht hkl h1 (by omega) hA hp hR).mono ?_
  rintro r w' ⟨rfl,h,r,f⟩
  exact ⟨rfl,h,⟨q,pv,rfl,h1,h2,hA.same f.size (f.block q hA.1 (by omega) (by omega)),hp,r⟩,f.wide (Nat.le_refl _) (by omega)⟩
 | update t sets wh=>exact hs.elim
 | trans z=>exact absurd rfl (hnt z)
 | query nd=>
  obtain ⟨hw,hd⟩:=hs
  have hQ:=(hM nd).2.2.2.2 hw k cb (cb+1) lo hi tv v (.pointer none) ⟨0,0,false⟩ [] w ⟨hc,ht,rfl,hkl,hhc,by omega,by omega⟩ (by simp;omega) hV
  rcases rp_query hV hw with ⟨b,rfl⟩ | ⟨b,rfl⟩
  ·refine cs_sel (P:=fun w'=>CB cb tv (Sp.check T (.query nd)).1 w'/\StV w' (Sp.check T (.query nd)).2 lo hi (.iface 278 (.pointer (some ⟨b,0,none⟩)))/\Fc cb lo hi w w') (hQ.mono ?_)
   rintro r w' ⟨v',rfl,_,_,h,r,f⟩
   exact ⟨v',rfl,h,r,f⟩
  ·refine cs_comb (P:=fun w'=>CB cb tv (Sp.check T (.query nd)).1 w'/\StV w' (Sp.check T (.query nd)).2 lo hi (.iface 280 (.pointer (some ⟨b,0,none⟩)))/\Fc cb lo hi w w') (hQ.mono ?_)
   rintro r w' ⟨v',rfl,_,_,h,r,f⟩
   exact ⟨v',rfl,h,r,f⟩
theorem stv_if {w:World} {s:Sp.Stm} {lo hi:Nat} {v:Value} (hs:Sp.okS 90000 s) (h:StV w s lo hi v):∃ t a,v = .iface t (.pointer a):=by
 cases s with
 | create t cols=>obtain ⟨p,rfl,q,sl,rfl,_⟩:=h;exact ⟨_,_,rfl⟩
 | drop t=>obtain ⟨q,rfl,_⟩:=h;exact ⟨_,_,rfl⟩
 | insertV a t rows=>obtain ⟨p,rfl,q,sl,rfl,_⟩:=h;exact ⟨_,_,rfl⟩
 | insertQ a t nd=>obtain ⟨p,rfl,q,sl,rfl,_⟩:=h;exact ⟨_,_,rfl⟩
 | delete t wh=>obtain ⟨q,pv,rfl,_⟩:=h;exact ⟨_,_,rfl⟩
 | update t sets wh=>obtain ⟨p,rfl,q,sl,pv,mid,rfl,_⟩:=h;exact ⟨_,_,rfl⟩
 | trans z=>obtain ⟨q,rfl,_⟩:=h;exact ⟨_,_,rfl⟩
 | query nd=>rcases rp_query h hs.1 with ⟨b,rfl⟩ | ⟨b,rfl⟩ <;> exact ⟨_,_,rfl⟩
theorem CB.new {k:Nat} {T:List Sp.Tb} (w:World) {tv:Value} (_ht:Tbs k w T tv):CB w.heap.size tv ⟨0,0,false⟩ (w.alloc (.cells #[tv, .int .i64 0, .int .i64 0, .bool false] 182)):=
 ⟨by simp,by simp,by simp,by simp,by simp,fun o=>by simp⟩
theorem check_any {T:List Sp.Tb} {k lo hi:Nat} {tv v:Value} {s:Sp.Stm} {w:World} (hs:Sp.okS 90000 s) (hnt:∀ z,s ≠ .trans z) (ht:Tbs k w T tv) (hkl:k<=lo) (hh:hi<=w.heap.size) (hV:StV w s lo hi v) :
  Calls Tryz.prog 51 #[tv,v] w fun r w'=>r = .returned (.tuple #[.int .i64 ((Sp.check T s).1.out.1:Nat), .int .i64 ((Sp.check T s).1.out.2:Nat)])/\StV w' (Sp.check T s).2 lo hi v/\Fc w.heap.size lo hi w w':=by
 have GX:=hid ((Gr.refl w).alloc (.cells #[tv, .int .i64 0, .int .i64 0, .bool false] 182))
 have hz:=GX.out.size
 have HC:=hid (cstmt_any hs hnt (CB.new w ht) (ht.low (Low.of_gr GX.out)) hkl hh (StV.frame hz hV (by obtain ⟨t,a,e⟩:=stv_if hs hV;exact .inr ⟨_,_,e⟩) (fun u u1 u2=>GX.out.below.block u (by omega))))
 obtain ⟨vt,va,rfl⟩:=stv_if hs hV
 obtain ⟨ta,tn,tc,rfl⟩:∃ a n c,tv = .slice a n c:=by
  rcases ht.2.2 with ⟨rfl,rfl⟩ | ⟨b,off,c,V,rfl,_⟩
  ·exact ⟨_,_,_,rfl⟩
  ·exact ⟨_,_,_,rfl⟩
 clear ht hV
 generalize Sp.check T s=CH at *
 obtain ⟨⟨ce,ca,cm⟩,s'⟩:=CH
 simp only [] at HC ⊢
 go_enter Tryz.func51,Tryz.ntmps51
 go_wp2_with fail
 refine HC.out.mono ?_
 rintro e w1 ⟨rfl,h1,v1,f1⟩
 obtain ⟨lt,c0,c1,c2,c3,_⟩:=h1
 simp only [] at c1 c2 c3
 have HV:=hid v1
 have HF:Hid (Fc w.heap.size lo hi w w1):=(Fc.gr GX.out).trans f1
 have HVd:Hid (StV w1.drew s' lo hi (.iface vt (.pointer va))):=hid (StV.frame (w:=w1) (w':=w1.drew) (Nat.le_refl _) v1 (.inr ⟨_,_,rfl⟩) (fun u _ _=>rfl))
 have HFd:Hid (Fc w.heap.size lo hi w w1.drew):=HF.out.trans (Fc.gr (Gr.refl w1).drew)
 clear v1 f1 HC
 by_cases hce:ce=0
 ·subst hce
  have c1' : w1.cell? ⟨w.heap.size,1,none⟩=some (.int .i64 0):=c1
  clear c1
  cases cm
  ·go_wp2_with fail
   go_region
   all_goals
    go_wp2_with fail
    go_ret2
    exact ⟨rfl,HVd.out,HFd.out⟩
  ·go_wp2_with fail
   go_ret2
   exact ⟨rfl,HV.out,HF.out⟩
 ·have hne:((ce:Int) == 0)=false:=by simpa using hce
  go_wp2_with fail
  go_region
  all_goals
   go_wp2_with fail
   go_ret2
   refine ⟨?_,HVd.out,HFd.out⟩
   simp [Sp.CS.out,hce]
end Go.Proofs.YtgnncnhkgmhngaaGreatDoor
