import Derived.Test.YtgnncnhkgmhngaaGreatDoorJ18
set_option maxHeartbeats 4000000
set_option maxRecDepth 100000
namespace Go.Proofs.YtgnncnhkgmhngaaGreatDoor
open Go.RowKit Go.Sort
theorem ta_ss (v:Option Addr) (w:World):Sem.run Tryz.prog (Instr.typeAssert (.iface 278 (.pointer v)) 179 278 true) w = .ok (.tuple #[.pointer v, .bool true]) w:=by kernel_rfl
theorem ta_cs (v:Option Addr) (w:World):Sem.run Tryz.prog (Instr.typeAssert (.iface 280 (.pointer v)) 179 278 true) w = .ok (.tuple #[.pointer none, .bool false]) w:=by kernel_rfl
theorem ta_cc (v:Option Addr) (w:World):Sem.run Tryz.prog (Instr.typeAssert (.iface 280 (.pointer v)) 179 280 true) w = .ok (.tuple #[.pointer v, .bool true]) w:=by kernel_rfl
theorem query_sel {cb b:Nat} {iv:Value} {ia:Option Addr} {w:World} {P:Value->World->Prop} (hiv:iv = .pointer ia) (hC:Calls Tryz.prog 184 #[.pointer (some ⟨cb,0,none⟩), .pointer (some ⟨b,0,none⟩),iv] w fun r w'=>∃ v,r = .returned v/\P v w') :
  Calls Tryz.prog 141 #[.pointer (some ⟨cb,0,none⟩), .iface 278 (.pointer (some ⟨b,0,none⟩)),iv] w fun r w'=>∃ v,r = .returned v/\P v w':=by
 subst hiv
 have HC:=hid hC
 have t1:=ta_ss
 have t2:=ta_cs
 have t3:=ta_cc
 clear hC
 go_enter Tryz.func141,Tryz.ntmps141
 go_wp2_with fail
 refine HC.out.mono ?_
 rintro e w1 ⟨v,rfl,h⟩
 go_wp2_with fail
 go_ret
 exact ⟨_,rfl,h⟩
theorem query_comb {cb b:Nat} {iv:Value} {ia:Option Addr} {w:World} {P:Value->World->Prop} (hiv:iv = .pointer ia) (hC:Calls Tryz.prog 185 #[.pointer (some ⟨cb,0,none⟩), .pointer (some ⟨b,0,none⟩),iv] w fun r w'=>∃ v,r = .returned v/\P v w') :
  Calls Tryz.prog 141 #[.pointer (some ⟨cb,0,none⟩), .iface 280 (.pointer (some ⟨b,0,none⟩)),iv] w fun r w'=>∃ v,r = .returned v/\P v w':=by
 subst hiv
 have HC:=hid hC
 have t1:=ta_ss
 have t2:=ta_cs
 have t3:=ta_cc
 clear hC
 go_enter Tryz.func141,Tryz.ntmps141
 go_wp2_with fail
 refine HC.out.mono ?_
 rintro e w1 ⟨v,rfl,h⟩
 go_wp2_with fail
 go_ret
 exact ⟨_,rfl,h⟩
theorem ck_list_len (T:List Sp.Tb) (N:Nat) (nd:Sp.Nd) (hw:Sp.wf N nd .list) (lvs:List Sp.Lv) (c:Sp.CS):(Sp.ck T nd lvs 0 c).1.dropLast.length=nd.len:=by
 obtain ⟨e1,e2,e3⟩:=els_lapp N nd hw
 have h:=ck_lapp T N lvs nd.els c e3
 rw [<- e1] at h
 rw [h]
 simp [(ckL_len T lvs nd.els c).1,e2]
theorem find_mem (x:Sp.Bs):∀ (T:List Sp.Tb) (t:Sp.Tb),Sp.findTb x T=some t->t∈T
 | [],t,h=>by cases h
 | u::T,t,h=>by
  rw [Sp.findTb] at h
  split at h
  ·injection h with h;simp [h]
  ·simp [find_mem x T t h]
theorem fromC_all (T:List Sp.Tb) (P:Sp.Tb->Prop) (h0:P Sp.noTb) (hT:∀ t∈T,P t):∀ (src:List (Sp.Nm×Sp.Nm)) (lv:Sp.Lv) (c:Sp.CS),(∀ x∈lv,P x.2)->(∀ x∈(Sp.fromC T src lv c).1,P x.2)/\(Sp.fromC T src lv c).1.length=lv.length+src.length
 | [],lv,c,h=>⟨h,rfl⟩
 | (t,k)::r,lv,c,h=>by
  have hn:P ((Sp.findTb t.1 T).getD Sp.noTb):=by
   cases hf:Sp.findTb t.1 T with
   | none=>exact h0
   | some u=>exact hT u (find_mem _ _ _ hf)
  have ih:=fromC_all T P h0 hT r (lv ++ [(k.1,(Sp.findTb t.1 T).getD Sp.noTb)]) (if lv.any (fun x=>x.1 == k.1) then (match Sp.findTb t.1 T with | some _=>c | none=>c.fail 4 t.2).fail 4 k.2 else (match Sp.findTb t.1 T with | some _=>c | none=>c.fail 4 t.2)) (fun x hx=>by
   rw [List.mem_append,List.mem_singleton] at hx
   rcases hx with hx | rfl
   ·exact h x hx
   ·exact hn)
  rw [Sp.fromC]
  refine ⟨ih.1,ih.2.trans ?_⟩
  simp;omega
theorem Tbl.all {k:Nat} {w:World} : ∀ {T:List Sp.Tb} {V:List TV},Tbl k w T V->∀ t∈T,t.cols.length<=50
 | [], [],_,t,ht=>by simp at ht
 | u::T,v::V,h,t,ht=>by
  rw [List.mem_cons] at ht
  rcases ht with rfl | ht
  ·exact h.1.colN
  ·exact Tbl.all h.2 t ht
 | [],_::_,h,_,_=>h.elim
 | _::_, [],h,_,_=>h.elim
theorem Tbs.all {k:Nat} {w:World} {T:List Sp.Tb} {v:Value} (h:Tbs k w T v):∀ t∈T,t.cols.length<=50:=by
 rcases h.2.2 with ⟨rfl,_⟩ | ⟨b,off,c,V,_,_,_,h4⟩
 ·intro t ht;simp at ht
 ·exact h4.all
theorem sel_of {T:List Sp.Tb} {N:Nat} {di:Bool} {st:Nat} {ex:Sp.Nd} {src:List (Sp.Nm×Sp.Nm)} {wh:Sp.Nd} (hw:Sp.wf N (.sel di st ex src wh) .query) (hN:N<=90000) (hX:ex ≠ .none->ExsC T ex) (hW:∀ a e,wh = .clause a e->ExC T e):QuC T (.sel di st ex src wh):=by
 intro k cb m lo hi tv qv iv c lvs w he hd hr
 obtain ⟨_,hex,hsl,hwh⟩:=hw
 obtain ⟨b,xv,fv,wv,m1,m2,m3,m4,rfl,hb1,hb2,hS,hS2,hA,hxi,hxr,hfr,hn,hrw⟩:=hr
 obtain ⟨ia,rfl⟩:=he.sc.ptr
 unfold Sub at hS hS2
 have hcw:=he.ck.lt
 have hhc:=he.hic
 have hcm:=he.cm
 have hkl:=he.klo
 simp only [Sp.Nd.dep] at hd
 have b1:=hA.k1
 have b2:=hA.k2
 have b3:=hA.k3
 have b4:=hA.k4
 have hbw:=hA.1
 have hsv:SrV w src fv:=by
  rcases hfr with h | ⟨blk,c,e,_,_,_,hl,hs⟩
  ·exact .inl h
  ·exact .inr ⟨blk,c,e,hl,hs⟩
 have hfi:SIn m2 m3 fv:=by
  rcases hfr with ⟨_,rfl⟩ | ⟨blk,c,rfl,_,h1,h2,_⟩
  ·intro blk off n c e;cases e
  ·intro blk' off n c e;injection e with e1;injection e1 with e1;injection e1 with e1;subst e1;exact ⟨h1,h2⟩
 have hW' : wh = .none\/∃ a e,wh = .clause a e/\ExC T e/\lvs.length+1+e.dep<=100000:=by
  cases wh with
  | none=>exact .inl rfl
  | clause a e=>exact .inr ⟨a,e,rfl,hW a e rfl,by simp only [Sp.Nd.dep] at hd;omega⟩
  | nil=>simp [Sp.wf] at hwh
  | cons _ _=>simp [Sp.wf] at hwh
  | const _=>simp [Sp.wf] at hwh
  | col _ _ _ _ _ _=>simp [Sp.wf] at hwh
  | op _ _ _=>simp [Sp.wf] at hwh
  | kase _ _=>simp [Sp.wf] at hwh
  | arms _ _ _ _ _=>simp [Sp.wf] at hwh
  | within _ _ _ _=>simp [Sp.wf] at hwh
  | comb _ _ _ _ _=>simp [Sp.wf] at hwh
  | sel _ _ _ _ _=>simp [Sp.wf] at hwh
 have hmm:lo<=m1/\m1<=m2/\m2<=m3/\m3<=m4/\m4<=hi/\¬ (m1<=b/\b<m2)/\¬ (m3<=b/\b<m4):=by omega
 have hfin:∀ (ex' : Sp.Nd) (tys:List Int) (c2:Sp.CS),tys.length<=90000->Sp.ck T (.sel di st ex src wh) lvs 0 c=(tys,whC T wh ((Sp.fromC T src [] c).1::lvs) c2, .sel di st ex' src (Sp.ck T wh ((Sp.fromC T src [] c).1::lvs) 0 c2).2.2)->((ex = .none)↔(ex' = .none))->
   (∀ w1 v,En T k cb m tv ((Sp.fromC T src [] c).2.note ((Sp.fromC T src [] c).1::lvs)) ((Sp.fromC T src [] c).1::lvs) v lo hi w1->Kept cb w w1->Calls Tryz.prog 228 #[.pointer (some ⟨cb,0,none⟩), .pointer (some ⟨b,0,none⟩),v] w1 fun r w'=>∃ v',r = .returned v'/\OwI w1.heap.size w' v' tys/\CB cb tv c2 w'/\ExR w' ex' m1 m2 xv/\Fc cb m1 m2 w1 w')->
   Calls Tryz.prog 141 #[.pointer (some ⟨cb,0,none⟩), .iface 278 (.pointer (some ⟨b,0,none⟩)), .pointer ia] w fun r w'=>∃ v,r = .returned v/\OwI w.heap.size w' v (Sp.ck T (.sel di st ex src wh) lvs 0 c).1/\(Sp.ck T (.sel di st ex src wh) lvs 0 c).1.length<=90000/\CB cb tv (Sp.ck T (.sel di st ex src wh) lvs 0 c).2.1 w'/\Rp w' (Sp.ck T (.sel di st ex src wh) lvs 0 c).2.2 lo hi (.iface 278 (.pointer (some ⟨b,0,none⟩)))/\Fc cb lo hi w w':=by
  intro ex' tys c2 hlen hck hno hC
  rw [hck]
  refine query_sel rfl ((sel_core hW' he hsv hsl ⟨hb1,hb2⟩ hmm hfi hxi b3 b4 hbw hn hrw hC).mono ?_)
  rintro r w' ⟨v',rfl,o,h,x,rw_,f,sb,mid⟩
  refine ⟨v',rfl,o,hlen,h,?_,f.wide (by omega) (by omega)⟩
  have hs:=f.size
  refine ⟨b,xv,fv,wv,m1,m2,m3,m4,rfl,hb1,hb2,by unfold Sub;omega,by unfold Sub;omega,hA.same hs sb,hxi,x,?_,hn,rw_⟩
  rcases hfr with h | ⟨blk,c,e,hne,l1,l2,l3,hs'⟩
  ·exact .inl h
  ·exact .inr ⟨blk,c,e,hne,l1,l2,Nat.lt_of_lt_of_le l3 hs,hs'.same (mid blk l1 l2)⟩
 have hAll:=fromC_all T (fun t=>t.cols.length<=50) (by simp [Sp.noTb]) he.tb.all src [] c (fun x hx=>by simp at hx)
 rcases hex with rfl | ⟨hl1,hl2,hwx⟩
 ·obtain rfl:xv = .slice none 0 0:=by
   rcases hxr with h | h
   ·exact h.2
   ·exact absurd rfl h.1
  refine hfin .none (tysF (Sp.fromC T src [] c).1) (if src.isEmpty then ((Sp.fromC T src [] c).2.note ((Sp.fromC T src [] c).1::lvs)).fail 6 st else (Sp.fromC T src [] c).2.note ((Sp.fromC T src [] c).1::lvs)) ?_ (by cases wh <;> rfl) Iff.rfl ?_
  ·have:=tysF_len (Sp.fromC T src [] c).1 hAll.1 (Sp.fromC T src [] c).1.length
   rw [List.take_of_length_le (Nat.le_refl _),hAll.2] at this
   simp at this
   omega
  ·intro w1 v h1 k1
   have hc:∀ o,w1.cell? ⟨b,o,none⟩=w.cell? ⟨b,o,none⟩:=fun o=>k1.cell (p:=⟨b,o,none⟩) hbw (by show b≠cb;omega)
   refine (columns_star (src:=src) (st:=st) (fv:=fv) h1.ck h1.kw h1.sc (by omega) hcm (Nat.lt_of_lt_of_le hbw k1.size) (by omega) ((hc 1).trans b1) ((hc 2).trans b2) ((hc 3).trans b3) ?_).mono ?_
   ·rcases hfr with h | ⟨blk,c,e,hne,_⟩
    ·exact .inl h
    ·exact .inr ⟨hne,_,_,_,e⟩
   ·rintro r w' ⟨v',rfl,o,hc',k'⟩
    exact ⟨v',rfl,o,hc', .inl ⟨rfl,rfl⟩,Fc.of k'⟩
 ·obtain ⟨h,t,rfl⟩:∃ h t,ex = .cons h t:=by
   cases ex with
   | cons h t=>exact ⟨h,t,rfl⟩
   | nil=>simp [Sp.Nd.len] at hl1
   | none=>simp [Sp.wf] at hwx
   | clause _ _=>simp [Sp.wf] at hwx
   | const _=>simp [Sp.wf] at hwx
   | col _ _ _ _ _ _=>simp [Sp.wf] at hwx
   | op _ _ _=>simp [Sp.wf] at hwx
   | kase _ _=>simp [Sp.wf] at hwx
   | arms _ _ _ _ _=>simp [Sp.wf] at hwx
   | within _ _ _ _=>simp [Sp.wf] at hwx
   | comb _ _ _ _ _=>simp [Sp.wf] at hwx
   | sel _ _ _ _ _=>simp [Sp.wf] at hwx
  have hxr' : Rp w (.cons h t) m1 m2 xv:=by
   rcases hxr with h | h
   ·cases h.1
   ·exact h.2
  have hsh:=hxr'
  obtain ⟨blk,off,n,cp,v0,p1,p2,rfl,hbl,_⟩:=hsh
  refine hfin (Sp.ck T (.cons h t) ((Sp.fromC T src [] c).1::lvs) 0 ((Sp.fromC T src [] c).2.note ((Sp.fromC T src [] c).1::lvs))).2.2 (Sp.ck T (.cons h t) ((Sp.fromC T src [] c).1::lvs) 0 ((Sp.fromC T src [] c).2.note ((Sp.fromC T src [] c).1::lvs))).1.dropLast (Sp.ck T (.cons h t) ((Sp.fromC T src [] c).1::lvs) 0 ((Sp.fromC T src [] c).2.note ((Sp.fromC T src [] c).1::lvs))).2.1 ?_ (by cases wh <;> rfl) (by constructor <;> (intro e;cases e)) ?_
  ·rw [ck_list_len T N _ hwx];omega
  ·intro w1 v h1 k1
   obtain ⟨ja,rfl⟩:=h1.sc.ptr
   have hbx:=hxi blk off (n+1) cp rfl
   have hc:∀ o,w1.cell? ⟨b,o,none⟩=w.cell? ⟨b,o,none⟩:=fun o=>k1.cell (p:=⟨b,o,none⟩) hbw (by show b≠cb;omega)
   refine (columns_exprs (P:=fun w'=>Rp w' (Sp.ck T (.cons h t) ((Sp.fromC T src [] c).1::lvs) 0 ((Sp.fromC T src [] c).2.note ((Sp.fromC T src [] c).1::lvs))).2.2 m1 m2 (.slice (some ⟨blk,off,none⟩) (n+1) cp)) rfl ((hc 2).trans b2) (hX (by intro e;cases e) k cb m m1 m2 tv _ (.pointer ja) _ _ w1 (h1.part (by omega) (by omega)) (by simp;omega) (hxr'.frame k1.size _ _ _ _ (fun u u1 u2=>k1.block u (by omega) (by omega)) (fun blk' off' n' c' e=>k1.block blk' (by have:=hxi blk' off' n' c' e;omega) (by have:=hxi blk' off' n' c' e;omega))) (fun blk' off' n' c' e=>by have:=hxi blk' off' n' c' e;omega))).mono ?_
   rintro r w' ⟨v',rfl,o,hc',hr',f'⟩
   exact ⟨v',rfl,o,hc', .inr ⟨(by intro e;cases e),hr'⟩,f'⟩
theorem te_00 (v:Option Addr) (w:World):Sem.run Tryz.prog (Instr.typeAssert (.iface 358 (.pointer v)) 242 358 true) w = .ok (.tuple #[.pointer v, .bool true]) w:=by kernel_rfl
theorem te_10 (v:Option Addr) (w:World):Sem.run Tryz.prog (Instr.typeAssert (.iface 361 (.pointer v)) 242 358 true) w = .ok (.tuple #[.pointer none, .bool false]) w:=by kernel_rfl
theorem te_11 (v:Option Addr) (w:World):Sem.run Tryz.prog (Instr.typeAssert (.iface 361 (.pointer v)) 242 361 true) w = .ok (.tuple #[.pointer v, .bool true]) w:=by kernel_rfl
theorem te_20 (v:Option Addr) (w:World):Sem.run Tryz.prog (Instr.typeAssert (.iface 363 (.pointer v)) 242 358 true) w = .ok (.tuple #[.pointer none, .bool false]) w:=by kernel_rfl
theorem te_21 (v:Option Addr) (w:World):Sem.run Tryz.prog (Instr.typeAssert (.iface 363 (.pointer v)) 242 361 true) w = .ok (.tuple #[.pointer none, .bool false]) w:=by kernel_rfl
theorem te_22 (v:Option Addr) (w:World):Sem.run Tryz.prog (Instr.typeAssert (.iface 363 (.pointer v)) 242 363 true) w = .ok (.tuple #[.pointer v, .bool true]) w:=by kernel_rfl
theorem te_30 (v:Option Addr) (w:World):Sem.run Tryz.prog (Instr.typeAssert (.iface 365 (.pointer v)) 242 358 true) w = .ok (.tuple #[.pointer none, .bool false]) w:=by kernel_rfl
theorem te_31 (v:Option Addr) (w:World):Sem.run Tryz.prog (Instr.typeAssert (.iface 365 (.pointer v)) 242 361 true) w = .ok (.tuple #[.pointer none, .bool false]) w:=by kernel_rfl
theorem te_32 (v:Option Addr) (w:World):Sem.run Tryz.prog (Instr.typeAssert (.iface 365 (.pointer v)) 242 363 true) w = .ok (.tuple #[.pointer none, .bool false]) w:=by kernel_rfl
theorem te_33 (v:Option Addr) (w:World):Sem.run Tryz.prog (Instr.typeAssert (.iface 365 (.pointer v)) 242 365 true) w = .ok (.tuple #[.pointer v, .bool true]) w:=by kernel_rfl
theorem te_40 (v:Option Addr) (w:World):Sem.run Tryz.prog (Instr.typeAssert (.iface 367 (.pointer v)) 242 358 true) w = .ok (.tuple #[.pointer none, .bool false]) w:=by kernel_rfl
theorem te_41 (v:Option Addr) (w:World):Sem.run Tryz.prog (Instr.typeAssert (.iface 367 (.pointer v)) 242 361 true) w = .ok (.tuple #[.pointer none, .bool false]) w:=by kernel_rfl
theorem te_42 (v:Option Addr) (w:World):Sem.run Tryz.prog (Instr.typeAssert (.iface 367 (.pointer v)) 242 363 true) w = .ok (.tuple #[.pointer none, .bool false]) w:=by kernel_rfl
theorem te_43 (v:Option Addr) (w:World):Sem.run Tryz.prog (Instr.typeAssert (.iface 367 (.pointer v)) 242 365 true) w = .ok (.tuple #[.pointer none, .bool false]) w:=by kernel_rfl
theorem te_44 (v:Option Addr) (w:World):Sem.run Tryz.prog (Instr.typeAssert (.iface 367 (.pointer v)) 242 367 true) w = .ok (.tuple #[.pointer v, .bool true]) w:=by kernel_rfl
theorem expr_const {cb b:Nat} {ia:Option Addr} {z:Int} {w:World} (h:w.cell? ⟨b,0,none⟩=some (.int .i64 z)) :
  Calls Tryz.prog 182 #[.pointer (some ⟨cb,0,none⟩), .iface 358 (.pointer (some ⟨b,0,none⟩)), .pointer ia] w fun r w'=>r = .returned (.int .i64 z)/\w'=w:=by
 have t0:=te_00
 go_enter Tryz.func182,Tryz.ntmps182
 go_wp2_with fail
 go_ret
 exact ⟨rfl,rfl⟩
theorem expr_column {cb b:Nat} {ia:Option Addr} {w:World} {P:Int->World->Prop} (hC:Calls Tryz.prog 221 #[.pointer (some ⟨cb,0,none⟩), .pointer (some ⟨b,0,none⟩), .pointer ia] w fun r w'=>∃ z,r = .returned (.int .i64 z)/\P z w') :
  Calls Tryz.prog 182 #[.pointer (some ⟨cb,0,none⟩), .iface 361 (.pointer (some ⟨b,0,none⟩)), .pointer ia] w fun r w'=>∃ z,r = .returned (.int .i64 z)/\P z w':=by
 have HC:=hid hC
 have t0:=te_10
 have t1:=te_11
 clear hC
 go_enter Tryz.func182,Tryz.ntmps182
 go_wp2_with fail
 refine HC.out.mono ?_
 rintro e w1 ⟨z,rfl,h⟩
 go_wp2_with fail
 go_ret
 exact ⟨_,rfl,h⟩
theorem expr_operation {cb b:Nat} {ia:Option Addr} {w:World} {P:Int->World->Prop} (hC:Calls Tryz.prog 222 #[.pointer (some ⟨cb,0,none⟩), .pointer (some ⟨b,0,none⟩), .pointer ia] w fun r w'=>∃ z,r = .returned (.int .i64 z)/\P z w') :
  Calls Tryz.prog 182 #[.pointer (some ⟨cb,0,none⟩), .iface 363 (.pointer (some ⟨b,0,none⟩)), .pointer ia] w fun r w'=>∃ z,r = .returned (.int .i64 z)/\P z w':=by
 have HC:=hid hC
 have t0:=te_20
 have t1:=te_21
 have t2:=te_22
 clear hC
 go_enter Tryz.func182,Tryz.ntmps182
 go_wp2_with fail
 refine HC.out.mono ?_
 rintro e w1 ⟨z,rfl,h⟩
 go_wp2_with fail
 go_ret
 exact ⟨_,rfl,h⟩
theorem expr_choice {cb b:Nat} {ia:Option Addr} {w:World} {P:Int->World->Prop} (hC:Calls Tryz.prog 223 #[.pointer (some ⟨cb,0,none⟩), .pointer (some ⟨b,0,none⟩), .pointer ia] w fun r w'=>∃ z,r = .returned (.int .i64 z)/\P z w') :
  Calls Tryz.prog 182 #[.pointer (some ⟨cb,0,none⟩), .iface 365 (.pointer (some ⟨b,0,none⟩)), .pointer ia] w fun r w'=>∃ z,r = .returned (.int .i64 z)/\P z w':=by
 have HC:=hid hC
 have t0:=te_30
 have t1:=te_31
 have t2:=te_32
 have t3:=te_33
 clear hC
 go_enter Tryz.func182,Tryz.ntmps182
 go_wp2_with fail
 refine HC.out.mono ?_
 rintro e w1 ⟨z,rfl,h⟩
 go_wp2_with fail
 go_ret
 exact ⟨_,rfl,h⟩
theorem expr_within {cb b:Nat} {ia:Option Addr} {w:World} {P:Int->World->Prop} (hC:Calls Tryz.prog 224 #[.pointer (some ⟨cb,0,none⟩), .pointer (some ⟨b,0,none⟩), .pointer ia] w fun r w'=>∃ z,r = .returned (.int .i64 z)/\P z w') :
  Calls Tryz.prog 182 #[.pointer (some ⟨cb,0,none⟩), .iface 367 (.pointer (some ⟨b,0,none⟩)), .pointer ia] w fun r w'=>∃ z,r = .returned (.int .i64 z)/\P z w':=by
 have HC:=hid hC
 have t0:=te_40
 have t1:=te_41
 have t2:=te_42
 have t3:=te_43
 have t4:=te_44
 clear hC
 go_enter Tryz.func182,Tryz.ntmps182
 go_wp2_with fail
 refine HC.out.mono ?_
 rintro e w1 ⟨z,rfl,h⟩
 go_wp2_with fail
 go_ret
 exact ⟨_,rfl,h⟩
theorem Cl6.of {w:World} {b:Nat} {t n:Sp.Bs} {a o sr:Nat} {ce:Int} (h:At w b [.string (bz t), .string (bz n), .int .i64 (a:Int), .int .i64 (o:Int), .int .i64 (sr:Int), .int .i64 ce]) (hf:∀ j,w.frozen? ⟨b,j,none⟩=false):Cl6 w b t n (a:Nat) (o:Nat) (sr:Nat) ce:=
 ⟨h.1,h.2 0 (by simp),h.2 1 (by simp),h.2 2 (by simp),h.2 3 (by simp),h.2 4 (by simp),h.2 5 (by simp),hf⟩
theorem Cl6.at_ {w:World} {b:Nat} {t n:Sp.Bs} {a o sr:Nat} {ce:Int} (h:Cl6 w b t n (a:Nat) (o:Nat) (sr:Nat) ce):At w b [.string (bz t), .string (bz n), .int .i64 (a:Int), .int .i64 (o:Int), .int .i64 (sr:Int), .int .i64 ce]:=by
 refine ⟨h.lt,fun j hj=>?_⟩
 match j,hj with
 | 0,_=>exact h.c0
 | 1,_=>exact h.c1
 | 2,_=>exact h.c2
 | 3,_=>exact h.c3
 | 4,_=>exact h.c4
 | 5,_=>exact h.c5
theorem ex_const (T:List Sp.Tb) (v:Sv.Val):ExC T (.const v):=by
 intro k cb m lo hi tv ev iv c lvs w he _ hr
 obtain ⟨b,rfl,l1,l2,hA⟩:=hr
 obtain ⟨ia,rfl⟩:=he.sc.ptr
 refine (expr_const (hA.2 0 (by simp))).mono ?_
 rintro r w' ⟨rfl,rfl⟩
 exact ⟨rfl,he.ck,⟨b,rfl,l1,l2,hA⟩,Fc.refl _ _ _ _⟩
theorem ex_col (T:List Sp.Tb) (t n:Sp.Bs) (a o sr:Nat) (ce:Int):ExC T (.col t n a o sr ce):=by
 intro k cb m lo hi tv ev iv c lvs w he hd hr
 obtain ⟨b,rfl,l1,l2,hA,hf⟩:=hr
 obtain ⟨ia,rfl⟩:=he.sc.ptr
 have h1:=he.klo
 have h2:=he.hic
 have h3:=he.cm
 simp only [Sp.Nd.dep] at hd
 refine (expr_column (P:=fun z w'=>z=(Sp.ck T (.col t n a o sr ce) lvs 0 c).1.headD 0/\CB cb tv (Sp.ck T (.col t n a o sr ce) lvs 0 c).2.1 w'/\Rp w' (Sp.ck T (.col t n a o sr ce) lvs 0 c).2.2 lo hi (.iface 361 (.pointer (some ⟨b,0,none⟩)))/\Fc cb lo hi w w')
  ((ccolumn_any he.ck he.kw (Cl6.of hA hf) he.sc (by omega) (by omega) (by omega) h3 (by omega)).mono ?_)).mono ?_
 ·rintro r w' ⟨o',sr',ce',e,rfl,hc,hcb,hfc⟩
  have hck:Sp.ck T (.col t n a o sr ce) lvs 0 c=([(Sp.column t n a 0 sr ce lvs c).1],(Sp.column t n a 0 sr ce lvs c).2.1,(Sp.column t n a 0 sr ce lvs c).2.2):=rfl
  refine ⟨_,rfl,by rw [hck];rfl,by rw [hck];exact hcb,?_,hfc.wide l1 l2⟩
  rw [hck,e]
  exact ⟨b,rfl,l1,l2,hc.at_,hc.fz⟩
 ·rintro r w' ⟨z,rfl,rfl,h⟩
  exact ⟨rfl,h⟩
theorem ex_op {T:List Sp.Tb} {N:Nat} {wd:Sp.Bs} {a:Nat} {args:Sp.Nd} (hN:N<=90000) (hw:Sp.wf N (.op wd a args) .expr) (hX:∀ n∈args.els,ExC T n):ExC T (.op wd a args):=by
 intro k cb m lo hi tv ev iv c lvs w he hd hr
 obtain ⟨_,hwa,hl,_⟩:=hw
 obtain ⟨b,sv,m1,m2,rfl,l1,l2,hS,hA,hI,hR⟩:=hr
 obtain ⟨ia,rfl⟩:=he.sc.ptr
 have h2:=he.hic
 simp only [Sp.Nd.dep] at hd
 have hck:Sp.ck T (.op wd a args) lvs 0 c=([(Sp.typeOf wd (Sp.ck T args lvs 0 c).1.dropLast).1],(if (Sp.typeOf wd (Sp.ck T args lvs 0 c).1.dropLast).2 then (Sp.ck T args lvs 0 c).2.1 else (Sp.ck T args lvs 0 c).2.1.fail 5 a), .op wd a (Sp.ck T args lvs 0 c).2.2):=rfl
 refine (expr_operation (P:=fun z w'=>z=(Sp.ck T (.op wd a args) lvs 0 c).1.headD 0/\CB cb tv (Sp.ck T (.op wd a args) lvs 0 c).2.1 w'/\Rp w' (Sp.ck T (.op wd a args) lvs 0 c).2.2 lo hi (.iface 363 (.pointer (some ⟨b,0,none⟩)))/\Fc cb lo hi w w')
  ((oper_any (exs_of hwa (by omega) hX) hwa he hd (fun c=>by rw [ck_list_len T N _ hwa];omega) ⟨l1,l2⟩ hS hA hI hR).mono ?_)).mono ?_
 ·rintro r w' ⟨rfl,hcb,hr',hfc⟩
  unfold Sub at hS
  refine ⟨_,rfl,by rw [hck];rfl,by rw [hck];exact hcb,?_,hfc.wide (by omega) (by omega)⟩
  rw [hck]
  exact ⟨b,sv,m1,m2,rfl,l1,l2,by unfold Sub;omega,hA.same hfc.size (hfc.block b hA.1 (by omega) (by omega)),hI,hr'⟩
 ·rintro r w' ⟨z,rfl,rfl,h⟩
  exact ⟨rfl,h⟩
theorem Ty.sb {w w' : World} {b:Nat} {t:TypeId} (h:Ty w b t) (s:Sb b w w'):Ty w' b t:=by
 obtain ⟨arr,fz,e⟩:=h
 exact ⟨arr,fz,s.trans e⟩
theorem ck_main (T:List Sp.Tb) (N:Nat) (hN:N<=90000):∀ nd:Sp.Nd,(Sp.wf N nd .expr->ExC T nd)/\(Sp.wf N nd .list->∀ n∈nd.els,ExC T n)/\(Sp.wf N nd .arms->∀ x∈nd.arl,ExC T x.2.1/\ExC T x.2.2.2)/\(Sp.wf N nd .cl->∀ a e,nd = .clause a e->ExC T e)/\(Sp.wf N nd .query->QuC T nd):=by
 intro nd
 induction nd with
 | nil=>exact ⟨fun h=>by simp [Sp.wf] at h,fun _ n hn=>by simp [Sp.Nd.els] at hn,fun _ x hx=>by simp [Sp.Nd.arl] at hx,fun _ _ _ e=>(by cases e),fun h=>by simp [Sp.wf] at h⟩
 | none=>exact ⟨fun h=>by simp [Sp.wf] at h,fun h=>by simp [Sp.wf] at h,fun h=>by simp [Sp.wf] at h,fun _ _ _ e=>(by cases e),fun h=>by simp [Sp.wf] at h⟩
 | cons h t ih1 ih2=>
  refine ⟨fun h=>by simp [Sp.wf] at h,fun hw n hn=>?_,fun h=>by simp [Sp.wf] at h,fun _ _ _ e=>(by cases e),fun h=>by simp [Sp.wf] at h⟩
  obtain ⟨_,h1,h2⟩:=hw
  simp only [Sp.Nd.els,List.mem_cons] at hn
  rcases hn with rfl | hn
  ·exact ih1.1 h1
  ·exact ih2.2.1 h2 n hn
 | clause a e ih=>
  refine ⟨fun h=>by simp [Sp.wf] at h,fun h=>by simp [Sp.wf] at h,fun h=>by simp [Sp.wf] at h,fun hw a' e' he=>?_,fun h=>by simp [Sp.wf] at h⟩
  injection he with h1 h2
  subst h2
  exact ih.1 hw.2
 | const v=>exact ⟨fun _=>ex_const T v,fun h=>by simp [Sp.wf] at h,fun h=>by simp [Sp.wf] at h,fun _ _ _ e=>(by cases e),fun h=>by simp [Sp.wf] at h⟩
 | col t n a o sr ce=>exact ⟨fun _=>ex_col T t n a o sr ce,fun h=>by simp [Sp.wf] at h,fun h=>by simp [Sp.wf] at h,fun _ _ _ e=>(by cases e),fun h=>by simp [Sp.wf] at h⟩
 | op wd a args ih=>exact ⟨fun hw=>ex_op hN hw (ih.2.1 hw.2.1),fun h=>by simp [Sp.wf] at h,fun h=>by simp [Sp.wf] at h,fun _ _ _ e=>(by cases e),fun h=>by simp [Sp.wf] at h⟩
 | kase arms els ih1 ih2=>exact ⟨fun h=>by simp [Sp.wf] at h,fun h=>by simp [Sp.wf] at h,fun h=>by simp [Sp.wf] at h,fun _ _ _ e=>(by cases e),fun h=>by simp [Sp.wf] at h⟩
 | arms wa e ta t r ih1 ih2 ih3=>
  refine ⟨fun h=>by simp [Sp.wf] at h,fun h=>by simp [Sp.wf] at h,fun hw x hx=>?_,fun _ _ _ e=>(by cases e),fun h=>by simp [Sp.wf] at h⟩
  obtain ⟨_,h1,h2,h3⟩:=hw
  simp only [Sp.Nd.arl,List.mem_cons] at hx
  rcases hx with rfl | hx
  ·exact ⟨ih1.1 h1,ih2.1 h2⟩
  ·exact ih3.2.2.1 h3 x hx
 | within wd a args q ih1 ih2=>exact ⟨fun h=>by simp [Sp.wf] at h,fun h=>by simp [Sp.wf] at h,fun h=>by simp [Sp.wf] at h,fun _ _ _ e=>(by cases e),fun h=>by simp [Sp.wf] at h⟩
 | comb wd a all p q ih1 ih2=>exact ⟨fun h=>by simp [Sp.wf] at h,fun h=>by simp [Sp.wf] at h,fun h=>by simp [Sp.wf] at h,fun _ _ _ e=>(by cases e),fun h=>by simp [Sp.wf] at h⟩
 | sel di st ex src wh ih1 ih2=>
  refine ⟨fun h=>by simp [Sp.wf] at h,fun h=>by simp [Sp.wf] at h,fun h=>by simp [Sp.wf] at h,fun _ _ _ e=>(by cases e),fun hw=>?_⟩
  have hw':=hw
  obtain ⟨_,hex,_,hwh⟩:=hw
  rcases hex with rfl | ⟨h1,h2,h3⟩
  ·exact sel_of hw' hN (fun e=>absurd rfl e) (ih2.2.2.2.1 hwh)
  ·exact sel_of hw' hN (fun _=>exs_of h3 (by omega) (ih1.2.1 h3)) (ih2.2.2.2.1 hwh)
def fillTo (t:Sp.Tb) (a:Nat) (tys:List Int) (c:Sp.CS) (j:Nat):Sp.CS:=((t.cols.zip tys).take j).foldl (fun c x=>(c.fit a [x.1.2,x.2]).2) c
theorem fill_step (t:Sp.Tb) (a:Nat) (tys:List Int) (c:Sp.CS) (j:Nat) (h1:j<t.cols.length) (h2:j<tys.length):fillTo t a tys c (j+1)=((fillTo t a tys c j).fit a [t.cols[j].2,tys[j]]).2:=by
 unfold fillTo
 have hz:j<(t.cols.zip tys).length:=by simp;omega
 rw [List.take_succ_eq_append_getElem hz,List.foldl_append]
 simp
theorem fill_any {cb k a:Nat} {tv v:Value} {c:Sp.CS} {w:World} {t:Sp.Tb} {tt:TV} {tys:List Int} (hc:CB cb tv c w) (hkw:k<=w.heap.size) (hkc:k<=cb) (ht:Tb1 k w t tt) (ho:Si w v tys) (hob:∀ b off n c,v = .slice (some ⟨b,off,none⟩) n c->b≠cb) (_hl:tys.length<=90000) :
  Calls Tryz.prog 179 #[.pointer (some ⟨cb,0,none⟩),enT tt, .int .i64 (a:Nat),v] w fun r w'=>r = .returned (.tuple #[])/\CB cb tv (Sp.fill t a tys c) w'/\Kept cb w w':=by
 obtain ⟨va,vc,rfl⟩:=ho.shape
 obtain ⟨tn,ca,cl,cc,ra,rl,rc⟩:=tt
 have hcw:=hc.lt
 have hcl:cl=t.cols.length:=by
  rcases ht.cols with ⟨e,_,h,_⟩ | ⟨b,off,_,h,_⟩
  ·simp only [] at h;rw [h,e];rfl
  ·exact h
 have hcn:=ht.colN
 rw [<- hcl] at hcn
 have HC:=hid hc
 have HT:=hid ht
 have HO:=hid ho
 have HOB:=hid hob
 have HCL:=hid hcl
 have hkw':=hid hkw
 obtain ⟨n,hn⟩:∃ n,n=tys.length:=⟨_,rfl⟩
 have HN:=hid hn
 rw [<- hn]
 clear hc ht ho hob hcl hkw hn
 show Calls Tryz.prog 179 #[.pointer (some ⟨cb,0,none⟩), .agg #[.string tn, .slice ca cl cc, .slice ra rl rc], .int .i64 (a:Nat), .slice va n vc] w _
 by_cases hq:n=cl
 ·have HV:Hid (Sp.fill t a tys c=fillTo t a tys c cl):=by
   show _=_
   unfold Sp.fill fillTo
   rw [if_neg (by have:=HN.out;have:=HCL.out;simp;omega),List.take_of_length_le (by have:=HN.out;have:=HCL.out;simp;omega)]
  have HNE:=hid hq
  have hne:((n:Int) != (cl:Int))=false:=by simp [hq]
  have hB0:=hid (B3.new w (.string tn) (.slice ca cl cc) (.slice ra rl rc) 187)
  clear hq
  go_enter Tryz.func179,Tryz.ntmps179
  go_wp2_with fail
  go_loopw [22] (fun i wr=>∃ j:Nat,j<=cl/\i = .int .i64 (j:Nat)/\Hid (CB cb tv (fillTo t a tys c j) wr)/\Hid (Kept cb w wr)) (fun i _=>cl - (intOf i).toNat)
  case atStart=>exact ⟨0,Nat.zero_le _,rfl,HC.out.alloc _,(Kept.refl cb w).alloc _⟩
  case round=>
   obtain ⟨j,hj,rfl,HCr,HK⟩:=hrel
   have hwr:=HK.out.size
   by_cases hlt:j<cl
   ·have hj1:j<t.cols.length:=by have:=HCL.out;omega
    have hj2:j<tys.length:=by have:=HNE.out;have:=HN.out;omega
    have HS:=hid (fill_step t a tys c j hj1 hj2)
    obtain ⟨cbk,cof,e1,hck,hcols⟩:∃ b off,ca=some ⟨b,off,none⟩/\b<k/\Cols w b off (t.cols.map fun x=>(bz x.1,x.2)):=by
     rcases HT.out.cols with ⟨e,_⟩ | ⟨b,off,h1,_,h3,h4⟩
     ·rw [e] at hj1;simp at hj1
     ·exact ⟨b,off,h1,h3,h4⟩
    subst e1
    obtain ⟨g,go,gc,e2,hH⟩:∃ g o c,(Value.slice va tys.length vc) = .slice (some ⟨g,o,none⟩) tys.length c/\Hi w g o tys:=by
     rcases HO.out with ⟨_,h⟩ | h
     ·rw [h] at hj2;simp at hj2
     ·exact h
    injection e2 with e2 _ e3
    subst e2 e3
    have hgc:=HOB.out g go _ _ rfl
    have hkk:=hkw'.out
    have x0:=(HK.out.cell (p:=⟨cbk,cof+j*2,none⟩) (by show cbk<_;omega) (by show cbk≠cb;omega)).trans (hcols.n j (by simpa using hj1))
    have x1:=(HK.out.cell (p:=⟨cbk,cof+j*2+1,none⟩) (by show cbk<_;omega) (by show cbk≠cb;omega)).trans (hcols.t j (by simpa using hj1))
    have x2:=(HK.out.cell (p:=⟨g,go+j,none⟩) hH.lb hgc).trans (hH.n j hj2)
    have hgl:=hH.lb
    simp only [List.getElem_map] at x0 x1
    have hi2:(j:Int)<(n:Int):=by have:=HNE.out;omega
    clear hH hcols
    generalize fillTo t a tys c j=Z at *
    generalize bz t.cols[j].1=cn at *
    generalize t.cols[j].2=ct at *
    generalize tys[j]=ty at *
    have hq9:wr.heap.size<(wr.alloc (.cells #[.string cn, .int .i64 ct] 264)).heap.size:=by simp
    have q1:(wr.alloc (.cells #[.string cn, .int .i64 ct] 264)).cell? ⟨wr.heap.size,1,none⟩=some (.int .i64 ct):=by simp
    have q2:=(((Gr.refl wr).alloc (.cells #[.string cn, .int .i64 ct] 264)).cell (p:=⟨g,go+j,none⟩) (by show g<_;omega)).trans x2
    have hff:=(expectFit_any (HCr.out.gr ((((Gr.refl wr).alloc (.cells #[.string cn, .int .i64 ct] 264)).alloc (.cells #[.int .i64 ct, .int .i64 ty] 3)).drew)) a ((si_two (wr.alloc (.cells #[.string cn, .int .i64 ct] 264)) ct ty).gr ((Gr.refl _).drew)) (by simp))
    simp only [World.size_alloc] at hff
    have HF:=hid hff
    clear hff
    have KA:=hid (Kept.gr (b:=cb) ((((Gr.refl wr).alloc (.cells #[.string cn, .int .i64 ct] 264)).alloc (.cells #[.int .i64 ct, .int .i64 ty] 3)).drew))
    go_wp2_with fail
    go_region_held3 (fun w'=>w'.cell? ⟨wr.heap.size,1,none⟩=some (.int .i64 ct)/\w'.cell? ⟨g,go+j,none⟩=some (.int .i64 ty)) (first | go_keep | exact ⟨q1,q2⟩ | exact ⟨y1,y2⟩) ((go_at_call 181;refine HF.out.mono ?_;rintro e4 w4 ⟨rfl,h4,k4⟩;have k4':=KA.out.trans k4;have y2:=(k4'.cell (p:=⟨g,go+j,none⟩) (by show g<_;omega) hgc).trans x2;have y1:w4.cell? ⟨wr.heap.size,1,none⟩=some (.int .i64 ct):=(k4.cell (p:=⟨wr.heap.size,1,none⟩) (by simp;omega) (by show wr.heap.size≠cb;omega)).trans ((((Gr.refl _).alloc _).drew.cell (p:=⟨wr.heap.size,1,none⟩) hq9).trans q1)))
    have HX:=hid (And.intro h4 (HK.out.trans k4'))
    clear h4 k4 k4' y1 y2 x0 x1 x2 q1 q2 HF
    go_wp2_with fail
    go_roundw
    case rel=>exact ⟨j+1,by omega,by go_num,by rw [HS.out];exact HX.out.1,HX.out.2⟩
    case measure=>simp [intOf];omega
   ·have hjc:Hid (j=cl):=by show _=_;omega
    go_wp2_with fail
    go_end0
    exact ⟨rfl,by rw [HV.out,<- hjc.out];exact HCr.out,HK.out⟩
 ·have HV:Hid (Sp.fill t a tys c=c.fail 6 a):=by
   show _=_
   unfold Sp.fill
   rw [if_pos (by have:=HN.out;have:=HCL.out;simp;omega)]
  have hne:((n:Int) != (cl:Int))=true:=by simp;omega
  go_enter Tryz.func179,Tryz.ntmps179
  go_wp2_with fail
  refine (cfail_any (HC.out.alloc _) 6 a).mono ?_
  rintro e w1 ⟨rfl,h1,k1⟩
  go_wp2_with fail
  exact bodyPost_ret (results_none rfl _ _ _) rfl ⟨rfl,by rw [HV.out];exact h1,((Kept.refl cb w).alloc _).trans k1⟩
end Go.Proofs.YtgnncnhkgmhngaaGreatDoor
