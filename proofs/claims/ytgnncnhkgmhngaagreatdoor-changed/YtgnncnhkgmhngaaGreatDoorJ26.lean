import Derived.Test.YtgnncnhkgmhngaaGreatDoorJ25
set_option maxHeartbeats 4000000
set_option maxRecDepth 100000
namespace Go.Proofs.YtgnncnhkgmhngaaGreatDoor
open Sp
open Tryz
open Go.RowKit Go.Sort
theorem OF (v:Option Addr) (w:World):Sem.run prog (Instr.typeAssert (.iface 278 (.pointer v)) 179 278 true) w = .ok (.tuple #[.pointer v, .bool true]) w:=by kernel_rfl
theorem OG (v:Option Addr) (w:World):Sem.run prog (Instr.typeAssert (.iface 280 (.pointer v)) 179 278 true) w = .ok (.tuple #[.pointer none, .bool false]) w:=by kernel_rfl
theorem OH (v:Option Addr) (w:World):Sem.run prog (Instr.typeAssert (.iface 280 (.pointer v)) 179 280 true) w = .ok (.tuple #[.pointer v, .bool true]) w:=by kernel_rfl
theorem H9 {cb b:Nat} {iv:Value} {ia:Option Addr} {w:World} {P:Value->World->Prop} (hiv:iv = .pointer ia) (hC:Calls prog 184 #[.pointer (some ⟨cb,0,none⟩), .pointer (some ⟨b,0,none⟩),iv] w λr w'=>∃ v,r = .returned v/\P v w') :
  Calls prog 141 #[.pointer (some ⟨cb,0,none⟩), .iface 278 (.pointer (some ⟨b,0,none⟩)),iv] w λr w'=>∃ v,r = .returned v/\P v w':=by
 subst hiv
 have HC:=hid hC
 have t1:=OF
 have t2:=OG
 have t3:=OH
 clear hC
 go_enter func141,ntmps141
 go_wp2_with fail
 refine HC.out.mono ?_
 rintro e w1 ⟨v,rfl,h⟩
 go_wp2_with fail
 go_ret
 exact ⟨_,rfl,h⟩
theorem P1 {cb b:Nat} {iv:Value} {ia:Option Addr} {w:World} {P:Value->World->Prop} (hiv:iv = .pointer ia) (hC:Calls prog 185 #[.pointer (some ⟨cb,0,none⟩), .pointer (some ⟨b,0,none⟩),iv] w λr w'=>∃ v,r = .returned v/\P v w') :
  Calls prog 141 #[.pointer (some ⟨cb,0,none⟩), .iface 280 (.pointer (some ⟨b,0,none⟩)),iv] w λr w'=>∃ v,r = .returned v/\P v w':=by
 subst hiv
 have HC:=hid hC
 have t1:=OF
 have t2:=OG
 have t3:=OH
 clear hC
 go_enter func141,ntmps141
 go_wp2_with fail
 refine HC.out.mono ?_
 rintro e w1 ⟨v,rfl,h⟩
 go_wp2_with fail
 go_ret
 exact ⟨_,rfl,h⟩
theorem nG (T:List Sp.Tb) (N:Nat) (nd:Nd) (hw:wf N nd .list) (aC:List Sp.Lv) (c:CS):(Sp.ck T nd aC 0 c).1.dropLast.length=nd.len:=by
 obtain ⟨e1,e2,e3⟩:=iT N nd hw
 have h:=Ad T N aC nd.els c e3
 rw [<- e1] at h
 rw [h]
 simp [(tK T aC nd.els c).1,e2]
theorem Ca (x:Sp.Bs):∀ (T:List Sp.Tb) (t:Sp.Tb),aG x T=some t->t∈T
 | [],t,h=>by cases h
 | u::T,t,h=>by
  rw [aG] at h
  split at h
  ·injection h with h;simp [h]
  ·simp [Ca x T t h]
theorem yI (T:List Sp.Tb) (P:Sp.Tb->Prop) (h0:P jB) (hT:∀ t∈T,P t):∀ (src:List (Nm×Nm)) (lv:Sp.Lv) (c:CS),(∀ x∈lv,P x.2)->(∀ x∈(bI T src lv c).1,P x.2)/\(bI T src lv c).1.length=lv.length+src.length
 | [],lv,c,h=>⟨h,rfl⟩
 | (t,k)::r,lv,c,h=>by
  have hn:P ((aG t.1 T).getD jB):=by
   cases hf:aG t.1 T with
   | none=>exact h0
   | some u=>exact hT u (Ca _ _ _ hf)
  have ih:=yI T P h0 hT r (lv ++ [(k.1,(aG t.1 T).getD jB)]) (if lv.any (λx=>x.1 == k.1) then (match aG t.1 T with | some _=>c | none=>c.fail 4 t.2).fail 4 k.2 else (match aG t.1 T with | some _=>c | none=>c.fail 4 t.2)) (λx hx=>by
   rw [List.mem_append,List.mem_singleton] at hx
   rcases hx with hx | rfl
   ·exact h x hx
   ·exact hn)
  rw [bI]
  refine ⟨ih.1,ih.2.trans ?_⟩
  simp;omega
theorem DA.all {k:Nat} {w:World} : ∀ {T:List Sp.Tb} {V:List TV},DA k w T V->∀ t∈T,t.cols.length<=50
 | [], [],_,t,ht=>by simp at ht
 | u::T,v::V,h,t,ht=>by
  rw [List.mem_cons] at ht
  rcases ht with rfl | ht
  ·exact h.1.iI
  ·exact DA.all h.2 t ht
 | [],_::_,h,_,_=>h.elim
 | _::_, [],h,_,_=>h.elim
theorem sD.all {k:Nat} {w:World} {T:List Sp.Tb} {v:Value} (h:sD k w T v):∀ t∈T,t.cols.length<=50:=by
 rcases h.2.2 with ⟨rfl,_⟩ | ⟨b,off,c,V,_,_,_,h4⟩
 ·intro t ht;simp at ht
 ·exact h4.all
theorem Ku {T:List Sp.Tb} {N:Nat} {di:Bool} {st:Nat} {ex:Nd} {src:List (Nm×Nm)} {wh:Nd} (hw:wf N (.sel di st ex src wh) .query) (hN:N<=90000) (hX:ex ≠ .none->MW T ex) (hW:∀ a e,wh = .clause a e->sH T e):XD T (.sel di st ex src wh):=by
 intro k cb m lo hi tv qv iv c aC w he hd hr
 obtain ⟨_,hex,hsl,hwh⟩:=hw
 obtain ⟨b,xv,fv,wv,m1,m2,m3,m4,rfl,hb1,hb2,hS,hS2,hA,hxi,hxr,hfr,hn,hrw⟩:=hr
 obtain ⟨ia,rfl⟩:=he.sc.ptr
 unfold Sub at hS hS2
 have hcw:=he.ck.lt
 have DD:=he.hic
 have hcm:=he.cm
 have hkl:=he.Rc
 simp only [Nd.dep] at hd
 have b1:=hA.k1
 have b2:=hA.k2
 have b3:=hA.k3
 have b4:=hA.k4
 have hbw:=hA.1
 have hsv:Vt w src fv:=by
  rcases hfr with h | ⟨blk,c,e,_,_,_,hl,hs⟩
  ·exact .inl h
  ·exact .inr ⟨blk,c,e,hl,hs⟩
 have hfi:xR m2 m3 fv:=by
  rcases hfr with ⟨_,rfl⟩ | ⟨blk,c,rfl,_,h1,h2,_⟩
  ·intro blk off n c e;cases e
  ·intro blk' off n c e;injection e with e1;injection e1 with e1;injection e1 with e1;subst e1;exact ⟨h1,h2⟩
 have hW' : wh = .none\/∃ a e,wh = .clause a e/\sH T e/\aC.length+1+e.dep<=100000:=by
  cases wh with
  | none=>exact .inl rfl
  | clause a e=>exact .inr ⟨a,e,rfl,hW a e rfl,by simp only [Nd.dep] at hd;omega⟩
  | nil=>simp [wf] at hwh
  | cons _ _=>simp [wf] at hwh
  | const _=>simp [wf] at hwh
  | col _ _ _ _ _ _=>simp [wf] at hwh
  | op _ _ _=>simp [wf] at hwh
  | b8 _ _=>simp [wf] at hwh
  | arms _ _ _ _ _=>simp [wf] at hwh
  | within _ _ _ _=>simp [wf] at hwh
  | comb _ _ _ _ _=>simp [wf] at hwh
  | sel _ _ _ _ _=>simp [wf] at hwh
 have hmm:lo<=m1/\m1<=m2/\m2<=m3/\m3<=m4/\m4<=hi/\¬ (m1<=b/\b<m2)/\¬ (m3<=b/\b<m4):=by omega
 have hfin:∀ (ex' : Nd) (iZ:List Int) (c2:CS),iZ.length<=90000->Sp.ck T (.sel di st ex src wh) aC 0 c=(iZ,VB T wh ((bI T src [] c).1::aC) c2, .sel di st ex' src (Sp.ck T wh ((bI T src [] c).1::aC) 0 c2).2.2)->((ex = .none)↔(ex' = .none))->
   (∀ w1 v,En T k cb m tv ((bI T src [] c).2.note ((bI T src [] c).1::aC)) ((bI T src [] c).1::aC) v lo hi w1->Kept cb w w1->Calls prog 228 #[.pointer (some ⟨cb,0,none⟩), .pointer (some ⟨b,0,none⟩),v] w1 λr w'=>∃ v',r = .returned v'/\fB w1.heap.size w' v' iZ/\CB cb tv c2 w'/\Rg w' ex' m1 m2 xv/\Fc cb m1 m2 w1 w')->
   Calls prog 141 #[.pointer (some ⟨cb,0,none⟩), .iface 278 (.pointer (some ⟨b,0,none⟩)), .pointer ia] w λr w'=>∃ v,r = .returned v/\fB w.heap.size w' v (Sp.ck T (.sel di st ex src wh) aC 0 c).1/\(Sp.ck T (.sel di st ex src wh) aC 0 c).1.length<=90000/\CB cb tv (Sp.ck T (.sel di st ex src wh) aC 0 c).2.1 w'/\Rp w' (Sp.ck T (.sel di st ex src wh) aC 0 c).2.2 lo hi (.iface 278 (.pointer (some ⟨b,0,none⟩)))/\Fc cb lo hi w w':=by
  intro ex' iZ c2 hlen hck hno hC
  rw [hck]
  refine H9 rfl ((Kt hW' he hsv hsl ⟨hb1,hb2⟩ hmm hfi hxi b3 b4 hbw hn hrw hC).mono ?_)
  rintro r w' ⟨v',rfl,o,h,x,Zm,f,sb,mid⟩
  refine ⟨v',rfl,o,hlen,h,?_,f.wide (by omega) (by omega)⟩
  have hs:=f.size
  refine ⟨b,xv,fv,wv,m1,m2,m3,m4,rfl,hb1,hb2,by unfold Sub;omega,by unfold Sub;omega,hA.same hs sb,hxi,x,?_,hn,Zm⟩
  rcases hfr with h | ⟨blk,c,e,hne,l1,l2,l3,hs'⟩
  ·exact .inl h
  ·exact .inr ⟨blk,c,e,hne,l1,l2,b6 l3 hs,hs'.same (mid blk l1 l2)⟩
 have SK:=yI T (λt=>t.cols.length<=50) (by simp [jB]) he.tb.all src [] c (λx hx=>by simp at hx)
 rcases hex with rfl | ⟨hl1,hl2,hwx⟩
 ·obtain rfl:xv = .slice none 0 0:=by
   rcases hxr with h | h
   ·exact h.2
   ·exact absurd rfl h.1
  refine hfin .none (lQ (bI T src [] c).1) (if src.isEmpty then ((bI T src [] c).2.note ((bI T src [] c).1::aC)).fail 6 st else (bI T src [] c).2.note ((bI T src [] c).1::aC)) ?_ (by cases wh <;> rfl) Iff.rfl ?_
  ·have:=BF (bI T src [] c).1 SK.1 (bI T src [] c).1.length
   rw [tD (aF _),SK.2] at this
   simp at this
   omega
  ·intro w1 v h1 k1
   have hc:∀ o,w1.cell? ⟨b,o,none⟩=w.cell? ⟨b,o,none⟩:=λo=>k1.cell (p:=⟨b,o,none⟩) hbw (by show b≠cb;omega)
   refine (Ah (src:=src) (st:=st) (fv:=fv) h1.ck h1.kw h1.sc (by omega) hcm (b6 hbw k1.size) (by omega) ((hc 1).trans b1) ((hc 2).trans b2) ((hc 3).trans b3) ?_).mono ?_
   ·rcases hfr with h | ⟨blk,c,e,hne,_⟩
    ·exact .inl h
    ·exact .inr ⟨hne,_,_,_,e⟩
   ·rintro r w' ⟨v',rfl,o,hc',k'⟩
    exact ⟨v',rfl,o,hc', .inl ⟨rfl,rfl⟩,Fc.of k'⟩
 ·obtain ⟨h,t,rfl⟩:∃ h t,ex = .cons h t:=by
   cases ex with
   | cons h t=>exact ⟨h,t,rfl⟩
   | nil=>simp [Nd.len] at hl1
   | none=>simp [wf] at hwx
   | clause _ _=>simp [wf] at hwx
   | const _=>simp [wf] at hwx
   | col _ _ _ _ _ _=>simp [wf] at hwx
   | op _ _ _=>simp [wf] at hwx
   | b8 _ _=>simp [wf] at hwx
   | arms _ _ _ _ _=>simp [wf] at hwx
   | within _ _ _ _=>simp [wf] at hwx
   | comb _ _ _ _ _=>simp [wf] at hwx
   | sel _ _ _ _ _=>simp [wf] at hwx
  have SL : Rp w (.cons h t) m1 m2 xv:=by
   rcases hxr with h | h
   ·cases h.1
   ·exact h.2
  have hsh:=SL
  obtain ⟨blk,off,n,cp,v0,p1,p2,rfl,hbl,_⟩:=hsh
  refine hfin (Sp.ck T (.cons h t) ((bI T src [] c).1::aC) 0 ((bI T src [] c).2.note ((bI T src [] c).1::aC))).2.2 (Sp.ck T (.cons h t) ((bI T src [] c).1::aC) 0 ((bI T src [] c).2.note ((bI T src [] c).1::aC))).1.dropLast (Sp.ck T (.cons h t) ((bI T src [] c).1::aC) 0 ((bI T src [] c).2.note ((bI T src [] c).1::aC))).2.1 ?_ (by cases wh <;> rfl) (by constructor <;> (intro e;cases e)) ?_
  ·rw [nG T N _ hwx];omega
  ·intro w1 v h1 k1
   obtain ⟨ja,rfl⟩:=h1.sc.ptr
   have hbx:=hxi blk off (n+1) cp rfl
   have hc:∀ o,w1.cell? ⟨b,o,none⟩=w.cell? ⟨b,o,none⟩:=λo=>k1.cell (p:=⟨b,o,none⟩) hbw (by show b≠cb;omega)
   refine (wY (P:=λw'=>Rp w' (Sp.ck T (.cons h t) ((bI T src [] c).1::aC) 0 ((bI T src [] c).2.note ((bI T src [] c).1::aC))).2.2 m1 m2 (.slice (some ⟨blk,off,none⟩) (n+1) cp)) rfl ((hc 2).trans b2) (hX (by intro e;cases e) k cb m m1 m2 tv _ (.pointer ja) _ _ w1 (h1.part (by omega) (by omega)) (by simp;omega) (SL.frame k1.size _ _ _ _ (λu u1 u2=>k1.block u (by omega) (by omega)) (λblk' off' n' c' e=>k1.block blk' (by have:=hxi blk' off' n' c' e;omega) (by have:=hxi blk' off' n' c' e;omega))) (λblk' off' n' c' e=>by have:=hxi blk' off' n' c' e;omega))).mono ?_
   rintro r w' ⟨v',rfl,o,hc',hr',f'⟩
   exact ⟨v',rfl,o,hc', .inr ⟨(by intro e;cases e),hr'⟩,f'⟩
theorem OI (v:Option Addr) (w:World):Sem.run prog (Instr.typeAssert (.iface 358 (.pointer v)) 242 358 true) w = .ok (.tuple #[.pointer v, .bool true]) w:=by kernel_rfl
theorem OJ (v:Option Addr) (w:World):Sem.run prog (Instr.typeAssert (.iface 361 (.pointer v)) 242 358 true) w = .ok (.tuple #[.pointer none, .bool false]) w:=by kernel_rfl
theorem OK (v:Option Addr) (w:World):Sem.run prog (Instr.typeAssert (.iface 361 (.pointer v)) 242 361 true) w = .ok (.tuple #[.pointer v, .bool true]) w:=by kernel_rfl
theorem OL (v:Option Addr) (w:World):Sem.run prog (Instr.typeAssert (.iface 363 (.pointer v)) 242 358 true) w = .ok (.tuple #[.pointer none, .bool false]) w:=by kernel_rfl
theorem OM (v:Option Addr) (w:World):Sem.run prog (Instr.typeAssert (.iface 363 (.pointer v)) 242 361 true) w = .ok (.tuple #[.pointer none, .bool false]) w:=by kernel_rfl
theorem ON (v:Option Addr) (w:World):Sem.run prog (Instr.typeAssert (.iface 363 (.pointer v)) 242 363 true) w = .ok (.tuple #[.pointer v, .bool true]) w:=by kernel_rfl
theorem OO (v:Option Addr) (w:World):Sem.run prog (Instr.typeAssert (.iface 365 (.pointer v)) 242 358 true) w = .ok (.tuple #[.pointer none, .bool false]) w:=by kernel_rfl
theorem OP (v:Option Addr) (w:World):Sem.run prog (Instr.typeAssert (.iface 365 (.pointer v)) 242 361 true) w = .ok (.tuple #[.pointer none, .bool false]) w:=by kernel_rfl
theorem OQ (v:Option Addr) (w:World):Sem.run prog (Instr.typeAssert (.iface 365 (.pointer v)) 242 363 true) w = .ok (.tuple #[.pointer none, .bool false]) w:=by kernel_rfl
theorem OR (v:Option Addr) (w:World):Sem.run prog (Instr.typeAssert (.iface 365 (.pointer v)) 242 365 true) w = .ok (.tuple #[.pointer v, .bool true]) w:=by kernel_rfl
theorem EF {cb b:Nat} {ia:Option Addr} {z:Int} {w:World} (h:w.cell? ⟨b,0,none⟩=some (.int .i64 z)) :
  Calls prog 182 #[.pointer (some ⟨cb,0,none⟩), .iface 358 (.pointer (some ⟨b,0,none⟩)), .pointer ia] w λr w'=>r = .returned (.int .i64 z)/\w'=w:=by
 have t0:=OI
 go_enter func182,ntmps182
 go_wp2_with fail
 go_ret
 exact ⟨rfl,rfl⟩
theorem Cb {cb b:Nat} {ia:Option Addr} {w:World} {P:Int->World->Prop} (hC:Calls prog 221 #[.pointer (some ⟨cb,0,none⟩), .pointer (some ⟨b,0,none⟩), .pointer ia] w λr w'=>∃ z,r = .returned (.int .i64 z)/\P z w') :
  Calls prog 182 #[.pointer (some ⟨cb,0,none⟩), .iface 361 (.pointer (some ⟨b,0,none⟩)), .pointer ia] w λr w'=>∃ z,r = .returned (.int .i64 z)/\P z w':=by
 have HC:=hid hC
 have t0:=OJ
 have t1:=OK
 clear hC
 go_enter func182,ntmps182
 go_wp2_with fail
 refine HC.out.mono ?_
 rintro e w1 ⟨z,rfl,h⟩
 go_wp2_with fail
 go_ret
 exact ⟨_,rfl,h⟩
theorem vD {cb b:Nat} {ia:Option Addr} {w:World} {P:Int->World->Prop} (hC:Calls prog 222 #[.pointer (some ⟨cb,0,none⟩), .pointer (some ⟨b,0,none⟩), .pointer ia] w λr w'=>∃ z,r = .returned (.int .i64 z)/\P z w') :
  Calls prog 182 #[.pointer (some ⟨cb,0,none⟩), .iface 363 (.pointer (some ⟨b,0,none⟩)), .pointer ia] w λr w'=>∃ z,r = .returned (.int .i64 z)/\P z w':=by
 have HC:=hid hC
 have t0:=OL
 have t1:=OM
 have t2:=ON
 clear hC
 go_enter func182,ntmps182
 go_wp2_with fail
 refine HC.out.mono ?_
 rintro e w1 ⟨z,rfl,h⟩
 go_wp2_with fail
 go_ret
 exact ⟨_,rfl,h⟩
theorem Cc {cb b:Nat} {ia:Option Addr} {w:World} {P:Int->World->Prop} (hC:Calls prog 223 #[.pointer (some ⟨cb,0,none⟩), .pointer (some ⟨b,0,none⟩), .pointer ia] w λr w'=>∃ z,r = .returned (.int .i64 z)/\P z w') :
  Calls prog 182 #[.pointer (some ⟨cb,0,none⟩), .iface 365 (.pointer (some ⟨b,0,none⟩)), .pointer ia] w λr w'=>∃ z,r = .returned (.int .i64 z)/\P z w':=by
 have HC:=hid hC
 have t0:=OO
 have t1:=OP
 have t2:=OQ
 have t3:=OR
 clear hC
 go_enter func182,ntmps182
 go_wp2_with fail
 refine HC.out.mono ?_
 rintro e w1 ⟨z,rfl,h⟩
 go_wp2_with fail
 go_ret
 exact ⟨_,rfl,h⟩
theorem o9.of {w:World} {b:Nat} {t n:Sp.Bs} {a o sr:Nat} {ce:Int} (h:At w b [.string (bz t), .string (bz n), .int .i64 (a:Int), .int .i64 (o:Int), .int .i64 (sr:Int), .int .i64 ce]) (hf:∀ j,w.frozen? ⟨b,j,none⟩=false):o9 w b t n (a:Nat) (o:Nat) (sr:Nat) ce:=
 ⟨h.1,h.2 0 (by simp),h.2 1 (by simp),h.2 2 (by simp),h.2 3 (by simp),h.2 4 (by simp),h.2 5 (by simp),hf⟩
theorem o9.at_ {w:World} {b:Nat} {t n:Sp.Bs} {a o sr:Nat} {ce:Int} (h:o9 w b t n (a:Nat) (o:Nat) (sr:Nat) ce):At w b [.string (bz t), .string (bz n), .int .i64 (a:Int), .int .i64 (o:Int), .int .i64 (sr:Int), .int .i64 ce]:=by
 refine ⟨h.lt,λj hj=>?_⟩
 match j,hj with
 | 0,_=>exact h.c0
 | 1,_=>exact h.c1
 | 2,_=>exact h.c2
 | 3,_=>exact h.c3
 | 4,_=>exact h.c4
 | 5,_=>exact h.c5
theorem Kv (T:List Sp.Tb) (v:Sv.Val):sH T (.const v):=by
 intro k cb m lo hi tv ev iv c aC w he _ hr
 obtain ⟨b,rfl,l1,l2,hA⟩:=hr
 obtain ⟨ia,rfl⟩:=he.sc.ptr
 refine (EF (hA.2 0 (by simp))).mono ?_
 rintro r w' ⟨rfl,rfl⟩
 exact ⟨rfl,he.ck,⟨b,rfl,l1,l2,hA⟩,Fc.refl _ _ _ _⟩
theorem P2 (T:List Sp.Tb) (t n:Sp.Bs) (a o sr:Nat) (ce:Int):sH T (.col t n a o sr ce):=by
 intro k cb m lo hi tv ev iv c aC w he hd hr
 obtain ⟨b,rfl,l1,l2,hA,hf⟩:=hr
 obtain ⟨ia,rfl⟩:=he.sc.ptr
 have h1:=he.Rc
 have h2:=he.hic
 have h3:=he.cm
 simp only [Nd.dep] at hd
 refine (Cb (P:=λz w'=>z=(Sp.ck T (.col t n a o sr ce) aC 0 c).1.headD 0/\CB cb tv (Sp.ck T (.col t n a o sr ce) aC 0 c).2.1 w'/\Rp w' (Sp.ck T (.col t n a o sr ce) aC 0 c).2.2 lo hi (.iface 361 (.pointer (some ⟨b,0,none⟩)))/\Fc cb lo hi w w')
  ((B0 he.ck he.kw (o9.of hA hf) he.sc (by omega) (by omega) (by omega) h3 (by omega)).mono ?_)).mono ?_
 ·rintro r w' ⟨o',Vo,Vp,e,rfl,hc,hcb,hfc⟩
  have hck:Sp.ck T (.col t n a o sr ce) aC 0 c=([(column t n a 0 sr ce aC c).1],(column t n a 0 sr ce aC c).2.1,(column t n a 0 sr ce aC c).2.2):=rfl
  refine ⟨_,rfl,by rw [hck];rfl,by rw [hck];exact hcb,?_,hfc.wide l1 l2⟩
  rw [hck,e]
  exact ⟨b,rfl,l1,l2,hc.at_,hc.fz⟩
 ·rintro r w' ⟨z,rfl,rfl,h⟩
  exact ⟨rfl,h⟩
theorem SM {T:List Sp.Tb} {N:Nat} {wd:Sp.Bs} {a:Nat} {args:Nd} (hN:N<=90000) (hw:wf N (.op wd a args) .expr) (hX:∀ n∈args.els,sH T n):sH T (.op wd a args):=by
 intro k cb m lo hi tv ev iv c aC w he hd hr
 obtain ⟨_,Mf,hl,_⟩:=hw
 obtain ⟨b,sv,m1,m2,rfl,l1,l2,hS,hA,hI,hR⟩:=hr
 obtain ⟨ia,rfl⟩:=he.sc.ptr
 have h2:=he.hic
 simp only [Nd.dep] at hd
 have hck:Sp.ck T (.op wd a args) aC 0 c=([(typeOf wd (Sp.ck T args aC 0 c).1.dropLast).1],(if (typeOf wd (Sp.ck T args aC 0 c).1.dropLast).2 then (Sp.ck T args aC 0 c).2.1 else (Sp.ck T args aC 0 c).2.1.fail 5 a), .op wd a (Sp.ck T args aC 0 c).2.2):=rfl
 refine (vD (P:=λz w'=>z=(Sp.ck T (.op wd a args) aC 0 c).1.headD 0/\CB cb tv (Sp.ck T (.op wd a args) aC 0 c).2.1 w'/\Rp w' (Sp.ck T (.op wd a args) aC 0 c).2.2 lo hi (.iface 363 (.pointer (some ⟨b,0,none⟩)))/\Fc cb lo hi w w')
  ((Kr (ED Mf (by omega) hX) Mf he hd (λc=>by rw [nG T N _ Mf];omega) ⟨l1,l2⟩ hS hA hI hR).mono ?_)).mono ?_
 ·rintro r w' ⟨rfl,hcb,hr',hfc⟩
  unfold Sub at hS
  refine ⟨_,rfl,by rw [hck];rfl,by rw [hck];exact hcb,?_,hfc.wide (by omega) (by omega)⟩
  rw [hck]
  exact ⟨b,sv,m1,m2,rfl,l1,l2,by unfold Sub;omega,hA.same hfc.size (hfc.block b hA.1 (by omega) (by omega)),hI,hr'⟩
 ·rintro r w' ⟨z,rfl,rfl,h⟩
  exact ⟨rfl,h⟩
theorem Ty.sb {w w' : World} {b:Nat} {t:TypeId} (h:Ty w b t) (s:Sb b w w'):Ty w' b t:=by
 obtain ⟨arr,fz,e⟩:=h
 exact ⟨arr,fz,s.trans e⟩
theorem MZ {T:List Sp.Tb} {N:Nat} {arms els:Nd} (hN:N<=90000) (hw:wf N (.b8 arms els) .expr) (hX:∀ x∈arms.wX,sH T x.2.1/\sH T x.2.2.2) (hY:∀ a e,els = .clause a e->sH T e):sH T (.b8 arms els):=by
 intro k cb m lo hi tv ev iv c aC w he hd hr
 obtain ⟨_,Mf,hl,hwe⟩:=hw
 obtain ⟨b,av,ev,m1,m2,m3,rfl,l1,l2,hm,⟨hT,hbm⟩,hA,hI,hR,hn,hR2⟩:=hr
 obtain ⟨ia,rfl⟩:=he.sc.ptr
 have h2:=he.hic
 simp only [Nd.dep] at hd
 obtain ⟨e1,e2,e3⟩:=vC N arms Mf
 have hel:els = .none\/∃ a e,els = .clause a e:=by
  cases els with
  | none=>exact .inl rfl
  | clause a e=>exact .inr ⟨a,e,rfl⟩
  | _=>simp [wf] at hwe
 have hck:Sp.ck T (.b8 arms els) aC 0 c=((Sp.ck T (.b8 arms els) aC 0 c).1,(Sp.ck T (.b8 arms els) aC 0 c).2.1, .b8 (cC (gY T aC arms.wX 0 c).2.2) (Sp.ck T els aC 0 (gY T aC arms.wX 0 c).2.1).2.2):=by
  have h:=vB T aC arms.wX 0 c
  rw [<- e1] at h
  rcases hel with rfl | ⟨a,e,rfl⟩
  ·simp only [Sp.ck];rw [h]
  ·simp only [Sp.ck];rw [h]
 rw [e1] at hR hd
 have hC:=EE (els:=els) (by omega) e3 hX hY hel he hd ⟨l1,l2⟩ hm hbm hA hI hR hn hR2
 rw [<- e1] at hC
 refine (Cc (P:=λz w'=>z=(Sp.ck T (.b8 arms els) aC 0 c).1.headD 0/\CB cb tv (Sp.ck T (.b8 arms els) aC 0 c).2.1 w'/\Rp w' (Sp.ck T (.b8 arms els) aC 0 c).2.2 lo hi (.iface 365 (.pointer (some ⟨b,0,none⟩)))/\Fc cb lo hi w w') (hC.mono ?_)).mono ?_
 ·rintro r w' ⟨rfl,hcb,hr1,hr2,hfc,hsb⟩
  refine ⟨_,rfl,rfl,hcb,?_,hfc.wide (by omega) (by omega)⟩
  rw [hck]
  exact ⟨b,av,ev,m1,m2,m3,rfl,l1,l2,hm,⟨hT.sb hsb,hbm⟩,hA.same hfc.size hsb,hI,hr1,hn,hr2⟩
 ·rintro r w' ⟨z,rfl,rfl,h⟩
  exact ⟨rfl,h⟩
theorem Gg (T:List Sp.Tb) (N:Nat) (hN:N<=90000):∀ nd:Nd,(wf N nd .expr->sH T nd)/\(wf N nd .list->∀ n∈nd.els,sH T n)/\(wf N nd .arms->∀ x∈nd.wX,sH T x.2.1/\sH T x.2.2.2)/\(wf N nd .cl->∀ a e,nd = .clause a e->sH T e)/\(wf N nd .query->XD T nd):=by
 intro nd
 induction nd with
 | nil=>exact ⟨λh=>by simp [wf] at h,λ_ n hn=>by simp [Nd.els] at hn,λ_ x hx=>by simp [Nd.wX] at hx,λ_ _ _ e=>(by cases e),λh=>by simp [wf] at h⟩
 | none=>exact ⟨λh=>by simp [wf] at h,λh=>by simp [wf] at h,λh=>by simp [wf] at h,λ_ _ _ e=>(by cases e),λh=>by simp [wf] at h⟩
 | cons h t ih1 ih2=>
  refine ⟨λh=>by simp [wf] at h,λhw n hn=>?_,λh=>by simp [wf] at h,λ_ _ _ e=>(by cases e),λh=>by simp [wf] at h⟩
  obtain ⟨_,h1,h2⟩:=hw
  simp only [Nd.els,List.mem_cons] at hn
  rcases hn with rfl | hn
  ·exact ih1.1 h1
  ·exact ih2.2.1 h2 n hn
 | clause a e ih=>
  refine ⟨λh=>by simp [wf] at h,λh=>by simp [wf] at h,λh=>by simp [wf] at h,λhw a' e' he=>?_,λh=>by simp [wf] at h⟩
  injection he with h1 h2
  subst h2
  exact ih.1 hw.2
 | const v=>exact ⟨λ_=>Kv T v,λh=>by simp [wf] at h,λh=>by simp [wf] at h,λ_ _ _ e=>(by cases e),λh=>by simp [wf] at h⟩
 | col t n a o sr ce=>exact ⟨λ_=>P2 T t n a o sr ce,λh=>by simp [wf] at h,λh=>by simp [wf] at h,λ_ _ _ e=>(by cases e),λh=>by simp [wf] at h⟩
 | op wd a args ih=>exact ⟨λhw=>SM hN hw (ih.2.1 hw.2.1),λh=>by simp [wf] at h,λh=>by simp [wf] at h,λ_ _ _ e=>(by cases e),λh=>by simp [wf] at h⟩
 | b8 arms els ih1 ih2=>exact ⟨λhw=>MZ hN hw (ih1.2.2.1 hw.2.1) (ih2.2.2.2.1 hw.2.2.2),λh=>by simp [wf] at h,λh=>by simp [wf] at h,λ_ _ _ e=>(by cases e),λh=>by simp [wf] at h⟩
 | arms wa e ta t r ih1 ih2 ih3=>
  refine ⟨λh=>by simp [wf] at h,λh=>by simp [wf] at h,λhw x hx=>?_,λ_ _ _ e=>(by cases e),λh=>by simp [wf] at h⟩
  obtain ⟨_,h1,h2,h3⟩:=hw
  simp only [Nd.wX,List.mem_cons] at hx
  rcases hx with rfl | hx
  ·exact ⟨ih1.1 h1,ih2.1 h2⟩
  ·exact ih3.2.2.1 h3 x hx
 | within wd a args q ih1 ih2=>exact ⟨λh=>by simp [wf] at h,λh=>by simp [wf] at h,λh=>by simp [wf] at h,λ_ _ _ e=>(by cases e),λh=>by simp [wf] at h⟩
 | comb wd a all p q ih1 ih2=>exact ⟨λh=>by simp [wf] at h,λh=>by simp [wf] at h,λh=>by simp [wf] at h,λ_ _ _ e=>(by cases e),λh=>by simp [wf] at h⟩
 | sel di st ex src wh ih1 ih2=>
  refine ⟨λh=>by simp [wf] at h,λh=>by simp [wf] at h,λh=>by simp [wf] at h,λ_ _ _ e=>(by cases e),λhw=>?_⟩
  have hw':=hw
  obtain ⟨_,hex,_,hwh⟩:=hw
  rcases hex with rfl | ⟨h1,h2,h3⟩
  ·exact Ku hw' hN (λe=>absurd rfl e) (ih2.2.2.2.1 hwh)
  ·exact Ku hw' hN (λ_=>ED h3 (by omega) (ih1.2.1 h3)) (ih2.2.2.2.1 hwh)
def pC (t:Sp.Tb) (a:Nat) (iZ:List Int) (c:CS) (j:Nat):CS:=((t.cols.zip iZ).take j).foldl (λc x=>(c.fit a [x.1.2,x.2]).2) c
theorem Ia (t:Sp.Tb) (a:Nat) (iZ:List Int) (c:CS) (j:Nat) (h1:j<t.cols.length) (h2:j<iZ.length):pC t a iZ c (j+1)=((pC t a iZ c j).fit a [t.cols[j].2,iZ[j]]).2:=by
 unfold pC
 have hz:j<(t.cols.zip iZ).length:=by simp;omega
 rw [sA hz,List.foldl_append]
 simp
theorem Kw {cb k a:Nat} {tv v:Value} {c:CS} {w:World} {t:Sp.Tb} {tt:TV} {iZ:List Int} (hc:CB cb tv c w) (hkw:k<=w.heap.size) (hkc:k<=cb) (ht:lW k w t tt) (ho:Si w v iZ) (hob:∀ b off n c,v = .slice (some ⟨b,off,none⟩) n c->b≠cb) (_hl:iZ.length<=90000) :
  Calls prog 179 #[.pointer (some ⟨cb,0,none⟩),oW tt, .int .i64 (a:Nat),v] w λr w'=>r = .returned (.tuple #[])/\CB cb tv (fill t a iZ c) w'/\Kept cb w w':=by
 obtain ⟨va,vc,rfl⟩:=ho.shape
 obtain ⟨tn,ca,cl,cc,ra,rl,rc⟩:=tt
 have hcw:=hc.lt
 have hcl:cl=t.cols.length:=by
  rcases ht.cols with ⟨e,_,h,_⟩ | ⟨b,off,_,h,_⟩
  ·simp only [] at h;rw [h,e];rfl
  ·exact h
 have hcn:=ht.iI
 rw [<- hcl] at hcn
 have HC:=hid hc
 have HT:=hid ht
 have HO:=hid ho
 have Zn:=hid hob
 have Od:=hid hcl
 have eJ:=hid hkw
 obtain ⟨n,hn⟩:∃ n,n=iZ.length:=⟨_,rfl⟩
 have HN:=hid hn
 rw [<- hn]
 clear hc ht ho hob hcl hkw hn
 show Calls prog 179 #[.pointer (some ⟨cb,0,none⟩), .agg #[.string tn, .slice ca cl cc, .slice ra rl rc], .int .i64 (a:Nat), .slice va n vc] w _
 by_cases hq:n=cl
 ·have HV:Hid (fill t a iZ c=pC t a iZ c cl):=by
   show _=_
   unfold fill pC
   rw [if_neg (by have:=HN.out;have:=Od.out;simp;omega),tD (by have:=HN.out;have:=Od.out;simp;omega)]
  have Oz:=hid hq
  have hne:((n:Int) != (cl:Int))=false:=by simp [hq]
  have hB0:=hid (B3.new w (.string tn) (.slice ca cl cc) (.slice ra rl rc) 187)
  clear hq
  go_enter func179,ntmps179
  go_wp2_with fail
  go_loopw [22] (λi wr=>∃ j:Nat,j<=cl/\i = .int .i64 (j:Nat)/\Hid (CB cb tv (pC t a iZ c j) wr)/\Hid (Kept cb w wr)) (λi _=>cl - (intOf i).toNat)
  case atStart=>exact ⟨0,eX _,rfl,HC.out.alloc _,(Kept.refl cb w).alloc _⟩
  case round=>
   obtain ⟨j,hj,rfl,tL,HK⟩:=hrel
   have hwr:=HK.out.size
   by_cases hlt:j<cl
   ·have hj1:j<t.cols.length:=by have:=Od.out;omega
    have hj2:j<iZ.length:=by have:=Oz.out;have:=HN.out;omega
    have HS:=hid (Ia t a iZ c j hj1 hj2)
    obtain ⟨qX,A8,e1,hck,hcols⟩:∃ b off,ca=some ⟨b,off,none⟩/\b<k/\oI w b off (t.cols.map λx=>(bz x.1,x.2)):=by
     rcases HT.out.cols with ⟨e,_⟩ | ⟨b,off,h1,_,h3,h4⟩
     ·rw [e] at hj1;simp at hj1
     ·exact ⟨b,off,h1,h3,h4⟩
    subst e1
    obtain ⟨g,go,gc,e2,hH⟩:∃ g o c,(Value.slice va iZ.length vc) = .slice (some ⟨g,o,none⟩) iZ.length c/\Hi w g o iZ:=by
     rcases HO.out with ⟨_,h⟩ | h
     ·rw [h] at hj2;simp at hj2
     ·exact h
    injection e2 with e2 _ e3
    subst e2 e3
    have hgc:=Zn.out g go _ _ rfl
    have hkk:=eJ.out
    have x0:=(HK.out.cell (p:=⟨qX,A8+j*2,none⟩) (by show qX<_;omega) (by show qX≠cb;omega)).trans (hcols.n j (by simpa using hj1))
    have x1:=(HK.out.cell (p:=⟨qX,A8+j*2+1,none⟩) (by show qX<_;omega) (by show qX≠cb;omega)).trans (hcols.t j (by simpa using hj1))
    have x2:=(HK.out.cell (p:=⟨g,go+j,none⟩) hH.lb hgc).trans (hH.n j hj2)
    have hgl:=hH.lb
    simp only [List.getElem_map] at x0 x1
    have hi2:(j:Int)<(n:Int):=by have:=Oz.out;omega
    clear hH hcols
    generalize pC t a iZ c j=Z at *
    generalize bz t.cols[j].1=cn at *
    generalize t.cols[j].2=ct at *
    generalize iZ[j]=ty at *
    have Zo:wr.heap.size<(wr.alloc (.cells #[.string cn, .int .i64 ct] 264)).heap.size:=by simp
    have q1:(wr.alloc (.cells #[.string cn, .int .i64 ct] 264)).cell? ⟨wr.heap.size,1,none⟩=some (.int .i64 ct):=by simp
    have q2:=(((Gr.refl wr).alloc (.cells #[.string cn, .int .i64 ct] 264)).cell (p:=⟨g,go+j,none⟩) (by show g<_;omega)).trans x2
    have VD:=(eY (tL.out.gr ((((Gr.refl wr).alloc (.cells #[.string cn, .int .i64 ct] 264)).alloc (.cells #[.int .i64 ct, .int .i64 ty] 3)).drew)) a ((vA (wr.alloc (.cells #[.string cn, .int .i64 ct] 264)) ct ty).gr ((Gr.refl _).drew)) (by simp))
    simp only [World.size_alloc] at VD
    have HF:=hid VD
    clear VD
    have KA:=hid (Kept.gr (b:=cb) ((((Gr.refl wr).alloc (.cells #[.string cn, .int .i64 ct] 264)).alloc (.cells #[.int .i64 ct, .int .i64 ty] 3)).drew))
    go_wp2_with fail
    go_region_held3 (λw'=>w'.cell? ⟨wr.heap.size,1,none⟩=some (.int .i64 ct)/\w'.cell? ⟨g,go+j,none⟩=some (.int .i64 ty)) (first | go_keep | exact ⟨q1,q2⟩ | exact ⟨y1,y2⟩) ((go_at_call 181;refine HF.out.mono ?_;rintro e4 w4 ⟨rfl,h4,k4⟩;have B9:=KA.out.trans k4;have y2:=(B9.cell (p:=⟨g,go+j,none⟩) (by show g<_;omega) hgc).trans x2;have y1:w4.cell? ⟨wr.heap.size,1,none⟩=some (.int .i64 ct):=(k4.cell (p:=⟨wr.heap.size,1,none⟩) (by simp;omega) (by show wr.heap.size≠cb;omega)).trans ((((Gr.refl _).alloc _).drew.cell (p:=⟨wr.heap.size,1,none⟩) Zo).trans q1)))
    have HX:=hid (And.intro h4 (HK.out.trans B9))
    clear h4 k4 B9 y1 y2 x0 x1 x2 q1 q2 HF
    go_wp2_with fail
    go_roundw
    case rel=>exact ⟨j+1,by omega,by go_num,by rw [HS.out];exact HX.out.1,HX.out.2⟩
    case measure=>simp [intOf];omega
   ·have hjc:Hid (j=cl):=by show _=_;omega
    go_wp2_with fail
    go_end0
    exact ⟨rfl,by rw [HV.out,<- hjc.out];exact tL.out,HK.out⟩
 ·have HV:Hid (fill t a iZ c=c.fail 6 a):=by
   show _=_
   unfold fill
   rw [if_pos (by have:=HN.out;have:=Od.out;simp;omega)]
  have hne:((n:Int) != (cl:Int))=true:=by simp;omega
  go_enter func179,ntmps179
  go_wp2_with fail
  refine (cW (HC.out.alloc _) 6 a).mono ?_
  rintro e w1 ⟨rfl,h1,k1⟩
  go_wp2_with fail
  exact cV (results_none rfl _ _ _) rfl ⟨rfl,by rw [HV.out];exact h1,((Kept.refl cb w).alloc _).trans k1⟩
end Go.Proofs.YtgnncnhkgmhngaaGreatDoor
