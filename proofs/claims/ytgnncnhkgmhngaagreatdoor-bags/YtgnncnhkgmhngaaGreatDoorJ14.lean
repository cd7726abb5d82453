import Derived.Test.YtgnncnhkgmhngaaGreatDoorJ13
set_option maxHeartbeats 2000000
namespace Go.Proofs.YtgnncnhkgmhngaaGreatDoor
open Sp
open Go.RowKit
theorem qN (s:Sp.Bs) (y z:Sp.Bs) (σ:St):aT s [y,z] σ=(σ.is s y||σ.is s z):=by simp [aT]
def Vg (b c cap len:Nat) (s:Sp.Bs) (n:Nat) (nt:Nt) (Sh:Value->Prop) (f:FuncId):Prop:=
 ∀ (d:Nat) (σ:St) (w:World),d+n<=1000000->32*rem s σ+lK nt<=n->PS b c cap len s d σ w->
  Calls Tryz.prog f #[.pointer (some ⟨b,0,none⟩)] w (aX b c cap len s d (Sp.run s n nt d σ) w Sh λw' v=>Rq w' (Sp.tr s n nt d .nil σ) w.heap.size w'.heap.size v)
structure All (b c cap len:Nat) (s:Sp.Bs) (n:Nat):Prop where
 expr:Sd b c cap len s n .expr aQ 175
 both:Sd b c cap len s n .both aQ 214
 no:Sd b c cap len s n .no aQ 253
 compare:Sd b c cap len s n .compare aQ 283
 sum:Sd b c cap len s n .sum aQ 309
 product:Sd b c cap len s n .product aQ 324
 unary:Sd b c cap len s n .unary aQ 331
 atom:Sd b c cap len s n .atom aQ 337
 list:Vg b c cap len s n .list qJ 174
 query:Sd b c cap len s n .query aQ 83
 term:Sd b c cap len s n .term aQ 133
 factor:Sd b c cap len s n .factor aQ 176
theorem aX.rq {b c cap len:Nat} {s:Sp.Bs} {d:Nat} {τ:St} {w:World} {nd:Nd} {lo:Nat} {r:Ending} {w' : World} (h:aX b c cap len s d τ w aQ (λw'' v=>Rp w'' nd lo w''.heap.size v) r w'):aX b c cap len s d τ w aQ (λw'' v=>Rq w'' nd lo w''.heap.size v) r w':=by
 obtain ⟨v,e,hp,hk,hi,hr⟩:=h
 exact ⟨v,e,hp,hk,hi,λhl=>(hr hl).rq hi.bC⟩
theorem Gk {b c cap len:Nat} {s:Sp.Bs} {n:Nat} (IH:Hid (∀ m,m<=n->All b c cap len s m)):Sd b c cap len s (n+1) .expr aQ 175:=by
 intro d σ w hd hm hp
 have hbw:=hp.lb
 have hm' : 32*rem s σ+lK .expr<=n+1:=hm
 have hm1:32*rem s σ+lK .both<=n:=by simp only [lK] at hm' ⊢;omega
 have hm2:32*rem s σ+1<=n:=by simp only [lK] at hm';omega
 clear hm hm'
 have C:∀ w0,w0=w.alloc (.cells #[.string ⟨#[111,114]⟩] 9)->Calls Tryz.prog 213 #[.pointer (some ⟨b,0,none⟩), .func (.func 214) #[.pointer (some ⟨b,0,none⟩)] #[], .slice (some ⟨w.heap.size,0,none⟩) 1 1] w0 (aX b c cap len s d (Sp.run s n .If d (Sp.run s n .both d σ)) w0 aQ λw' v=>Rp w' (Sp.tr s n .If d (Sp.tr s n .both d .nil σ) (Sp.run s n .both d σ)) w0.heap.size w'.heap.size v):=by
  intro w0 e
  subst e
  refine pL (by simp) .both .If [[111,114]] (by decide) (λm hm=>(IH.out m hm).both) ?_ ?_ d σ _ (by omega) hm1 hm2 (hp.alloc _) w.heap.size 1 (eW rfl (by decide) (by decide)) (by omega) rfl
  ·intro m d σ;rw [Sp.run,lT]
  ·intro m d a σ;rw [Sp.tr,lT]
 have HC:=hid C
 clear C hp
 have hmf:=lN
 go_enter Tryz.func175,Tryz.ntmps175
 go_wp2_with fail
 refine (HC.out _ rfl).mono ?_
 rintro r w1 ⟨v1,rfl,hp1,hk1,hi1,hr1⟩
 have bT:=hid hp1
 have bD:Hid (Kept b w w1):=((Kept.refl b w).alloc _).trans hk1
 have HI1:=hid hi1
 have HR1:Hid ((Sp.run s (n+1) .expr d σ).aA=true->Rp w1 (Sp.tr s (n+1) .expr d .nil σ) w.heap.size w1.heap.size v1):=λhl=>Rp.wide _ _ _ _ _ _ (hr1 hl) (by simp) (aF _)
 clear hp1 hk1 hi1 hr1
 go_wp2_with fail
 go_ret
 exact ⟨_,rfl,bT.out,bD.out,HI1.out,HR1.out⟩
theorem Gl {b c cap len:Nat} {s:Sp.Bs} {n:Nat} (IH:Hid (∀ m,m<=n->All b c cap len s m)):Sd b c cap len s (n+1) .both aQ 214:=by
 intro d σ w hd hm hp
 have hbw:=hp.lb
 have hm' : 32*rem s σ+lK .both<=n+1:=hm
 have hm1:32*rem s σ+lK .no<=n:=by simp only [lK] at hm' ⊢;omega
 have hm2:32*rem s σ+1<=n:=by simp only [lK] at hm';omega
 clear hm hm'
 have C:∀ w0,w0=w.alloc (.cells #[.string ⟨#[97,110,100]⟩] 9)->Calls Tryz.prog 213 #[.pointer (some ⟨b,0,none⟩), .func (.func 253) #[.pointer (some ⟨b,0,none⟩)] #[], .slice (some ⟨w.heap.size,0,none⟩) 1 1] w0 (aX b c cap len s d (Sp.run s n .sV d (Sp.run s n .no d σ)) w0 aQ λw' v=>Rp w' (Sp.tr s n .sV d (Sp.tr s n .no d .nil σ) (Sp.run s n .no d σ)) w0.heap.size w'.heap.size v):=by
  intro w0 e
  subst e
  refine pL (by simp) .no .sV [[97,110,100]] (by decide) (λm hm=>(IH.out m hm).no) ?_ ?_ d σ _ (by omega) hm1 hm2 (hp.alloc _) w.heap.size 1 (eW rfl (by decide) (by decide)) (by omega) rfl
  ·intro m d σ;rw [Sp.run,lT]
  ·intro m d a σ;rw [Sp.tr,lT]
 have HC:=hid C
 clear C hp
 have hmf:=lN
 go_enter Tryz.func214,Tryz.ntmps214
 go_wp2_with fail
 refine (HC.out _ rfl).mono ?_
 rintro r w1 ⟨v1,rfl,hp1,hk1,hi1,hr1⟩
 have bT:=hid hp1
 have bD:Hid (Kept b w w1):=((Kept.refl b w).alloc _).trans hk1
 have HI1:=hid hi1
 have HR1:Hid ((Sp.run s (n+1) .both d σ).aA=true->Rp w1 (Sp.tr s (n+1) .both d .nil σ) w.heap.size w1.heap.size v1):=λhl=>Rp.wide _ _ _ _ _ _ (hr1 hl) (by simp) (aF _)
 clear hp1 hk1 hi1 hr1
 go_wp2_with fail
 go_ret
 exact ⟨_,rfl,bT.out,bD.out,HI1.out,HR1.out⟩
theorem IR {b c cap len:Nat} {s:Sp.Bs} {n:Nat} (IH:Hid (∀ m,m<=n->All b c cap len s m)):Sd b c cap len s (n+1) .sum aQ 309:=by
 intro d σ w hd hm hp
 have hbw:=hp.lb
 have hm' : 32*rem s σ+lK .sum<=n+1:=hm
 have hm1:32*rem s σ+lK .product<=n:=by simp only [lK] at hm' ⊢;omega
 have hm2:32*rem s σ+1<=n:=by simp only [lK] at hm';omega
 clear hm hm'
 have C:∀ w0,w0=w.alloc (.cells #[.string ⟨#[43]⟩, .string ⟨#[45]⟩] 9)->Calls Tryz.prog 213 #[.pointer (some ⟨b,0,none⟩), .func (.func 324) #[.pointer (some ⟨b,0,none⟩)] #[], .slice (some ⟨w.heap.size,0,none⟩) 2 2] w0 (aX b c cap len s d (Sp.run s n .sW d (Sp.run s n .product d σ)) w0 aQ λw' v=>Rp w' (Sp.tr s n .sW d (Sp.tr s n .product d .nil σ) (Sp.run s n .product d σ)) w0.heap.size w'.heap.size v):=by
  intro w0 e
  subst e
  refine pL (by simp) .product .sW [[43], [45]] (by decide) (λm hm=>(IH.out m hm).product) ?_ ?_ d σ _ (by omega) hm1 hm2 (hp.alloc _) w.heap.size 2 (eW rfl (by decide) (by decide)) (by omega) rfl
  ·intro m d σ;rw [Sp.run,qN]
  ·intro m d a σ;rw [Sp.tr,qN]
 have HC:=hid C
 clear C hp
 have hmf:=lN
 go_enter Tryz.func309,Tryz.ntmps309
 go_wp2_with fail
 refine (HC.out _ rfl).mono ?_
 rintro r w1 ⟨v1,rfl,hp1,hk1,hi1,hr1⟩
 have bT:=hid hp1
 have bD:Hid (Kept b w w1):=((Kept.refl b w).alloc _).trans hk1
 have HI1:=hid hi1
 have HR1:Hid ((Sp.run s (n+1) .sum d σ).aA=true->Rp w1 (Sp.tr s (n+1) .sum d .nil σ) w.heap.size w1.heap.size v1):=λhl=>Rp.wide _ _ _ _ _ _ (hr1 hl) (by simp) (aF _)
 clear hp1 hk1 hi1 hr1
 go_wp2_with fail
 go_ret
 exact ⟨_,rfl,bT.out,bD.out,HI1.out,HR1.out⟩
theorem y7 {b c cap len:Nat} {s:Sp.Bs} {n:Nat} (IH:Hid (∀ m,m<=n->All b c cap len s m)):Sd b c cap len s (n+1) .product aQ 324:=by
 intro d σ w hd hm hp
 have hbw:=hp.lb
 have hm' : 32*rem s σ+lK .product<=n+1:=hm
 have hm1:32*rem s σ+lK .unary<=n:=by simp only [lK] at hm' ⊢;omega
 have hm2:32*rem s σ+1<=n:=by simp only [lK] at hm';omega
 clear hm hm'
 have C:∀ w0,w0=w.alloc (.cells #[.string ⟨#[42]⟩, .string ⟨#[47]⟩] 9)->Calls Tryz.prog 213 #[.pointer (some ⟨b,0,none⟩), .func (.func 331) #[.pointer (some ⟨b,0,none⟩)] #[], .slice (some ⟨w.heap.size,0,none⟩) 2 2] w0 (aX b c cap len s d (Sp.run s n .lH d (Sp.run s n .unary d σ)) w0 aQ λw' v=>Rp w' (Sp.tr s n .lH d (Sp.tr s n .unary d .nil σ) (Sp.run s n .unary d σ)) w0.heap.size w'.heap.size v):=by
  intro w0 e
  subst e
  refine pL (by simp) .unary .lH [[42], [47]] (by decide) (λm hm=>(IH.out m hm).unary) ?_ ?_ d σ _ (by omega) hm1 hm2 (hp.alloc _) w.heap.size 2 (eW rfl (by decide) (by decide)) (by omega) rfl
  ·intro m d σ;rw [Sp.run,qN]
  ·intro m d a σ;rw [Sp.tr,qN]
 have HC:=hid C
 clear C hp
 have hmf:=lN
 go_enter Tryz.func324,Tryz.ntmps324
 go_wp2_with fail
 refine (HC.out _ rfl).mono ?_
 rintro r w1 ⟨v1,rfl,hp1,hk1,hi1,hr1⟩
 have bT:=hid hp1
 have bD:Hid (Kept b w w1):=((Kept.refl b w).alloc _).trans hk1
 have HI1:=hid hi1
 have HR1:Hid ((Sp.run s (n+1) .product d σ).aA=true->Rp w1 (Sp.tr s (n+1) .product d .nil σ) w.heap.size w1.heap.size v1):=λhl=>Rp.wide _ _ _ _ _ _ (hr1 hl) (by simp) (aF _)
 clear hp1 hk1 hi1 hr1
 go_wp2_with fail
 go_ret
 exact ⟨_,rfl,bT.out,bD.out,HI1.out,HR1.out⟩
theorem Rp.op1 {W:World} {x:Nd} {lo l1 h1 blk bb hi:Nat} {v:Value} {wd:Sp.Bs} {a:Nat} (r1:Rp W x l1 h1 v) (n1:cH v) (e0:lo<=l1) (e2:h1<=blk) (e3:blk<bb) (e4:bb<hi) (k:At W blk [v]) (kb:At W bb [.string (bz wd), .int .i64 (a:Int), .slice (some ⟨blk,0,none⟩) 1 1]) :
  Rp W (.op wd a (.cons x .nil)) lo hi (.iface 363 (.pointer (some ⟨bb,0,none⟩))):=by
 have l1:=Rp.le _ _ _ _ r1
 refine ⟨bb,_,lo,blk,rfl,by omega,e4,by unfold Sub;omega,kb,λblk' off n c e=>?_,?_⟩
 ·injection e with e1 e2 e3;injection e1 with e1;injection e1 with e1;subst e1;omega
 ·exact ⟨blk,0,0,1,v,_,h1,rfl,k.1,by unfold Sub;omega,k.2 0 (by simp),n1,r1,by omega,_,_,rfl⟩
theorem cV {s:Sp.Bs} {z:Sp.Bs} {d:Nat} {σ:St} (h:σ.is s z=true):σ.opened s z d=σ.dF s d:=by rw [St.opened,h];rfl
theorem AY {fn:Nat} (hfn:fn=253\/fn=331\/fn=347) {b c cap len:Nat} {s:Sp.Bs} {d:Nat} {σ:St} {w:World} (h:PS b c cap len s d σ w) (z:Sp.Bs) (hf:z∈iS) (hd:d<=1000000) (hs:σ.is s z=true) (τ:St) (nd:Nd)
  (hin:∀ w',Kept b w w'->PS b c cap len s (d+1) (σ.opened s z d) w'->Calls Tryz.prog fn #[.pointer (some ⟨b,0,none⟩)] w' (aX b c cap len s (d+1) τ w' aQ λw'' v=>Rq w'' nd w'.heap.size w''.heap.size v)) :
  Calls Tryz.prog 282 #[.pointer (some ⟨b,0,none⟩), .string ⟨z.toArray⟩, .func (.func fn) #[.pointer (some ⟨b,0,none⟩)] #[]] w (aX b c cap len s d τ w aQ λw' v=>Rp w' (.op (σ.word s) (σ.at_ s) (.cons nd .nil)) w.heap.size w'.heap.size v):=by
 have hbw:=h.lb
 have Mz:=hid hin
 clear hin
 obtain ⟨i,wd,hi,tc,PK⟩:=bG h
 have jQ:Hid (aO s (pos s i)=σ.at_ s/\wd=bz (σ.word s)):=by
  have:=dO hi tc (cK hs)
  exact ⟨this.1,this.2 (dC hs)⟩
 have HH:=hid h
 have gJ:=jL PK
 clear h tc hi PK hs
 generalize kn (aD s (pos s i))=kk at *
 generalize aO s (pos s i)=aa at *
 go_enter Tryz.func282,Tryz.ntmps282
 go_wp2_with fail
 refine (gJ.out _ rfl).mono ?_
 rintro r w0 ⟨rfl,hb0⟩
 have bT:Hid (PS b c cap len s d σ (w0.alloc (.cells #[.int .i64 kk, .int .i64 aa, .string wd] 155))):=(HH.out.below hb0).alloc _
 have bD:Hid (Kept b w (w0.alloc (.cells #[.int .i64 kk, .int .i64 aa, .string wd] 155))):=(Kept.below hb0).alloc _
 have HB1:Hid (Bk (w0.alloc (.cells #[.int .i64 kk, .int .i64 aa, .string wd] 155)) w0.heap.size [.int .i64 kk, .int .i64 aa, .string wd]):=Bk.new _ _ _
 have hz0:=hb0.size
 clear hb0 gJ HH
 go_wp2_with fail
 generalize (w0.alloc (.cells #[.int .i64 kk, .int .i64 aa, .string wd] 155))=w1 at *
 have hx:=HB1.out.lt
 have x0:=HB1.out.k0
 have x1:=HB1.out.k1
 have x2:=HB1.out.k2
 go_region_with (first | (go_at_call 308;refine (qL (.inl ⟨rfl,rfl,hfn,rfl,rfl,rfl⟩) bT.out.drew z hf hd τ nd (λw' k hp=>Mz.out w' ((bD.out.drew).trans k) hp)).mono ?_;rintro e w4 ⟨v4,rfl,gD,hk4,hi4,hr4⟩;have hv4:=hi4.cells;unfold Value.cells at hv4;have hB4:=HB1.out.kept (((Kept.refl b w1).drew).trans hk4) (by omega);have hy:=hB4.lt;have y0:=hB4.k0;have y1:=hB4.k1;have y2:=hB4.k2) | (go_at_call 252;refine (dD _ _ _ _ _ _ _).mono ?_;rintro e w5 ⟨rfl,rfl⟩))
 all_goals
  have jH : Kept b w1 w4:=((Kept.refl b w1).drew).trans hk4
  have eC:Hid (Kept b w w4):=bD.out.trans jH
  have y8:=jH.size
  have hz1:=bD.out.size
  have gY:=hid gD
  have HI4:=hid hi4
  have HR4:Hid (τ.aA=true->Rq w4 nd w1.heap.size w4.heap.size v4):=hr4
  clear gD hk4 hi4 hr4 hB4 y0 y1 y2 jH x0 x1 x2 hv4
  go_wp2_with fail
  go_ret
  refine ⟨_,rfl,((gY.out.alloc _).alloc _).alloc _,((eC.out.alloc _).alloc _).alloc _,Or.inr ⟨_,_,rfl⟩,λhl=>?_⟩
  obtain ⟨e1,e2⟩:=jQ.out
  subst e1 e2
  have hK:∀ x y z:Obj,Kept b w4 (((w4.alloc x).alloc y).alloc z):=λx y z=>(((Kept.refl b w4).alloc x).alloc y).alloc z
  refine Rp.op1 (((HR4.out hl).1).cF HI4.out.bC (hK _ _ _) (by omega) (aF _)) HI4.out.bC hz1 (aF _) (by omega) (by simp) (((Bk.new w4 _ _).alloc _).alloc _).at_ ?_
  have:=(Bk.new ((w4.alloc (.cells #[v4] 242)).alloc (.cells #[.int .i64 kk, .int .i64 (St.at_ s σ:Nat), .string (bz (St.word s σ))] 155)) #[.string (bz (St.word s σ)), .int .i64 (St.at_ s σ:Nat), .slice (some ⟨w4.heap.size,0,none⟩) 1 1] 379).at_
  simpa using this
theorem KX {b c cap len:Nat} {s:Sp.Bs} {n:Nat} (IH:Hid (∀ m,m<=n->All b c cap len s m)):Sd b c cap len s (n+1) .no aQ 253:=by
 intro d σ w hd hm hp
 have hm' : 32*rem s σ+7<=n+1:=hm
 clear hm
 have hbw:=hp.lb
 have HP:=hid hp
 clear hp
 have hmf:=lN
 cases hs:σ.is s [110,111,116]
 ·have HV:Hid (Sp.run s (n+1) .no d σ=Sp.run s n .compare d σ):=by show _=_;rw [Sp.run,hs];rfl
  have cA:Hid (Sp.tr s (n+1) .no d .nil σ=Sp.tr s n .compare d .nil σ):=by show _=_;rw [Sp.tr,hs];rfl
  go_enter Tryz.func253,Tryz.ntmps253
  go_wp2_with fail
  refine (lU HP.out [110,111,116] (by decide)).mono ?_
  rintro r w2 ⟨rfl,hp2,hk2⟩
  rw [hs]
  have HP2:=hid hp2
  have aY:=hid hk2
  clear hp2 hk2
  go_wp2_with fail
  refine ((IH.out n (by omega)).compare d _ _ (by omega) (by show 32*rem s _+6<=n;omega) HP2.out).mono ?_
  rintro r w3 ⟨v3,rfl,hp3,hk3,hi3,hr3⟩
  have cS:=hid hp3
  have bH:=hid (aY.out.trans hk3)
  have HI3:=hid hi3
  have HR3:Hid ((Sp.run s n .compare d σ).aA=true->Rp w3 (Sp.tr s n .compare d .nil σ) w.heap.size w3.heap.size v3):=λhl=>Rp.wide _ _ _ _ _ _ (hr3 hl) aY.out.size (aF _)
  clear hp3 hk3 hi3 hr3
  go_wp2_with fail
  go_ret
  exact ⟨_,rfl,by rw [HV.out];exact cS.out,bH.out,HI3.out,by rw [HV.out,cA.out];exact HR3.out⟩
 ·have HV:Hid (Sp.run s (n+1) .no d σ=Sp.run s n .no (d+1) (σ.opened s [110,111,116] d)):=by show _=_;rw [cV hs,Sp.run,hs];rfl
  have cA:Hid (Sp.tr s (n+1) .no d .nil σ = .op (σ.word s) (σ.at_ s) (.cons (Sp.tr s n .no (d+1) .nil (σ.opened s [110,111,116] d)) .nil)):=by show _=_;rw [cV hs,Sp.tr,hs];rfl
  have h1:=eG (d:=d) hs
  rw [<- cV hs] at h1
  have HS:=hid hs
  go_enter Tryz.func253,Tryz.ntmps253
  go_wp2_with fail
  refine (lU HP.out [110,111,116] (by decide)).mono ?_
  rintro r w2 ⟨rfl,hp2,hk2⟩
  rw [hs]
  have HP2:=hid hp2
  have aY:=hid hk2
  clear hp2 hk2
  go_wp2_with fail
  refine (AY (.inl rfl) HP2.out [110,111,116] (by decide) (by omega) HS.out (Sp.run s n .no (d+1) (σ.opened s [110,111,116] d)) (Sp.tr s n .no (d+1) .nil (σ.opened s [110,111,116] d)) (λw' _ hp'=>((IH.out n (by omega)).no (d+1) _ _ (by omega) (by show 32*rem s _+7<=n;omega) hp').mono λ_ _ h=>h.rq)).mono ?_
  rintro r w3 ⟨v3,rfl,hp3,hk3,hi3,hr3⟩
  have cS:=hid hp3
  have bH:=hid (aY.out.trans hk3)
  have HI3:=hid hi3
  have HR3:Hid ((Sp.run s n .no (d+1) (σ.opened s [110,111,116] d)).aA=true->Rp w3 (.op (σ.word s) (σ.at_ s) (.cons (Sp.tr s n .no (d+1) .nil (σ.opened s [110,111,116] d)) .nil)) w.heap.size w3.heap.size v3):=λhl=>Rp.wide _ _ _ _ _ _ (hr3 hl) aY.out.size (aF _)
  clear hp3 hk3 hi3 hr3
  go_wp2_with fail
  go_ret
  exact ⟨_,rfl,by rw [HV.out];exact cS.out,bH.out,HI3.out,by rw [HV.out,cA.out];exact HR3.out⟩
theorem Do {b c cap len:Nat} {s:Sp.Bs} {n:Nat} (IH:Hid (∀ m,m<=n->All b c cap len s m)):Sd b c cap len s (n+1) .unary aQ 331:=by
 intro d σ w hd hm hp
 have hm' : 32*rem s σ+3<=n+1:=hm
 clear hm
 have hbw:=hp.lb
 have HP:=hid hp
 clear hp
 have hmf:=lN
 cases hs:σ.is s [45]
 ·have HV:Hid (Sp.run s (n+1) .unary d σ=Sp.run s n .atom d σ):=by show _=_;rw [Sp.run,hs];rfl
  have cA:Hid (Sp.tr s (n+1) .unary d .nil σ=Sp.tr s n .atom d .nil σ):=by show _=_;rw [Sp.tr,hs];rfl
  go_enter Tryz.func331,Tryz.ntmps331
  go_wp2_with fail
  refine (lU HP.out [45] (by decide)).mono ?_
  rintro r w2 ⟨rfl,hp2,hk2⟩
  rw [hs]
  have HP2:=hid hp2
  have aY:=hid hk2
  clear hp2 hk2
  go_wp2_with fail
  refine ((IH.out n (by omega)).atom d _ _ (by omega) (by show 32*rem s _+2<=n;omega) HP2.out).mono ?_
  rintro r w3 ⟨v3,rfl,hp3,hk3,hi3,hr3⟩
  have cS:=hid hp3
  have bH:=hid (aY.out.trans hk3)
  have HI3:=hid hi3
  have HR3:Hid ((Sp.run s n .atom d σ).aA=true->Rp w3 (Sp.tr s n .atom d .nil σ) w.heap.size w3.heap.size v3):=λhl=>Rp.wide _ _ _ _ _ _ (hr3 hl) aY.out.size (aF _)
  clear hp3 hk3 hi3 hr3
  go_wp2_with fail
  go_ret
  exact ⟨_,rfl,by rw [HV.out];exact cS.out,bH.out,HI3.out,by rw [HV.out,cA.out];exact HR3.out⟩
 ·have HV:Hid (Sp.run s (n+1) .unary d σ=Sp.run s n .unary (d+1) (σ.opened s [45] d)):=by show _=_;rw [cV hs,Sp.run,hs];rfl
  have cA:Hid (Sp.tr s (n+1) .unary d .nil σ = .op (σ.word s) (σ.at_ s) (.cons (Sp.tr s n .unary (d+1) .nil (σ.opened s [45] d)) .nil)):=by show _=_;rw [cV hs,Sp.tr,hs];rfl
  have h1:=eG (d:=d) hs
  rw [<- cV hs] at h1
  have HS:=hid hs
  go_enter Tryz.func331,Tryz.ntmps331
  go_wp2_with fail
  refine (lU HP.out [45] (by decide)).mono ?_
  rintro r w2 ⟨rfl,hp2,hk2⟩
  rw [hs]
  have HP2:=hid hp2
  have aY:=hid hk2
  clear hp2 hk2
  go_wp2_with fail
  refine (AY (.inr (.inl rfl)) HP2.out [45] (by decide) (by omega) HS.out (Sp.run s n .unary (d+1) (σ.opened s [45] d)) (Sp.tr s n .unary (d+1) .nil (σ.opened s [45] d)) (λw' _ hp'=>((IH.out n (by omega)).unary (d+1) _ _ (by omega) (by show 32*rem s _+3<=n;omega) hp').mono λ_ _ h=>h.rq)).mono ?_
  rintro r w3 ⟨v3,rfl,hp3,hk3,hi3,hr3⟩
  have cS:=hid hp3
  have bH:=hid (aY.out.trans hk3)
  have HI3:=hid hi3
  have HR3:Hid ((Sp.run s n .unary (d+1) (σ.opened s [45] d)).aA=true->Rp w3 (.op (σ.word s) (σ.at_ s) (.cons (Sp.tr s n .unary (d+1) .nil (σ.opened s [45] d)) .nil)) w.heap.size w3.heap.size v3):=λhl=>Rp.wide _ _ _ _ _ _ (hr3 hl) aY.out.size (aF _)
  clear hp3 hk3 hi3 hr3
  go_wp2_with fail
  go_ret
  exact ⟨_,rfl,by rw [HV.out];exact cS.out,bH.out,HI3.out,by rw [HV.out,cA.out];exact HR3.out⟩
theorem kJ {b c cap len:Nat} {s:Sp.Bs} {d:Nat} {σ:St} {w:World} (h:PS b c cap len s d σ w) (hd:d<=1000000) (kk aa:Int) (wd:ByteArray) (a:Option Addr) (n m:Nat) (τ:St) (nd:Nd)
  (hin:∀ w',PS b c cap len s (d+1) (σ.opened s [40] d) w'->Calls Tryz.prog 83 #[.pointer (some ⟨b,0,none⟩)] w' (aX b c cap len s (d+1) τ w' aQ λw'' v=>Rq w'' nd w'.heap.size w''.heap.size v)) :
  Calls Tryz.prog 311 #[.pointer (some ⟨b,0,none⟩), .agg #[.int .i64 kk, .int .i64 aa, .string wd], .slice a n m] w λr w'=>∃ qv bb,r = .returned (.iface 367 (.pointer (some ⟨bb,0,none⟩)))/\PS b c cap len s d (τ.must s [41]) w'/\Kept b w w'/\At w' bb [.string wd, .int .i64 aa, .slice a n m,qv]/\aQ qv/\w.heap.size<=bb/\((τ.must s [41]).aA=true->Rp w' nd w.heap.size bb qv):=by
 have hbw:=h.lb
 have Mz:=hid hin
 have bT:Hid (PS b c cap len s d σ (w.alloc (.cells #[.int .i64 kk, .int .i64 aa, .string wd] 155))):=h.alloc _
 have bD:Hid (Kept b w (w.alloc (.cells #[.int .i64 kk, .int .i64 aa, .string wd] 155))):=(Kept.refl b w).alloc _
 have HB1:Hid (Bk (w.alloc (.cells #[.int .i64 kk, .int .i64 aa, .string wd] 155)) w.heap.size [.int .i64 kk, .int .i64 aa, .string wd]):=Bk.new _ _ _
 clear hin h
 have hmf:=lN
 go_enter Tryz.func311,Tryz.ntmps311
 go_wp2_with fail
 generalize (w.alloc (.cells #[.int .i64 kk, .int .i64 aa, .string wd] 155))=w1 at *
 have hx:=HB1.out.lt
 have x1:=HB1.out.k1
 have x2:=HB1.out.k2
 go_region_with (go_at_call 215;refine (iW (.inr (.inr ⟨rfl,rfl,rfl,rfl,rfl,rfl⟩)) bT.out.drew hd τ nd Mz.out).mono ?_;rintro e w4 ⟨v4,rfl,gD,hk4,hi4,hr4⟩;have hv4:=hi4.cells;unfold Value.cells at hv4;have hB4:=HB1.out.kept (((Kept.refl b w1).drew).trans hk4) (by omega);have hy:=hB4.lt;have y1:=hB4.k1;have y2:=hB4.k2)
 all_goals
  have jH : Kept b w1 w4:=((Kept.refl b w1).drew).trans hk4
  have eC:Hid (Kept b w w4):=bD.out.trans jH
  have y8:=jH.size
  have hz1:=bD.out.size
  have gY:=hid gD
  have HI4:=hid hi4
  have HR4:Hid ((τ.must s [41]).aA=true->Rq w4 nd w1.heap.size w4.heap.size v4):=hr4
  clear gD hk4 hi4 hr4 hB4 y1 y2 jH x1 x2 hv4
  go_wp2_with fail
  go_ret
  exact ⟨v4,w4.heap.size,rfl,gY.out.alloc _,eC.out.alloc _,(Bk.new w4 _ _).at_,HI4.out,by omega,λhl=>Rp.wide _ _ _ _ _ _ ((HR4.out hl).1.cF HI4.out.bC ((Kept.refl b w4).alloc _) (by omega) (aF _)) hz1 (aF _)⟩
theorem Rp.EX {W:World} {x q:Nd} {lo l1 h1 l2 blk bb hi:Nat} {v u:Value} {wd:Sp.Bs} {a:Nat} (r1:Rp W x l1 h1 v) (n1:cH v) (r2:Rp W q l2 bb u) (n2:cH u) (e0:lo<=l1) (e1:h1<=blk) (e2:blk<l2) (e4:bb<hi) (k:At W blk [v]) (kb:At W bb [.string (bz wd), .int .i64 (a:Int), .slice (some ⟨blk,0,none⟩) 1 1,u]) :
  Rp W (.within wd a (.cons x .nil) q) lo hi (.iface 367 (.pointer (some ⟨bb,0,none⟩))):=by
 have f1:=Rp.le _ _ _ _ r1
 have f2:=Rp.le _ _ _ _ r2
 refine ⟨bb,_,_,lo,blk,l2,bb,rfl,by omega,e4,by unfold Sub;omega,by unfold Sub;omega,kb,λblk' off n c e=>?_,?_,n2,r2⟩
 ·injection e with e1 e2 e3;injection e1 with e1;injection e1 with e1;subst e1;omega
 ·exact ⟨blk,0,0,1,v,_,h1,rfl,k.1,by unfold Sub;omega,k.2 0 (by simp),n1,r1,by omega,_,_,rfl⟩
theorem Rp.EY {W:World} {q:Nd} {lo l2 bb hi:Nat} {u:Value} {wd:Sp.Bs} {a:Nat} (r2:Rp W q l2 bb u) (n2:cH u) (e2:lo<=l2) (e4:bb<hi) (kb:At W bb [.string (bz wd), .int .i64 (a:Int), .slice none 0 0,u]) :
  Rp W (.within wd a .nil q) lo hi (.iface 367 (.pointer (some ⟨bb,0,none⟩))):=by
 have f2:=Rp.le _ _ _ _ r2
 exact ⟨bb,_,_,lo,lo,l2,bb,rfl,by omega,e4,by unfold Sub;omega,by unfold Sub;omega,kb,λblk' off n c e=>(by cases e),⟨aF _,_,_,rfl⟩,n2,r2⟩
theorem Ti (x:ByteArray) (a:Int) (w:World):(Instr.field 165 (.agg #[.string x, .int .i64 a]) 0).run Tryz.prog w = .ok (.string x) w:=by kernel_rfl
theorem aZ {s:Sp.Bs} {z:Sp.Bs} {σ:St} (h:σ.is s z=true):σ.take s z=σ.step s:=by rw [St.take,h];rfl
theorem bE {s:Sp.Bs} {z:Sp.Bs} {σ:St} (h:σ.is s z=false):σ.take s z=σ:=by rw [St.take,h];rfl
theorem cQ {b c cap len:Nat} {s:Sp.Bs} {d:Nat} {σ:St} {w:World} (h:PS b c cap len s d σ w) (z:Sp.Bs) (hf:z∈iS) (q:Nat) (hq:q=w.heap.size) :
  Calls Tryz.prog 76 #[.pointer (some ⟨b,0,none⟩), .slice (some ⟨q,0,none⟩) 1 1] (w.alloc (.cells #[.string ⟨z.toArray⟩] 9)) λr w'=>r = .returned (.bool (σ.is s z))/\PS b c cap len s d (σ.take s z) w'/\Kept b w w':=by
 subst hq;exact aW h z hf
theorem kK {b c cap len:Nat} {s:Sp.Bs} {d:Nat} {σ:St} {w:World} (h:PS b c cap len s d σ w) (z:Sp.Bs) (hf:z∈iS) (q:Nat) (hq:q=w.heap.size) :
  Calls Tryz.prog 78 #[.pointer (some ⟨b,0,none⟩), .slice (some ⟨q,0,none⟩) 1 1] (w.alloc (.cells #[.string ⟨z.toArray⟩] 9)) (Post b c cap len s d (σ.must s z) w):=by
 subst hq;exact b8 h z hf
def iC (s:Sp.Bs) (σ:St):Nd:=if (σ.step s).is s [46] then .col (σ.word s) (((σ.step s).step s).word s) (σ.at_ s) 0 0 0 else .col [] (σ.word s) (σ.at_ s) 0 0 0
def colS (s:Sp.Bs) (σ:St):St:=if (σ.step s).is s [46] then ((σ.step s).step s).aC s else σ.step s
theorem MA {W:World} {lo hi bb:Nat} {t n:Sp.Bs} {a:Nat} (h:Bk W bb [.string (bz t), .string (bz n), .int .i64 (a:Int), .int .i64 0, .int .i64 0, .int .i64 0]) (h1:lo<=bb) (h2:bb<hi):Rp W (.col t n a 0 0 0) lo hi (.iface 361 (.pointer (some ⟨bb,0,none⟩))):=
 ⟨bb,rfl,h1,h2,h.at_,h.f⟩
theorem Dp {b c cap len:Nat} {s:Sp.Bs} {d:Nat} {σ:St} {w:World} (h:PS b c cap len s d σ w) (hn:σ.cG s .name=true) :
  Calls Tryz.prog 343 #[.pointer (some ⟨b,0,none⟩)] w (aX b c cap len s d (colS s σ) w aQ λw' v=>Rp w' (iC s σ) w.heap.size w'.heap.size v):=by
 have hbw:=h.lb
 have hcw:=h.lc
 have HM:Hid (σ.aC s=σ.step s/\(σ.step s).aA=true):=⟨by rw [St.aC,hn];rfl,by
  have:=jK hn
  cases σ with | live e=>rfl | dead x a=>exact this⟩
 have HN:=name_any h
 have RV:=jL HN
 clear HN h hn
 cases hs:(σ.step s).is s [46]
 ·have HV:Hid (colS s σ=σ.step s/\iC s σ = .col [] (σ.word s) (σ.at_ s) 0 0 0):=⟨by rw [colS,hs];rfl,by rw [iC,hs];rfl⟩
  have HT:Hid ((σ.step s).take s [46]=σ.step s):=bE hs
  go_enter Tryz.func343,Tryz.ntmps343
  go_wp2_with fail
  refine (RV.out _ rfl).mono ?_
  rintro r w1 ⟨v1,rfl,hp1,hk1,hi1,hr1⟩
  rw [HM.out.1] at hp1 hr1
  obtain rfl:=hr1 HM.out.2
  clear hr1 hi1
  have bT:Hid (PS b c cap len s d (σ.step s) w1):=hp1
  have bD:=hid hk1
  clear hp1 hk1 RV
  dsimp only [O6,St.nm]
  have HB1:Hid (Bk (w1.alloc (.cells #[.string (bz (σ.word s)), .int .i64 (σ.at_ s:Nat)] 165)) w1.heap.size [.string (bz (σ.word s)), .int .i64 (σ.at_ s:Nat)]):=Bk.new _ _ _
  go_wp2_with fail
  refine (cQ (bT.out.alloc _) [46] (by decide) _ (by simp)).mono ?_
  rintro r w2 ⟨rfl,hp2,hk2⟩
  rw [HT.out] at hp2
  rw [hs]
  have hz1:=bD.out.size
  have HP2:Hid (PS b c cap len s d (σ.step s) w2):=hp2
  have aY:Hid (Kept b w w2):=(bD.out.alloc _).trans hk2
  have HB2:=HB1.out.kept hk2 (by omega)
  have hx:=HB2.lt
  have x0:=HB2.k0
  have x1:=HB2.k1
  clear hp2 hk2 HB2 HB1
  go_wp2_with fail
  go_ret
  refine ⟨_,rfl,by rw [HV.out.1];exact HP2.out.alloc _,aY.out.alloc _,Or.inr ⟨_,_,rfl⟩,λ_=>?_⟩
  rw [HV.out.2]
  exact MA (Bk.new w2 _ _) (by omega) (by simp)
 ·have HV:Hid (colS s σ=((σ.step s).step s).aC s/\iC s σ = .col (σ.word s) (((σ.step s).step s).word s) (σ.at_ s) 0 0 0):=⟨by rw [colS,hs];rfl,by rw [iC,hs];rfl⟩
  have HT:Hid ((σ.step s).take s [46]=(σ.step s).step s):=aZ hs
  go_enter Tryz.func343,Tryz.ntmps343
  go_wp2_with fail
  refine (RV.out _ rfl).mono ?_
  rintro r w1 ⟨v1,rfl,hp1,hk1,hi1,hr1⟩
  rw [HM.out.1] at hp1 hr1
  obtain rfl:=hr1 HM.out.2
  clear hr1 hi1
  have bT:Hid (PS b c cap len s d (σ.step s) w1):=hp1
  have bD:=hid hk1
  clear hp1 hk1 RV
  dsimp only [O6,St.nm]
  have HB1:Hid (Bk (w1.alloc (.cells #[.string (bz (σ.word s)), .int .i64 (σ.at_ s:Nat)] 165)) w1.heap.size [.string (bz (σ.word s)), .int .i64 (σ.at_ s:Nat)]):=Bk.new _ _ _
  go_wp2_with fail
  refine (cQ (bT.out.alloc _) [46] (by decide) _ (by simp)).mono ?_
  rintro r w2 ⟨rfl,hp2,hk2⟩
  rw [HT.out] at hp2
  rw [hs]
  have hz1:=bD.out.size
  have HP2:Hid (PS b c cap len s d ((σ.step s).step s) w2):=hp2
  have aY:Hid (Kept b w w2):=(bD.out.alloc _).trans hk2
  have HB2:Hid (Bk w2 w1.heap.size [.string (bz (σ.word s)), .int .i64 (σ.at_ s:Nat)]):=HB1.out.kept hk2 (by omega)
  have hx:=HB2.out.lt
  have x0:=HB2.out.k0
  have x1:=HB2.out.k1
  clear hp2 hk2 HB1
  have hnf:=Ti
  go_wp2_with fail
  go_region_with (go_at_call 79;refine (name_any HP2.out.drew).mono ?_;rintro e w4 ⟨v4,rfl,gD,hk4,⟨wd4,a4,rfl⟩,hr4⟩;have hB4:=HB2.out.kept (((Kept.refl b w2).drew).trans hk4) (by omega);have hy:=hB4.lt;have y0:=hB4.k0;have y1:=hB4.k1)
  all_goals
   have jH : Kept b w2 w4:=((Kept.refl b w2).drew).trans hk4
   have eC:Hid (Kept b w w4):=aY.out.trans jH
   have gY:=hid gD
   have HR4:Hid ((((σ.step s).step s).aC s).aA=true->wd4=bz (((σ.step s).step s).word s)):=λhl=>by
    have:=hr4 hl
    simp only [O6,St.nm,Value.agg.injEq] at this
    have e:=congrArg (λx:Array Value=>x[0]?) this
    simpa using e
   clear gD hk4 hr4 hB4 y0 y1 jH x0 x1
   go_wp2_with fail
   go_ret
   have y8:=eC.out.size
   refine ⟨_,rfl,by rw [HV.out.1];exact gY.out.alloc _,eC.out.alloc _,Or.inr ⟨_,_,rfl⟩,λhl=>?_⟩
   rw [HV.out.1] at hl
   have e4:=HR4.out hl
   subst e4
   rw [HV.out.2]
   exact MA (Bk.new w4 _ _) (by omega) (by simp)
theorem pM {W:World} {lo hi bb:Nat} {v:Sv.Val} (h:At W bb [.int .i64 v.k, .int .i64 v.n, .string v.s]) (h1:lo<=bb) (h2:bb<hi):Rp W (.const v) lo hi (.iface 358 (.pointer (some ⟨bb,0,none⟩))):=
 ⟨bb,rfl,h1,h2,h⟩
theorem Dq {b c cap len:Nat} {s:Sp.Bs} {d:Nat} {σ:St} {w:World} (h:PS b c cap len s d σ w) (v:Value) (hv:aQ v) (nd:Nd) (lo:Nat) (hlo:b<lo) (hr:σ.aA=true->Rp w nd lo w.heap.size v) (_hll:lo<=w.heap.size) :
  Calls Tryz.prog 310 #[.pointer (some ⟨b,0,none⟩),v] w (aX b c cap len s d ((σ.take s [110,111,116]).must s [110,117,108,108]) w aQ λw' v'=>Rp w' (if σ.is s [110,111,116] then .op (σ.word s) (σ.at_ s) (.cons nd .nil) else nd) lo w'.heap.size v'):=by
 have hbw:=h.lb
 obtain ⟨i,wd,hi,tc,PK⟩:=bG h
 have jQ:Hid (σ.is s [110,111,116]=true->aO s (pos s i)=σ.at_ s/\wd=bz (σ.word s)):=λhs=>by
  have:=dO hi tc (cK hs)
  exact ⟨this.1,this.2 (dC hs)⟩
 have HH:=hid h
 have gJ:=jL PK
 have HI:=hid hv
 have HR:=hid hr
 clear h tc hi PK hv hr
 generalize kn (aD s (pos s i))=kk at *
 generalize aO s (pos s i)=aa at *
 cases hs:σ.is s [110,111,116]
 ·have HV:Hid (σ.take s [110,111,116]=σ):=bE hs
  go_enter Tryz.func310,Tryz.ntmps310
  go_wp2_with fail
  refine (gJ.out _ rfl).mono ?_
  rintro r w0 ⟨rfl,hb0⟩
  have bT:Hid (PS b c cap len s d σ (w0.alloc (.cells #[.int .i64 kk, .int .i64 aa, .string wd] 155))):=(HH.out.below hb0).alloc _
  have bD:Hid (Kept b w (w0.alloc (.cells #[.int .i64 kk, .int .i64 aa, .string wd] 155))):=(Kept.below hb0).alloc _
  clear hb0 gJ HH
  go_wp2_with fail
  refine (cQ bT.out [110,111,116] (by decide) _ (by simp)).mono ?_
  rintro r w2 ⟨rfl,hp2,hk2⟩
  rw [HV.out] at hp2
  rw [hs]
  have HP2:Hid (PS b c cap len s d σ w2):=hp2
  have aY:=hid (bD.out.trans hk2)
  clear hp2 hk2
  go_wp2_with fail
  refine (b8 HP2.out [110,117,108,108] (by decide)).mono ?_
  rintro r w3 ⟨rfl,hp3,hk3⟩
  have cS:=hid hp3
  have bH:=hid (aY.out.trans hk3)
  clear hp3 hk3
  go_wp2_with fail
  go_ret
  refine ⟨_,rfl,by rw [HV.out];exact cS.out,bH.out,HI.out,λhl=>?_⟩
  rw [HV.out] at hl
  exact Rp.wide _ _ _ _ _ _ ((HR.out (bK hl)).cF HI.out.bC bH.out hlo (aF _)) (aF _) bH.out.size
 ·have HV:Hid (σ.take s [110,111,116]=σ.step s):=aZ hs
  have HT:Hid (aa=σ.at_ s/\wd=bz (σ.word s)):=jQ.out hs
  have HL:Hid (σ.aA=true):=cK hs
  have RZ:=HI.out.cells
  unfold Value.cells at RZ
  go_enter Tryz.func310,Tryz.ntmps310
  go_wp2_with fail
  refine (gJ.out _ rfl).mono ?_
  rintro r w0 ⟨rfl,hb0⟩
  have bT:Hid (PS b c cap len s d σ (w0.alloc (.cells #[.int .i64 kk, .int .i64 aa, .string wd] 155))):=(HH.out.below hb0).alloc _
  have bD:Hid (Kept b w (w0.alloc (.cells #[.int .i64 kk, .int .i64 aa, .string wd] 155))):=(Kept.below hb0).alloc _
  have HB1:Hid (Bk (w0.alloc (.cells #[.int .i64 kk, .int .i64 aa, .string wd] 155)) w0.heap.size [.int .i64 kk, .int .i64 aa, .string wd]):=Bk.new _ _ _
  have hz0:=hb0.size
  clear hb0 gJ HH
  go_wp2_with fail
  refine (cQ bT.out [110,111,116] (by decide) _ (by simp)).mono ?_
  rintro r w2 ⟨rfl,hp2,hk2⟩
  rw [HV.out] at hp2
  rw [hs]
  have HP2:Hid (PS b c cap len s d (σ.step s) w2):=hp2
  have aY:=hid (bD.out.trans hk2)
  have HB2:Hid (Bk w2 w0.heap.size [.int .i64 kk, .int .i64 aa, .string wd]):=HB1.out.kept hk2 (by omega)
  clear hp2 hk2
  go_wp2_with fail
  refine (b8 HP2.out [110,117,108,108] (by decide)).mono ?_
  rintro r w3 ⟨rfl,hp3,hk3⟩
  have cS:=hid hp3
  have bH:=hid (aY.out.trans hk3)
  have hB3:=HB2.out.kept hk3 (by omega)
  have hx:=hB3.lt
  have x0:=hB3.k0
  have x1:=hB3.k1
  have x2:=hB3.k2
  clear hp3 hk3 hB3
  go_wp2_with fail
  refine (dD _ _ _ _ _ _ _).mono ?_
  rintro e w5 ⟨rfl,rfl⟩
  go_wp2_with fail
  go_ret
  refine ⟨_,rfl,by rw [HV.out];exact ((cS.out.alloc _).alloc _).alloc _,((bH.out.alloc _).alloc _).alloc _,Or.inr ⟨_,_,rfl⟩,λhl=>?_⟩
  obtain ⟨e1,e2⟩:=HT.out
  subst e1 e2
  have hz3:=bH.out.size
  have hK:∀ x y z:Obj,Kept b w3 (((w3.alloc x).alloc y).alloc z):=λx y z=>(((Kept.refl b w3).alloc x).alloc y).alloc z
  refine Rp.op1 (((HR.out HL.out).cF HI.out.bC bH.out hlo (aF _)).cF HI.out.bC (hK _ _ _) hlo hz3) HI.out.bC (aF _) hz3 (by omega) (by simp) (((Bk.new w3 _ _).alloc _).alloc _).at_ ?_
  have:=(Bk.new ((w3.alloc (.cells #[v] 242)).alloc (.cells #[.int .i64 kk, .int .i64 (St.at_ s σ:Nat), .string (bz (St.word s σ))] 155)) #[.string (bz (St.word s σ)), .int .i64 (St.at_ s σ:Nat), .slice (some ⟨w3.heap.size,0,none⟩) 1 1] 379).at_
  simpa using this
end Go.Proofs.YtgnncnhkgmhngaaGreatDoor
