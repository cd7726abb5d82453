import Derived.Test.YtgnncnhkgmhngaaGreatDoorJ13
set_option maxHeartbeats 2000000
namespace Go.Proofs.YtgnncnhkgmhngaaGreatDoor
open Sp
open Tryz
open Go.RowKit
theorem rJ (s:Sp.Bs) (y z:Sp.Bs) (σ:St):aU s [y,z] σ=(σ.is s y||σ.is s z):=by simp [aU]
def Xl (b c cap len:Nat) (s:Sp.Bs) (n:Nat) (nt:Nt) (Sh:Value->Prop) (f:FuncId):Prop:=
 ∀ (d:Nat) (σ:St) (w:World),d+n<=1000000->32*rem s σ+mD nt<=n->PS b c cap len s d σ w->
  Calls prog f #[.pointer (some ⟨b,0,none⟩)] w (aX b c cap len s d (Sp.run s n nt d σ) w Sh λw' v=>Rq w' (Sp.tr s n nt d .nil σ) w.heap.size w'.heap.size v)
structure All (b c cap len:Nat) (s:Sp.Bs) (n:Nat):Prop where
 expr:Sd b c cap len s n .expr aR 175
 both:Sd b c cap len s n .both aR 214
 no:Sd b c cap len s n .no aR 253
 compare:Sd b c cap len s n .compare aR 283
 sum:Sd b c cap len s n .sum aR 309
 product:Sd b c cap len s n .product aR 324
 unary:Sd b c cap len s n .unary aR 331
 atom:Sd b c cap len s n .atom aR 337
 list:Xl b c cap len s n .list rD 174
 query:Sd b c cap len s n .query aR 83
 term:Sd b c cap len s n .term aR 133
 factor:Sd b c cap len s n .factor aR 176
theorem aX.rq {b c cap len:Nat} {s:Sp.Bs} {d:Nat} {τ:St} {w:World} {nd:Nd} {lo:Nat} {r:Ending} {w' : World} (h:aX b c cap len s d τ w aR (λw'' v=>Rp w'' nd lo w''.heap.size v) r w'):aX b c cap len s d τ w aR (λw'' v=>Rq w'' nd lo w''.heap.size v) r w':=by
 obtain ⟨v,e,hp,hk,hi,hr⟩:=h
 exact ⟨v,e,hp,hk,hi,λhl=>(hr hl).rq hi.bC⟩
theorem Hk {b c cap len:Nat} {s:Sp.Bs} {n:Nat} (IH:Hid (∀ m,m<=n->All b c cap len s m)):Sd b c cap len s (n+1) .expr aR 175:=by
 intro d σ w hd hm hp
 have hbw:=hp.lb
 have hm' : 32*rem s σ+mD .expr<=n+1:=hm
 have hm1:32*rem s σ+mD .both<=n:=by simp only [mD] at hm' ⊢;omega
 have hm2:32*rem s σ+1<=n:=by simp only [mD] at hm';omega
 clear hm hm'
 have C:∀ w0,w0=w.alloc (.cells #[.string ⟨#[111,114]⟩] 9)->Calls prog 213 #[.pointer (some ⟨b,0,none⟩), .func (.func 214) #[.pointer (some ⟨b,0,none⟩)] #[], .slice (some ⟨w.heap.size,0,none⟩) 1 1] w0 (aX b c cap len s d (Sp.run s n .Jo d (Sp.run s n .both d σ)) w0 aR λw' v=>Rp w' (Sp.tr s n .Jo d (Sp.tr s n .both d .nil σ) (Sp.run s n .both d σ)) w0.heap.size w'.heap.size v):=by
  intro w0 e
  subst e
  refine p9 (by simp) .both .Jo [[111,114]] (by decide) (λm hm=>(IH.out m hm).both) ?_ ?_ d σ _ (by omega) hm1 hm2 (hp.alloc _) w.heap.size 1 (fH rfl (by decide) (by decide)) (by omega) rfl
  ·intro m d σ;rw [Sp.run,mM]
  ·intro m d a σ;rw [Sp.tr,mM]
 have HC:=hid C
 clear C hp
 have hmf:=mG
 go_enter func175,ntmps175
 go_wp2_with fail
 refine (HC.out _ rfl).mono ?_
 rintro r w1 ⟨v1,rfl,hp1,hk1,hi1,hr1⟩
 have bP:=hid hp1
 have bD:Hid (Kept b w w1):=((Kept.refl b w).alloc _).trans hk1
 have HI1:=hid hi1
 have HR1:Hid ((Sp.run s (n+1) .expr d σ).aA=true->Rp w1 (Sp.tr s (n+1) .expr d .nil σ) w.heap.size w1.heap.size v1):=λhl=>Rp.wide _ _ _ _ _ _ (hr1 hl) (by simp) (aF _)
 clear hp1 hk1 hi1 hr1
 go_wp2_with fail
 go_ret
 exact ⟨_,rfl,bP.out,bD.out,HI1.out,HR1.out⟩
theorem Hl {b c cap len:Nat} {s:Sp.Bs} {n:Nat} (IH:Hid (∀ m,m<=n->All b c cap len s m)):Sd b c cap len s (n+1) .both aR 214:=by
 intro d σ w hd hm hp
 have hbw:=hp.lb
 have hm' : 32*rem s σ+mD .both<=n+1:=hm
 have hm1:32*rem s σ+mD .no<=n:=by simp only [mD] at hm' ⊢;omega
 have hm2:32*rem s σ+1<=n:=by simp only [mD] at hm';omega
 clear hm hm'
 have C:∀ w0,w0=w.alloc (.cells #[.string ⟨#[97,110,100]⟩] 9)->Calls prog 213 #[.pointer (some ⟨b,0,none⟩), .func (.func 253) #[.pointer (some ⟨b,0,none⟩)] #[], .slice (some ⟨w.heap.size,0,none⟩) 1 1] w0 (aX b c cap len s d (Sp.run s n .tT d (Sp.run s n .no d σ)) w0 aR λw' v=>Rp w' (Sp.tr s n .tT d (Sp.tr s n .no d .nil σ) (Sp.run s n .no d σ)) w0.heap.size w'.heap.size v):=by
  intro w0 e
  subst e
  refine p9 (by simp) .no .tT [[97,110,100]] (by decide) (λm hm=>(IH.out m hm).no) ?_ ?_ d σ _ (by omega) hm1 hm2 (hp.alloc _) w.heap.size 1 (fH rfl (by decide) (by decide)) (by omega) rfl
  ·intro m d σ;rw [Sp.run,mM]
  ·intro m d a σ;rw [Sp.tr,mM]
 have HC:=hid C
 clear C hp
 have hmf:=mG
 go_enter func214,ntmps214
 go_wp2_with fail
 refine (HC.out _ rfl).mono ?_
 rintro r w1 ⟨v1,rfl,hp1,hk1,hi1,hr1⟩
 have bP:=hid hp1
 have bD:Hid (Kept b w w1):=((Kept.refl b w).alloc _).trans hk1
 have HI1:=hid hi1
 have HR1:Hid ((Sp.run s (n+1) .both d σ).aA=true->Rp w1 (Sp.tr s (n+1) .both d .nil σ) w.heap.size w1.heap.size v1):=λhl=>Rp.wide _ _ _ _ _ _ (hr1 hl) (by simp) (aF _)
 clear hp1 hk1 hi1 hr1
 go_wp2_with fail
 go_ret
 exact ⟨_,rfl,bP.out,bD.out,HI1.out,HR1.out⟩
theorem JY {b c cap len:Nat} {s:Sp.Bs} {n:Nat} (IH:Hid (∀ m,m<=n->All b c cap len s m)):Sd b c cap len s (n+1) .sum aR 309:=by
 intro d σ w hd hm hp
 have hbw:=hp.lb
 have hm' : 32*rem s σ+mD .sum<=n+1:=hm
 have hm1:32*rem s σ+mD .product<=n:=by simp only [mD] at hm' ⊢;omega
 have hm2:32*rem s σ+1<=n:=by simp only [mD] at hm';omega
 clear hm hm'
 have C:∀ w0,w0=w.alloc (.cells #[.string ⟨#[43]⟩, .string ⟨#[45]⟩] 9)->Calls prog 213 #[.pointer (some ⟨b,0,none⟩), .func (.func 324) #[.pointer (some ⟨b,0,none⟩)] #[], .slice (some ⟨w.heap.size,0,none⟩) 2 2] w0 (aX b c cap len s d (Sp.run s n .tU d (Sp.run s n .product d σ)) w0 aR λw' v=>Rp w' (Sp.tr s n .tU d (Sp.tr s n .product d .nil σ) (Sp.run s n .product d σ)) w0.heap.size w'.heap.size v):=by
  intro w0 e
  subst e
  refine p9 (by simp) .product .tU [[43], [45]] (by decide) (λm hm=>(IH.out m hm).product) ?_ ?_ d σ _ (by omega) hm1 hm2 (hp.alloc _) w.heap.size 2 (fH rfl (by decide) (by decide)) (by omega) rfl
  ·intro m d σ;rw [Sp.run,rJ]
  ·intro m d a σ;rw [Sp.tr,rJ]
 have HC:=hid C
 clear C hp
 have hmf:=mG
 go_enter func309,ntmps309
 go_wp2_with fail
 refine (HC.out _ rfl).mono ?_
 rintro r w1 ⟨v1,rfl,hp1,hk1,hi1,hr1⟩
 have bP:=hid hp1
 have bD:Hid (Kept b w w1):=((Kept.refl b w).alloc _).trans hk1
 have HI1:=hid hi1
 have HR1:Hid ((Sp.run s (n+1) .sum d σ).aA=true->Rp w1 (Sp.tr s (n+1) .sum d .nil σ) w.heap.size w1.heap.size v1):=λhl=>Rp.wide _ _ _ _ _ _ (hr1 hl) (by simp) (aF _)
 clear hp1 hk1 hi1 hr1
 go_wp2_with fail
 go_ret
 exact ⟨_,rfl,bP.out,bD.out,HI1.out,HR1.out⟩
theorem zW {b c cap len:Nat} {s:Sp.Bs} {n:Nat} (IH:Hid (∀ m,m<=n->All b c cap len s m)):Sd b c cap len s (n+1) .product aR 324:=by
 intro d σ w hd hm hp
 have hbw:=hp.lb
 have hm' : 32*rem s σ+mD .product<=n+1:=hm
 have hm1:32*rem s σ+mD .unary<=n:=by simp only [mD] at hm' ⊢;omega
 have hm2:32*rem s σ+1<=n:=by simp only [mD] at hm';omega
 clear hm hm'
 have C:∀ w0,w0=w.alloc (.cells #[.string ⟨#[42]⟩, .string ⟨#[47]⟩] 9)->Calls prog 213 #[.pointer (some ⟨b,0,none⟩), .func (.func 331) #[.pointer (some ⟨b,0,none⟩)] #[], .slice (some ⟨w.heap.size,0,none⟩) 2 2] w0 (aX b c cap len s d (Sp.run s n .mA d (Sp.run s n .unary d σ)) w0 aR λw' v=>Rp w' (Sp.tr s n .mA d (Sp.tr s n .unary d .nil σ) (Sp.run s n .unary d σ)) w0.heap.size w'.heap.size v):=by
  intro w0 e
  subst e
  refine p9 (by simp) .unary .mA [[42], [47]] (by decide) (λm hm=>(IH.out m hm).unary) ?_ ?_ d σ _ (by omega) hm1 hm2 (hp.alloc _) w.heap.size 2 (fH rfl (by decide) (by decide)) (by omega) rfl
  ·intro m d σ;rw [Sp.run,rJ]
  ·intro m d a σ;rw [Sp.tr,rJ]
 have HC:=hid C
 clear C hp
 have hmf:=mG
 go_enter func324,ntmps324
 go_wp2_with fail
 refine (HC.out _ rfl).mono ?_
 rintro r w1 ⟨v1,rfl,hp1,hk1,hi1,hr1⟩
 have bP:=hid hp1
 have bD:Hid (Kept b w w1):=((Kept.refl b w).alloc _).trans hk1
 have HI1:=hid hi1
 have HR1:Hid ((Sp.run s (n+1) .product d σ).aA=true->Rp w1 (Sp.tr s (n+1) .product d .nil σ) w.heap.size w1.heap.size v1):=λhl=>Rp.wide _ _ _ _ _ _ (hr1 hl) (by simp) (aF _)
 clear hp1 hk1 hi1 hr1
 go_wp2_with fail
 go_ret
 exact ⟨_,rfl,bP.out,bD.out,HI1.out,HR1.out⟩
theorem Rp.op1 {W:World} {x:Nd} {lo l1 h1 blk bb hi:Nat} {v:Value} {wd:Sp.Bs} {a:Nat} (r1:Rp W x l1 h1 v) (n1:b9 v) (e0:lo<=l1) (e2:h1<=blk) (e3:blk<bb) (e4:bb<hi) (k:At W blk [v]) (kb:At W bb [.string (bz wd), .int .i64 (a:Int), .slice (some ⟨blk,0,none⟩) 1 1]) :
  Rp W (.op wd a (.cons x .nil)) lo hi (.iface 363 (.pointer (some ⟨bb,0,none⟩))):=by
 have l1:=Rp.le _ _ _ _ r1
 refine ⟨bb,_,lo,blk,rfl,by omega,e4,by unfold Sub;omega,kb,λblk' off n c e=>?_,?_⟩
 ·injection e with e1 e2 e3;injection e1 with e1;injection e1 with e1;subst e1;omega
 ·exact ⟨blk,0,0,1,v,_,h1,rfl,k.1,by unfold Sub;omega,k.2 0 (by simp),n1,r1,by omega,_,_,rfl⟩
theorem dA {s:Sp.Bs} {z:Sp.Bs} {d:Nat} {σ:St} (h:σ.is s z=true):σ.opened s z d=σ.dP s d:=by rw [St.opened,h];rfl
theorem BH {fn:Nat} (hfn:fn=253\/fn=331\/fn=347) {b c cap len:Nat} {s:Sp.Bs} {d:Nat} {σ:St} {w:World} (h:PS b c cap len s d σ w) (z:Sp.Bs) (hf:z∈jC) (hd:d<=1000000) (hs:σ.is s z=true) (τ:St) (nd:Nd)
  (hin:∀ w',Kept b w w'->PS b c cap len s (d+1) (σ.opened s z d) w'->Calls prog fn #[.pointer (some ⟨b,0,none⟩)] w' (aX b c cap len s (d+1) τ w' aR λw'' v=>Rq w'' nd w'.heap.size w''.heap.size v)) :
  Calls prog 282 #[.pointer (some ⟨b,0,none⟩), .string ⟨z.toArray⟩, .func (.func fn) #[.pointer (some ⟨b,0,none⟩)] #[]] w (aX b c cap len s d τ w aR λw' v=>Rp w' (.op (σ.word s) (σ.at_ s) (.cons nd .nil)) w.heap.size w'.heap.size v):=by
 have hbw:=h.lb
 have Om:=hid hin
 clear hin
 obtain ⟨i,wd,hi,tc,PK⟩:=bG h
 have jV:Hid (aP s (pos s i)=σ.at_ s/\wd=bz (σ.word s)):=by
  have:=dW hi tc (cS hs)
  exact ⟨this.1,this.2 (dM hs)⟩
 have HH:=hid h
 have gP:=jR PK
 clear h tc hi PK hs
 generalize kn (aE s (pos s i))=kk at *
 generalize aP s (pos s i)=aa at *
 go_enter func282,ntmps282
 go_wp2_with fail
 refine (gP.out _ rfl).mono ?_
 rintro r w0 ⟨rfl,hb0⟩
 have bP:Hid (PS b c cap len s d σ (w0.alloc (.cells #[.int .i64 kk, .int .i64 aa, .string wd] 155))):=(HH.out.below hb0).alloc _
 have bD:Hid (Kept b w (w0.alloc (.cells #[.int .i64 kk, .int .i64 aa, .string wd] 155))):=(Kept.below hb0).alloc _
 have HB1:Hid (Bk (w0.alloc (.cells #[.int .i64 kk, .int .i64 aa, .string wd] 155)) w0.heap.size [.int .i64 kk, .int .i64 aa, .string wd]):=Bk.new _ _ _
 have hz0:=hb0.size
 clear hb0 gP HH
 go_wp2_with fail
 generalize (w0.alloc (.cells #[.int .i64 kk, .int .i64 aa, .string wd] 155))=w1 at *
 have hx:=HB1.out.lt
 have x0:=HB1.out.k0
 have x1:=HB1.out.k1
 have x2:=HB1.out.k2
 go_region_with (first | (go_at_call 308;refine (rH (.inl ⟨rfl,rfl,hfn,rfl,rfl,rfl⟩) bP.out.drew z hf hd τ nd (λw' k hp=>Om.out w' ((bD.out.drew).trans k) hp)).mono ?_;rintro e w4 ⟨v4,rfl,gJ,hk4,hi4,hr4⟩;have hv4:=hi4.cells;unfold Value.cells at hv4;have hB4:=HB1.out.kept (((Kept.refl b w1).drew).trans hk4) (by omega);have hy:=hB4.lt;have y0:=hB4.k0;have y1:=hB4.k1;have y2:=hB4.k2) | (go_at_call 252;refine (dN _ _ _ _ _ _ _).mono ?_;rintro e w5 ⟨rfl,rfl⟩))
 all_goals
  have jN : Kept b w1 w4:=((Kept.refl b w1).drew).trans hk4
  have eS:Hid (Kept b w w4):=bD.out.trans jN
  have tH:=jN.size
  have hz1:=bD.out.size
  have iD:=hid gJ
  have HI4:=hid hi4
  have HR4:Hid (τ.aA=true->Rq w4 nd w1.heap.size w4.heap.size v4):=hr4
  clear gJ hk4 hi4 hr4 hB4 y0 y1 y2 jN x0 x1 x2 hv4
  go_wp2_with fail
  go_ret
  refine ⟨_,rfl,((iD.out.alloc _).alloc _).alloc _,((eS.out.alloc _).alloc _).alloc _,Or.inr ⟨_,_,rfl⟩,λhl=>?_⟩
  obtain ⟨e1,e2⟩:=jV.out
  subst e1 e2
  have hK:∀ x y z:Obj,Kept b w4 (((w4.alloc x).alloc y).alloc z):=λx y z=>(((Kept.refl b w4).alloc x).alloc y).alloc z
  refine Rp.op1 (((HR4.out hl).1).cO HI4.out.bC (hK _ _ _) (by omega) (aF _)) HI4.out.bC hz1 (aF _) (by omega) (by simp) (((Bk.new w4 _ _).alloc _).alloc _).at_ ?_
  have:=(Bk.new ((w4.alloc (.cells #[v4] 242)).alloc (.cells #[.int .i64 kk, .int .i64 (St.at_ s σ:Nat), .string (bz (St.word s σ))] 155)) #[.string (bz (St.word s σ)), .int .i64 (St.at_ s σ:Nat), .slice (some ⟨w4.heap.size,0,none⟩) 1 1] 379).at_
  simpa using this
theorem Mz {b c cap len:Nat} {s:Sp.Bs} {n:Nat} (IH:Hid (∀ m,m<=n->All b c cap len s m)):Sd b c cap len s (n+1) .no aR 253:=by
 intro d σ w hd hm hp
 have hm' : 32*rem s σ+7<=n+1:=hm
 clear hm
 have hbw:=hp.lb
 have HP:=hid hp
 clear hp
 have hmf:=mG
 cases hs:σ.is s [110,111,116]
 ·have HV:Hid (Sp.run s (n+1) .no d σ=Sp.run s n .compare d σ):=by show _=_;rw [Sp.run,hs];rfl
  have cL:Hid (Sp.tr s (n+1) .no d .nil σ=Sp.tr s n .compare d .nil σ):=by show _=_;rw [Sp.tr,hs];rfl
  go_enter func253,ntmps253
  go_wp2_with fail
  refine (mN HP.out [110,111,116] (by decide)).mono ?_
  rintro r w2 ⟨rfl,hp2,hk2⟩
  rw [hs]
  have HP2:=hid hp2
  have aY:=hid hk2
  clear hp2 hk2
  go_wp2_with fail
  refine ((IH.out n (by omega)).compare d _ _ (by omega) (by show 32*rem s _+6<=n;omega) HP2.out).mono ?_
  rintro r w3 ⟨v3,rfl,hp3,hk3,hi3,hr3⟩
  have dJ:=hid hp3
  have bL:=hid (aY.out.trans hk3)
  have HI3:=hid hi3
  have HR3:Hid ((Sp.run s n .compare d σ).aA=true->Rp w3 (Sp.tr s n .compare d .nil σ) w.heap.size w3.heap.size v3):=λhl=>Rp.wide _ _ _ _ _ _ (hr3 hl) aY.out.size (aF _)
  clear hp3 hk3 hi3 hr3
  go_wp2_with fail
  go_ret
  exact ⟨_,rfl,by rw [HV.out];exact dJ.out,bL.out,HI3.out,by rw [HV.out,cL.out];exact HR3.out⟩
 ·have HV:Hid (Sp.run s (n+1) .no d σ=Sp.run s n .no (d+1) (σ.opened s [110,111,116] d)):=by show _=_;rw [dA hs,Sp.run,hs];rfl
  have cL:Hid (Sp.tr s (n+1) .no d .nil σ = .op (σ.word s) (σ.at_ s) (.cons (Sp.tr s n .no (d+1) .nil (σ.opened s [110,111,116] d)) .nil)):=by show _=_;rw [dA hs,Sp.tr,hs];rfl
  have h1:=eN (d:=d) hs
  rw [<- dA hs] at h1
  have HS:=hid hs
  go_enter func253,ntmps253
  go_wp2_with fail
  refine (mN HP.out [110,111,116] (by decide)).mono ?_
  rintro r w2 ⟨rfl,hp2,hk2⟩
  rw [hs]
  have HP2:=hid hp2
  have aY:=hid hk2
  clear hp2 hk2
  go_wp2_with fail
  refine (BH (.inl rfl) HP2.out [110,111,116] (by decide) (by omega) HS.out (Sp.run s n .no (d+1) (σ.opened s [110,111,116] d)) (Sp.tr s n .no (d+1) .nil (σ.opened s [110,111,116] d)) (λw' _ hp'=>((IH.out n (by omega)).no (d+1) _ _ (by omega) (by show 32*rem s _+7<=n;omega) hp').mono λ_ _ h=>h.rq)).mono ?_
  rintro r w3 ⟨v3,rfl,hp3,hk3,hi3,hr3⟩
  have dJ:=hid hp3
  have bL:=hid (aY.out.trans hk3)
  have HI3:=hid hi3
  have HR3:Hid ((Sp.run s n .no (d+1) (σ.opened s [110,111,116] d)).aA=true->Rp w3 (.op (σ.word s) (σ.at_ s) (.cons (Sp.tr s n .no (d+1) .nil (σ.opened s [110,111,116] d)) .nil)) w.heap.size w3.heap.size v3):=λhl=>Rp.wide _ _ _ _ _ _ (hr3 hl) aY.out.size (aF _)
  clear hp3 hk3 hi3 hr3
  go_wp2_with fail
  go_ret
  exact ⟨_,rfl,by rw [HV.out];exact dJ.out,bL.out,HI3.out,by rw [HV.out,cL.out];exact HR3.out⟩
theorem D8 {b c cap len:Nat} {s:Sp.Bs} {n:Nat} (IH:Hid (∀ m,m<=n->All b c cap len s m)):Sd b c cap len s (n+1) .unary aR 331:=by
 intro d σ w hd hm hp
 have hm' : 32*rem s σ+3<=n+1:=hm
 clear hm
 have hbw:=hp.lb
 have HP:=hid hp
 clear hp
 have hmf:=mG
 cases hs:σ.is s [45]
 ·have HV:Hid (Sp.run s (n+1) .unary d σ=Sp.run s n .atom d σ):=by show _=_;rw [Sp.run,hs];rfl
  have cL:Hid (Sp.tr s (n+1) .unary d .nil σ=Sp.tr s n .atom d .nil σ):=by show _=_;rw [Sp.tr,hs];rfl
  go_enter func331,ntmps331
  go_wp2_with fail
  refine (mN HP.out [45] (by decide)).mono ?_
  rintro r w2 ⟨rfl,hp2,hk2⟩
  rw [hs]
  have HP2:=hid hp2
  have aY:=hid hk2
  clear hp2 hk2
  go_wp2_with fail
  refine ((IH.out n (by omega)).atom d _ _ (by omega) (by show 32*rem s _+2<=n;omega) HP2.out).mono ?_
  rintro r w3 ⟨v3,rfl,hp3,hk3,hi3,hr3⟩
  have dJ:=hid hp3
  have bL:=hid (aY.out.trans hk3)
  have HI3:=hid hi3
  have HR3:Hid ((Sp.run s n .atom d σ).aA=true->Rp w3 (Sp.tr s n .atom d .nil σ) w.heap.size w3.heap.size v3):=λhl=>Rp.wide _ _ _ _ _ _ (hr3 hl) aY.out.size (aF _)
  clear hp3 hk3 hi3 hr3
  go_wp2_with fail
  go_ret
  exact ⟨_,rfl,by rw [HV.out];exact dJ.out,bL.out,HI3.out,by rw [HV.out,cL.out];exact HR3.out⟩
 ·have HV:Hid (Sp.run s (n+1) .unary d σ=Sp.run s n .unary (d+1) (σ.opened s [45] d)):=by show _=_;rw [dA hs,Sp.run,hs];rfl
  have cL:Hid (Sp.tr s (n+1) .unary d .nil σ = .op (σ.word s) (σ.at_ s) (.cons (Sp.tr s n .unary (d+1) .nil (σ.opened s [45] d)) .nil)):=by show _=_;rw [dA hs,Sp.tr,hs];rfl
  have h1:=eN (d:=d) hs
  rw [<- dA hs] at h1
  have HS:=hid hs
  go_enter func331,ntmps331
  go_wp2_with fail
  refine (mN HP.out [45] (by decide)).mono ?_
  rintro r w2 ⟨rfl,hp2,hk2⟩
  rw [hs]
  have HP2:=hid hp2
  have aY:=hid hk2
  clear hp2 hk2
  go_wp2_with fail
  refine (BH (.inr (.inl rfl)) HP2.out [45] (by decide) (by omega) HS.out (Sp.run s n .unary (d+1) (σ.opened s [45] d)) (Sp.tr s n .unary (d+1) .nil (σ.opened s [45] d)) (λw' _ hp'=>((IH.out n (by omega)).unary (d+1) _ _ (by omega) (by show 32*rem s _+3<=n;omega) hp').mono λ_ _ h=>h.rq)).mono ?_
  rintro r w3 ⟨v3,rfl,hp3,hk3,hi3,hr3⟩
  have dJ:=hid hp3
  have bL:=hid (aY.out.trans hk3)
  have HI3:=hid hi3
  have HR3:Hid ((Sp.run s n .unary (d+1) (σ.opened s [45] d)).aA=true->Rp w3 (.op (σ.word s) (σ.at_ s) (.cons (Sp.tr s n .unary (d+1) .nil (σ.opened s [45] d)) .nil)) w.heap.size w3.heap.size v3):=λhl=>Rp.wide _ _ _ _ _ _ (hr3 hl) aY.out.size (aF _)
  clear hp3 hk3 hi3 hr3
  go_wp2_with fail
  go_ret
  exact ⟨_,rfl,by rw [HV.out];exact dJ.out,bL.out,HI3.out,by rw [HV.out,cL.out];exact HR3.out⟩
theorem kX {b c cap len:Nat} {s:Sp.Bs} {d:Nat} {σ:St} {w:World} (h:PS b c cap len s d σ w) (hd:d<=1000000) (kk aa:Int) (wd:ByteArray) (a:Option Addr) (n m:Nat) (τ:St) (nd:Nd)
  (hin:∀ w',PS b c cap len s (d+1) (σ.opened s [40] d) w'->Calls prog 83 #[.pointer (some ⟨b,0,none⟩)] w' (aX b c cap len s (d+1) τ w' aR λw'' v=>Rq w'' nd w'.heap.size w''.heap.size v)) :
  Calls prog 311 #[.pointer (some ⟨b,0,none⟩), .agg #[.int .i64 kk, .int .i64 aa, .string wd], .slice a n m] w λr w'=>∃ qv bb,r = .returned (.iface 367 (.pointer (some ⟨bb,0,none⟩)))/\PS b c cap len s d (τ.must s [41]) w'/\Kept b w w'/\At w' bb [.string wd, .int .i64 aa, .slice a n m,qv]/\aR qv/\w.heap.size<=bb/\((τ.must s [41]).aA=true->Rp w' nd w.heap.size bb qv):=by
 have hbw:=h.lb
 have Om:=hid hin
 have bP:Hid (PS b c cap len s d σ (w.alloc (.cells #[.int .i64 kk, .int .i64 aa, .string wd] 155))):=h.alloc _
 have bD:Hid (Kept b w (w.alloc (.cells #[.int .i64 kk, .int .i64 aa, .string wd] 155))):=(Kept.refl b w).alloc _
 have HB1:Hid (Bk (w.alloc (.cells #[.int .i64 kk, .int .i64 aa, .string wd] 155)) w.heap.size [.int .i64 kk, .int .i64 aa, .string wd]):=Bk.new _ _ _
 clear hin h
 have hmf:=mG
 go_enter func311,ntmps311
 go_wp2_with fail
 generalize (w.alloc (.cells #[.int .i64 kk, .int .i64 aa, .string wd] 155))=w1 at *
 have hx:=HB1.out.lt
 have x1:=HB1.out.k1
 have x2:=HB1.out.k2
 go_region_with (go_at_call 215;refine (jE (.inr (.inr ⟨rfl,rfl,rfl,rfl,rfl,rfl⟩)) bP.out.drew hd τ nd Om.out).mono ?_;rintro e w4 ⟨v4,rfl,gJ,hk4,hi4,hr4⟩;have hv4:=hi4.cells;unfold Value.cells at hv4;have hB4:=HB1.out.kept (((Kept.refl b w1).drew).trans hk4) (by omega);have hy:=hB4.lt;have y1:=hB4.k1;have y2:=hB4.k2)
 all_goals
  have jN : Kept b w1 w4:=((Kept.refl b w1).drew).trans hk4
  have eS:Hid (Kept b w w4):=bD.out.trans jN
  have tH:=jN.size
  have hz1:=bD.out.size
  have iD:=hid gJ
  have HI4:=hid hi4
  have HR4:Hid ((τ.must s [41]).aA=true->Rq w4 nd w1.heap.size w4.heap.size v4):=hr4
  clear gJ hk4 hi4 hr4 hB4 y1 y2 jN x1 x2 hv4
  go_wp2_with fail
  go_ret
  exact ⟨v4,w4.heap.size,rfl,iD.out.alloc _,eS.out.alloc _,(Bk.new w4 _ _).at_,HI4.out,by omega,λhl=>Rp.wide _ _ _ _ _ _ ((HR4.out hl).1.cO HI4.out.bC ((Kept.refl b w4).alloc _) (by omega) (aF _)) hz1 (aF _)⟩
theorem Rp.FR {W:World} {x q:Nd} {lo l1 h1 l2 blk bb hi:Nat} {v u:Value} {wd:Sp.Bs} {a:Nat} (r1:Rp W x l1 h1 v) (n1:b9 v) (r2:Rp W q l2 bb u) (n2:b9 u) (e0:lo<=l1) (e1:h1<=blk) (e2:blk<l2) (e4:bb<hi) (k:At W blk [v]) (kb:At W bb [.string (bz wd), .int .i64 (a:Int), .slice (some ⟨blk,0,none⟩) 1 1,u]) :
  Rp W (.within wd a (.cons x .nil) q) lo hi (.iface 367 (.pointer (some ⟨bb,0,none⟩))):=by
 have f1:=Rp.le _ _ _ _ r1
 have f2:=Rp.le _ _ _ _ r2
 refine ⟨bb,_,_,lo,blk,l2,bb,rfl,by omega,e4,by unfold Sub;omega,by unfold Sub;omega,kb,λblk' off n c e=>?_,?_,n2,r2⟩
 ·injection e with e1 e2 e3;injection e1 with e1;injection e1 with e1;subst e1;omega
 ·exact ⟨blk,0,0,1,v,_,h1,rfl,k.1,by unfold Sub;omega,k.2 0 (by simp),n1,r1,by omega,_,_,rfl⟩
theorem Rp.FS {W:World} {q:Nd} {lo l2 bb hi:Nat} {u:Value} {wd:Sp.Bs} {a:Nat} (r2:Rp W q l2 bb u) (n2:b9 u) (e2:lo<=l2) (e4:bb<hi) (kb:At W bb [.string (bz wd), .int .i64 (a:Int), .slice none 0 0,u]) :
  Rp W (.within wd a .nil q) lo hi (.iface 367 (.pointer (some ⟨bb,0,none⟩))):=by
 have f2:=Rp.le _ _ _ _ r2
 exact ⟨bb,_,_,lo,lo,l2,bb,rfl,by omega,e4,by unfold Sub;omega,by unfold Sub;omega,kb,λblk' off n c e=>(by cases e),⟨aF _,_,_,rfl⟩,n2,r2⟩
theorem U8 (x:ByteArray) (a:Int) (w:World):(Instr.field 165 (.agg #[.string x, .int .i64 a]) 0).run prog w = .ok (.string x) w:=by kernel_rfl
theorem aZ {s:Sp.Bs} {z:Sp.Bs} {σ:St} (h:σ.is s z=true):σ.take s z=σ.step s:=by rw [St.take,h];rfl
theorem bE {s:Sp.Bs} {z:Sp.Bs} {σ:St} (h:σ.is s z=false):σ.take s z=σ:=by rw [St.take,h];rfl
theorem cX {b c cap len:Nat} {s:Sp.Bs} {d:Nat} {σ:St} {w:World} (h:PS b c cap len s d σ w) (z:Sp.Bs) (hf:z∈jC) (q:Nat) (hq:q=w.heap.size) :
  Calls prog 76 #[.pointer (some ⟨b,0,none⟩), .slice (some ⟨q,0,none⟩) 1 1] (w.alloc (.cells #[.string ⟨z.toArray⟩] 9)) λr w'=>r = .returned (.bool (σ.is s z))/\PS b c cap len s d (σ.take s z) w'/\Kept b w w':=by
 subst hq;exact aW h z hf
theorem kY {b c cap len:Nat} {s:Sp.Bs} {d:Nat} {σ:St} {w:World} (h:PS b c cap len s d σ w) (z:Sp.Bs) (hf:z∈jC) (q:Nat) (hq:q=w.heap.size) :
  Calls prog 78 #[.pointer (some ⟨b,0,none⟩), .slice (some ⟨q,0,none⟩) 1 1] (w.alloc (.cells #[.string ⟨z.toArray⟩] 9)) (Post b c cap len s d (σ.must s z) w):=by
 subst hq;exact cG h z hf
def iI (s:Sp.Bs) (σ:St):Nd:=if (σ.step s).is s [46] then .col (σ.word s) (((σ.step s).step s).word s) (σ.at_ s) 0 0 0 else .col [] (σ.word s) (σ.at_ s) 0 0 0
def colS (s:Sp.Bs) (σ:St):St:=if (σ.step s).is s [46] then ((σ.step s).step s).aD s else σ.step s
theorem On {W:World} {lo hi bb:Nat} {t n:Sp.Bs} {a:Nat} (h:Bk W bb [.string (bz t), .string (bz n), .int .i64 (a:Int), .int .i64 0, .int .i64 0, .int .i64 0]) (h1:lo<=bb) (h2:bb<hi):Rp W (.col t n a 0 0 0) lo hi (.iface 361 (.pointer (some ⟨bb,0,none⟩))):=
 ⟨bb,rfl,h1,h2,h.at_,h.f⟩
theorem D9 {b c cap len:Nat} {s:Sp.Bs} {d:Nat} {σ:St} {w:World} (h:PS b c cap len s d σ w) (hn:σ.cP s .name=true) :
  Calls prog 343 #[.pointer (some ⟨b,0,none⟩)] w (aX b c cap len s d (colS s σ) w aR λw' v=>Rp w' (iI s σ) w.heap.size w'.heap.size v):=by
 have hbw:=h.lb
 have hcw:=h.lc
 have HM:Hid (σ.aD s=σ.step s/\(σ.step s).aA=true):=⟨by rw [St.aD,hn];rfl,by
  have:=jQ hn
  cases σ with | live e=>rfl | dead x a=>exact this⟩
 have HN:=name_any h
 have Uh:=jR HN
 clear HN h hn
 cases hs:(σ.step s).is s [46]
 ·have HV:Hid (colS s σ=σ.step s/\iI s σ = .col [] (σ.word s) (σ.at_ s) 0 0 0):=⟨by rw [colS,hs];rfl,by rw [iI,hs];rfl⟩
  have HT:Hid ((σ.step s).take s [46]=σ.step s):=bE hs
  go_enter func343,ntmps343
  go_wp2_with fail
  refine (Uh.out _ rfl).mono ?_
  rintro r w1 ⟨v1,rfl,hp1,hk1,hi1,hr1⟩
  rw [HM.out.1] at hp1 hr1
  obtain rfl:=hr1 HM.out.2
  clear hr1 hi1
  have bP:Hid (PS b c cap len s d (σ.step s) w1):=hp1
  have bD:=hid hk1
  clear hp1 hk1 Uh
  dsimp only [Q7,St.nm]
  have HB1:Hid (Bk (w1.alloc (.cells #[.string (bz (σ.word s)), .int .i64 (σ.at_ s:Nat)] 165)) w1.heap.size [.string (bz (σ.word s)), .int .i64 (σ.at_ s:Nat)]):=Bk.new _ _ _
  go_wp2_with fail
  refine (cX (bP.out.alloc _) [46] (by decide) _ (by simp)).mono ?_
  rintro r w2 ⟨rfl,hp2,hk2⟩
  rw [HT.out] at hp2
  rw [hs]
  have hz1:=bD.out.size
  have HP2:Hid (PS b c cap len s d (σ.step s) w2):=hp2
  have aY:Hid (Kept b w w2):=(bD.out.alloc _).trans hk2
  have HB2:=HB1.out.kept hk2 (by omega)
  have hx:=HB2.lt
  have x0:=HB2.k0
  have x1:=HB2.k1
  clear hp2 hk2 HB2 HB1
  go_wp2_with fail
  go_ret
  refine ⟨_,rfl,by rw [HV.out.1];exact HP2.out.alloc _,aY.out.alloc _,Or.inr ⟨_,_,rfl⟩,λ_=>?_⟩
  rw [HV.out.2]
  exact On (Bk.new w2 _ _) (by omega) (by simp)
 ·have HV:Hid (colS s σ=((σ.step s).step s).aD s/\iI s σ = .col (σ.word s) (((σ.step s).step s).word s) (σ.at_ s) 0 0 0):=⟨by rw [colS,hs];rfl,by rw [iI,hs];rfl⟩
  have HT:Hid ((σ.step s).take s [46]=(σ.step s).step s):=aZ hs
  go_enter func343,ntmps343
  go_wp2_with fail
  refine (Uh.out _ rfl).mono ?_
  rintro r w1 ⟨v1,rfl,hp1,hk1,hi1,hr1⟩
  rw [HM.out.1] at hp1 hr1
  obtain rfl:=hr1 HM.out.2
  clear hr1 hi1
  have bP:Hid (PS b c cap len s d (σ.step s) w1):=hp1
  have bD:=hid hk1
  clear hp1 hk1 Uh
  dsimp only [Q7,St.nm]
  have HB1:Hid (Bk (w1.alloc (.cells #[.string (bz (σ.word s)), .int .i64 (σ.at_ s:Nat)] 165)) w1.heap.size [.string (bz (σ.word s)), .int .i64 (σ.at_ s:Nat)]):=Bk.new _ _ _
  go_wp2_with fail
  refine (cX (bP.out.alloc _) [46] (by decide) _ (by simp)).mono ?_
  rintro r w2 ⟨rfl,hp2,hk2⟩
  rw [HT.out] at hp2
  rw [hs]
  have hz1:=bD.out.size
  have HP2:Hid (PS b c cap len s d ((σ.step s).step s) w2):=hp2
  have aY:Hid (Kept b w w2):=(bD.out.alloc _).trans hk2
  have HB2:Hid (Bk w2 w1.heap.size [.string (bz (σ.word s)), .int .i64 (σ.at_ s:Nat)]):=HB1.out.kept hk2 (by omega)
  have hx:=HB2.out.lt
  have x0:=HB2.out.k0
  have x1:=HB2.out.k1
  clear hp2 hk2 HB1
  have hnf:=U8
  go_wp2_with fail
  go_region_with (go_at_call 79;refine (name_any HP2.out.drew).mono ?_;rintro e w4 ⟨v4,rfl,gJ,hk4,⟨wd4,a4,rfl⟩,hr4⟩;have hB4:=HB2.out.kept (((Kept.refl b w2).drew).trans hk4) (by omega);have hy:=hB4.lt;have y0:=hB4.k0;have y1:=hB4.k1)
  all_goals
   have jN : Kept b w2 w4:=((Kept.refl b w2).drew).trans hk4
   have eS:Hid (Kept b w w4):=aY.out.trans jN
   have iD:=hid gJ
   have HR4:Hid ((((σ.step s).step s).aD s).aA=true->wd4=bz (((σ.step s).step s).word s)):=λhl=>by
    have:=hr4 hl
    simp only [Q7,St.nm,Value.agg.injEq] at this
    have e:=congrArg (λx:Array Value=>x[0]?) this
    simpa using e
   clear gJ hk4 hr4 hB4 y0 y1 jN x0 x1
   go_wp2_with fail
   go_ret
   have tH:=eS.out.size
   refine ⟨_,rfl,by rw [HV.out.1];exact iD.out.alloc _,eS.out.alloc _,Or.inr ⟨_,_,rfl⟩,λhl=>?_⟩
   rw [HV.out.1] at hl
   have e4:=HR4.out hl
   subst e4
   rw [HV.out.2]
   exact On (Bk.new w4 _ _) (by omega) (by simp)
theorem qA {W:World} {lo hi bb:Nat} {v:Sv.Val} (h:At W bb [.int .i64 v.k, .int .i64 v.n, .string v.s]) (h1:lo<=bb) (h2:bb<hi):Rp W (.const v) lo hi (.iface 358 (.pointer (some ⟨bb,0,none⟩))):=
 ⟨bb,rfl,h1,h2,h⟩
theorem Ea {b c cap len:Nat} {s:Sp.Bs} {d:Nat} {σ:St} {w:World} (h:PS b c cap len s d σ w) (v:Value) (hv:aR v) (nd:Nd) (lo:Nat) (hlo:b<lo) (hr:σ.aA=true->Rp w nd lo w.heap.size v) (_hll:lo<=w.heap.size) :
  Calls prog 310 #[.pointer (some ⟨b,0,none⟩),v] w (aX b c cap len s d ((σ.take s [110,111,116]).must s [110,117,108,108]) w aR λw' v'=>Rp w' (if σ.is s [110,111,116] then .op (σ.word s) (σ.at_ s) (.cons nd .nil) else nd) lo w'.heap.size v'):=by
 have hbw:=h.lb
 obtain ⟨i,wd,hi,tc,PK⟩:=bG h
 have jV:Hid (σ.is s [110,111,116]=true->aP s (pos s i)=σ.at_ s/\wd=bz (σ.word s)):=λhs=>by
  have:=dW hi tc (cS hs)
  exact ⟨this.1,this.2 (dM hs)⟩
 have HH:=hid h
 have gP:=jR PK
 have HI:=hid hv
 have HR:=hid hr
 clear h tc hi PK hv hr
 generalize kn (aE s (pos s i))=kk at *
 generalize aP s (pos s i)=aa at *
 cases hs:σ.is s [110,111,116]
 ·have HV:Hid (σ.take s [110,111,116]=σ):=bE hs
  go_enter func310,ntmps310
  go_wp2_with fail
  refine (gP.out _ rfl).mono ?_
  rintro r w0 ⟨rfl,hb0⟩
  have bP:Hid (PS b c cap len s d σ (w0.alloc (.cells #[.int .i64 kk, .int .i64 aa, .string wd] 155))):=(HH.out.below hb0).alloc _
  have bD:Hid (Kept b w (w0.alloc (.cells #[.int .i64 kk, .int .i64 aa, .string wd] 155))):=(Kept.below hb0).alloc _
  clear hb0 gP HH
  go_wp2_with fail
  refine (cX bP.out [110,111,116] (by decide) _ (by simp)).mono ?_
  rintro r w2 ⟨rfl,hp2,hk2⟩
  rw [HV.out] at hp2
  rw [hs]
  have HP2:Hid (PS b c cap len s d σ w2):=hp2
  have aY:=hid (bD.out.trans hk2)
  clear hp2 hk2
  go_wp2_with fail
  refine (cG HP2.out [110,117,108,108] (by decide)).mono ?_
  rintro r w3 ⟨rfl,hp3,hk3⟩
  have dJ:=hid hp3
  have bL:=hid (aY.out.trans hk3)
  clear hp3 hk3
  go_wp2_with fail
  go_ret
  refine ⟨_,rfl,by rw [HV.out];exact dJ.out,bL.out,HI.out,λhl=>?_⟩
  rw [HV.out] at hl
  exact Rp.wide _ _ _ _ _ _ ((HR.out (bK hl)).cO HI.out.bC bL.out hlo (aF _)) (aF _) bL.out.size
 ·have HV:Hid (σ.take s [110,111,116]=σ.step s):=aZ hs
  have HT:Hid (aa=σ.at_ s/\wd=bz (σ.word s)):=jV.out hs
  have HL:Hid (σ.aA=true):=cS hs
  have Ui:=HI.out.cells
  unfold Value.cells at Ui
  go_enter func310,ntmps310
  go_wp2_with fail
  refine (gP.out _ rfl).mono ?_
  rintro r w0 ⟨rfl,hb0⟩
  have bP:Hid (PS b c cap len s d σ (w0.alloc (.cells #[.int .i64 kk, .int .i64 aa, .string wd] 155))):=(HH.out.below hb0).alloc _
  have bD:Hid (Kept b w (w0.alloc (.cells #[.int .i64 kk, .int .i64 aa, .string wd] 155))):=(Kept.below hb0).alloc _
  have HB1:Hid (Bk (w0.alloc (.cells #[.int .i64 kk, .int .i64 aa, .string wd] 155)) w0.heap.size [.int .i64 kk, .int .i64 aa, .string wd]):=Bk.new _ _ _
  have hz0:=hb0.size
  clear hb0 gP HH
  go_wp2_with fail
  refine (cX bP.out [110,111,116] (by decide) _ (by simp)).mono ?_
  rintro r w2 ⟨rfl,hp2,hk2⟩
  rw [HV.out] at hp2
  rw [hs]
  have HP2:Hid (PS b c cap len s d (σ.step s) w2):=hp2
  have aY:=hid (bD.out.trans hk2)
  have HB2:Hid (Bk w2 w0.heap.size [.int .i64 kk, .int .i64 aa, .string wd]):=HB1.out.kept hk2 (by omega)
  clear hp2 hk2
  go_wp2_with fail
  refine (cG HP2.out [110,117,108,108] (by decide)).mono ?_
  rintro r w3 ⟨rfl,hp3,hk3⟩
  have dJ:=hid hp3
  have bL:=hid (aY.out.trans hk3)
  have hB3:=HB2.out.kept hk3 (by omega)
  have hx:=hB3.lt
  have x0:=hB3.k0
  have x1:=hB3.k1
  have x2:=hB3.k2
  clear hp3 hk3 hB3
  go_wp2_with fail
  refine (dN _ _ _ _ _ _ _).mono ?_
  rintro e w5 ⟨rfl,rfl⟩
  go_wp2_with fail
  go_ret
  refine ⟨_,rfl,by rw [HV.out];exact ((dJ.out.alloc _).alloc _).alloc _,((bL.out.alloc _).alloc _).alloc _,Or.inr ⟨_,_,rfl⟩,λhl=>?_⟩
  obtain ⟨e1,e2⟩:=HT.out
  subst e1 e2
  have hz3:=bL.out.size
  have hK:∀ x y z:Obj,Kept b w3 (((w3.alloc x).alloc y).alloc z):=λx y z=>(((Kept.refl b w3).alloc x).alloc y).alloc z
  refine Rp.op1 (((HR.out HL.out).cO HI.out.bC bL.out hlo (aF _)).cO HI.out.bC (hK _ _ _) hlo hz3) HI.out.bC (aF _) hz3 (by omega) (by simp) (((Bk.new w3 _ _).alloc _).alloc _).at_ ?_
  have:=(Bk.new ((w3.alloc (.cells #[v] 242)).alloc (.cells #[.int .i64 kk, .int .i64 (St.at_ s σ:Nat), .string (bz (St.word s σ))] 155)) #[.string (bz (St.word s σ)), .int .i64 (St.at_ s σ:Nat), .slice (some ⟨w3.heap.size,0,none⟩) 1 1] 379).at_
  simpa using this
end Go.Proofs.YtgnncnhkgmhngaaGreatDoor
