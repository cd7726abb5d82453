import Derived.Test.YtgnncnhkgmhngaaGreatDoorJ14
import Derived.Test.YtgnncnhkgmhngaaGreatDoorJ10
import Derived.ArgAppend
set_option maxHeartbeats 8000000
namespace Go.Proofs.YtgnncnhkgmhngaaGreatDoor
open Sp
open Go.RowKit
theorem tK (s:Sp.Bs) (σ:St):aT s [[61], [60,62], [60], [60,61], [62], [62,61]] σ=σ.hZ s:=by
 simp [aT,St.hZ,Bool.or_assoc]
theorem IS {b c cap len:Nat} {s:Sp.Bs} {d:Nat} {σ:St} {w:World} (h:PS b c cap len s d σ w) (q:Nat) (hq:q=w.heap.size) :
  Calls Tryz.prog 76 #[.pointer (some ⟨b,0,none⟩), .slice (some ⟨q,0,none⟩) 6 6] (w.alloc (.cells #[.string ⟨#[61]⟩, .string ⟨#[60,62]⟩, .string ⟨#[60]⟩, .string ⟨#[60,61]⟩, .string ⟨#[62]⟩, .string ⟨#[62,61]⟩] 9)) λr w'=>r = .returned (.bool (σ.hZ s))/\PS b c cap len s d (yM (σ.hZ s) s σ) w'/\Kept b w w':=by
 subst hq
 have:=oB h [[61], [60,62], [60], [60,61], [62], [62,61]] (by decide) (by decide) 6 rfl #[.string ⟨#[61]⟩, .string ⟨#[60,62]⟩, .string ⟨#[60]⟩, .string ⟨#[60,61]⟩, .string ⟨#[62]⟩, .string ⟨#[62,61]⟩] rfl
 rw [tK] at this
 exact this
theorem KY {s:Sp.Bs} {σ:St} (h:σ.hZ s=true):rem s (σ.step s)<rem s σ:=by
 rw [<- tK] at h
 exact pK h
theorem AZ {b c cap len:Nat} {s:Sp.Bs} {n d:Nat} {σ:St} {w:World} (IH:Hid (∀ m,m<=n->All b c cap len s m)) (hd:d+(n+1)<=1000000) (hm:32*rem s σ+6<=n+1) (hp:PS b c cap len s d σ w) :
  Calls Tryz.prog 283 #[.pointer (some ⟨b,0,none⟩)] w (aX b c cap len s d (Sp.run s (n+1) .compare d σ) w aQ λw' v=>Rp w' (Sp.tr s (n+1) .compare d .nil σ) w.heap.size w'.heap.size v):=by
 have hbw:=hp.lb
 have hcw:=hp.lc
 have hr:=cJ s n .sum d σ
 have IT:=hid hp
 clear hp
 go_enter Tryz.func283,Tryz.ntmps283
 go_wp2_with fail
 refine ((IH.out n (aF _)).sum d σ _ (by omega) (by show 32*rem s σ+5<=n;omega) IT.out).mono ?_
 rintro r w1 ⟨v1,rfl,hp1,hk1,hi1,hr1⟩
 obtain ⟨i,wd,hi,tc,PK⟩:=bG hp1
 have jQ:Hid ((Sp.run s n .sum d σ).aA=true->aO s (pos s i)=(Sp.run s n .sum d σ).at_ s/\((∀ e,(Sp.run s n .sum d σ) = .live e->aD s e ≠ .bad)->wd=bz ((Sp.run s n .sum d σ).word s))):=λhl=>dO hi tc hl
 have bT:=hid hp1
 have bD:=hid hk1
 have HI1:=hid hi1
 have HR1:=hid hr1
 have gJ:=jL PK
 clear hp1 hk1 hi1 hr1 hi tc PK IT
 generalize kn (aD s (pos s i))=kk at gJ
 generalize aO s (pos s i)=aa at *
 generalize hσ:Sp.run s n .sum d σ=σ1 at *
 have hv1:=HI1.out.cells
 unfold Value.cells at hv1
 go_wp2_with fail
 refine (gJ.out _ rfl).mono ?_
 rintro r w2 ⟨rfl,hb2⟩
 have HB2:=hid hb2
 clear hb2 gJ
 have cS:Hid (PS b c cap len s d σ1 (w2.alloc (.cells #[.int .i64 kk, .int .i64 (aa:Int), .string wd] 155))):=(bT.out.below HB2.out).alloc _
 have bH:Hid (Kept b w1 (w2.alloc (.cells #[.int .i64 kk, .int .i64 (aa:Int), .string wd] 155))):=(Kept.below HB2.out).alloc _
 have vI:Hid (Bk (w2.alloc (.cells #[.int .i64 kk, .int .i64 (aa:Int), .string wd] 155)) w2.heap.size [.int .i64 kk, .int .i64 (aa:Int), .string wd]):=Bk.new _ _ _
 have hz2:w1.heap.size<=w2.heap.size:=HB2.out.size
 have hz1:w.heap.size<=w1.heap.size:=bD.out.size
 clear HB2 bT
 go_wp2_with fail
 refine (IS cS.out _ (by simp)).mono ?_
 rintro r w4 ⟨rfl,hp,hk⟩
 cases h6:σ1.hZ s
 ·rw [h6] at hp
  have gY:Hid (PS b c cap len s d σ1 w4):=hp
  have eC:=hid (bH.out.trans hk)
  have lE:Hid (Bk w4 w2.heap.size [.int .i64 kk, .int .i64 (aa:Int), .string wd]):=vI.out.kept hk (by omega)
  clear hp hk cS bH vI
  go_wp2_with fail
  refine (aW gY.out [105,115] (by decide)).mono ?_
  rintro r w5 ⟨rfl,hp,hk⟩
  cases his:σ1.is s [105,115]
  ·rw [bE his] at hp
   have iV:=hid hp
   have iD:=hid (eC.out.trans hk)
   have eM:Hid (Bk w5 w2.heap.size [.int .i64 kk, .int .i64 (aa:Int), .string wd]):=lE.out.kept hk (by omega)
   clear hp hk gY eC lE
   go_wp2_with fail
   refine (aW iV.out [110,111,116] (by decide)).mono ?_
   rintro r w6 ⟨rfl,hp,hk⟩
   cases hnot:σ1.is s [110,111,116]
   ·rw [bE hnot] at hp
    have kA:=hid hp
    have iX:=hid (iD.out.trans hk)
    have iY:Hid (Bk w6 w2.heap.size [.int .i64 kk, .int .i64 (aa:Int), .string wd]):=eM.out.kept hk (by omega)
    clear hp hk iV iD eM
    go_wp2_with fail
    refine (aW kA.out [105,110] (by decide)).mono ?_
    rintro r w7 ⟨rfl,hp,hk⟩
    cases hin:σ1.is s [105,110]
    ·rw [bE hin] at hp
     have HV:Hid (Sp.run s (n+1) .compare d σ=σ1):=by show _=_;rw [Sp.run];simp only [hσ,h6,his,hnot,hin,if_false,Bool.false_eq_true]
     have cA:Hid (Sp.tr s (n+1) .compare d .nil σ=(Sp.tr s n .sum d .nil σ)):=by show _=_;rw [Sp.tr];simp only [hσ,h6,his,hnot,hin,if_false,Bool.false_eq_true]
     have o7:=hid hp
     have rN:=hid (iX.out.trans hk)
     have pN:Hid (Bk w7 w2.heap.size [.int .i64 kk, .int .i64 (aa:Int), .string wd]):=iY.out.kept hk (by omega)
     clear hp hk kA iX iY
     go_wp2_with fail
     go_ret
     refine ⟨_,rfl,by rw [HV.out];exact o7.out,bD.out.trans rN.out,HI1.out,λhl=>?_⟩
     rw [HV.out] at hl
     rw [cA.out]
     exact Rp.wide _ _ _ _ _ _ ((HR1.out hl).cF HI1.out.bC rN.out hbw (aF _)) (aF _) rN.out.size
    ·rw [aZ hin] at hp
     have h1:=aM hin
     have h3:=iB s [40] d (St.step s σ1)
     have lD:Hid (σ1.aA=true/\∀ e,σ1 = .live e->aD s e ≠ .bad):=⟨cK hin,dC hin⟩
     have HV:Hid (Sp.run s (n+1) .compare d σ=St.must s [41] (Sp.run s n .query (d+1) (St.opened s [40] d (St.step s σ1)))):=by show _=_;rw [Sp.run];simp only [hσ,h6,his,hnot,hin,if_true,if_false,Bool.false_eq_true]
     have cA:Hid (Sp.tr s (n+1) .compare d .nil σ=Nd.within (St.word s σ1) (St.at_ s σ1) (.cons (Sp.tr s n .sum d .nil σ) .nil) (Sp.tr s n .query (d+1) .nil (St.opened s [40] d (St.step s σ1)))):=by show _=_;rw [Sp.tr];simp only [hσ,h6,his,hnot,hin,if_true,if_false,Bool.false_eq_true]
     have o7:=hid hp
     have rN:=hid (iX.out.trans hk)
     have pN:Hid (Bk w7 w2.heap.size [.int .i64 kk, .int .i64 (aa:Int), .string wd]):=iY.out.kept hk (by omega)
     clear hp hk kA iX iY
     have hx:=pN.out.lt
     have x0:=pN.out.k0
     have x1:=pN.out.k1
     have x2:=pN.out.k2
     have HT:Hid (aa=σ1.at_ s/\wd=bz (σ1.word s)):=⟨(jQ.out lD.out.1).1,(jQ.out lD.out.1).2 lD.out.2⟩
     have IP:=rN.out.size
     go_wp2_with fail
     refine (kJ (o7.out.alloc _) (by omega) _ _ _ _ _ _ (Sp.run s n .query (d+1) (St.opened s [40] d (σ1.step s))) (Sp.tr s n .query (d+1) .nil (St.opened s [40] d (σ1.step s))) (λw' hp'=>((IH.out n (aF _)).query (d+1) _ _ (by omega) (by show 32*rem s _+15<=n;omega) hp').mono λ_ _ h=>h.rq)).mono ?_
     rintro r w8 ⟨qv,bb,rfl,PO,hk8,Vh,Vi,hb8,PP⟩
     have Gm:=hid PO
     have NG:=hid hk8
     have Vj:=hid Vh
     have Xl:=hid Vi
     have Vk:w7.heap.size+1<=bb:=by simpa using hb8
     have O7:=hid PP
     clear PO hk8 Vh Vi hb8 PP x0 x1 x2 hv1
     go_wp2_with fail
     go_ret
     refine ⟨_,rfl,by rw [HV.out];exact Gm.out,bD.out.trans ((rN.out.alloc _).trans NG.out),Or.inr ⟨_,_,rfl⟩,λhl=>?_⟩
     rw [HV.out] at hl
     rw [cA.out]
     obtain ⟨e1,e2⟩:=HT.out
     subst e1 e2
     have r8:=O7.out hl
     have k7:Kept b w7 w8:=((Kept.refl b w7).alloc _).trans NG.out
     exact Rp.EX (((HR1.out lD.out.1).cF HI1.out.bC rN.out hbw (aF _)).cF HI1.out.bC k7 hbw (by omega)) HI1.out.bC r8 Xl.out.bC (aF _) (by omega) (by simp) Vj.out.1 (((Bk.new w7 _ _).kept NG.out (by omega)).at_) Vj.out
   ·rw [aZ hnot] at hp
    have h1:=aM hnot
    have h2:=bZ s [105,110] (St.step s σ1)
    have h3:=iB s [40] d (St.must s [105,110] (St.step s σ1))
    have lD:Hid (σ1.aA=true/\∀ e,σ1 = .live e->aD s e ≠ .bad):=⟨cK hnot,dC hnot⟩
    have HV:Hid (Sp.run s (n+1) .compare d σ=St.must s [41] (Sp.run s n .query (d+1) (St.opened s [40] d (St.must s [105,110] (St.step s σ1))))):=by show _=_;rw [Sp.run];simp only [hσ,h6,his,hnot,if_true,if_false,Bool.false_eq_true]
    have cA:Hid (Sp.tr s (n+1) .compare d .nil σ=Nd.op (St.word s σ1) (St.at_ s σ1) (.cons (.within (St.word s (St.step s σ1)) (St.at_ s (St.step s σ1)) (.cons (Sp.tr s n .sum d .nil σ) .nil) (Sp.tr s n .query (d+1) .nil (St.opened s [40] d (St.must s [105,110] (St.step s σ1))))) .nil)):=by show _=_;rw [Sp.tr];simp only [hσ,h6,his,hnot,if_true,if_false,Bool.false_eq_true]
    have kA:=hid hp
    have iX:=hid (iD.out.trans hk)
    have iY:Hid (Bk w6 w2.heap.size [.int .i64 kk, .int .i64 (aa:Int), .string wd]):=eM.out.kept hk (by omega)
    clear hp hk iV iD eM
    have HT:Hid (aa=σ1.at_ s/\wd=bz (σ1.word s)):=⟨(jQ.out lD.out.1).1,(jQ.out lD.out.1).2 lD.out.2⟩
    obtain ⟨i2,wd2,hi2,Vl,Vm⟩:=bG kA.out
    have Tj:Hid (((σ1.step s).must s [105,110]).aA=true->aO s (pos s i2)=(σ1.step s).at_ s/\wd2=bz ((σ1.step s).word s)):=λhl=>by
     have hl':=bK hl
     have hi:(σ1.step s).is s [105,110]=true:=by
      cases hx:(σ1.step s).is s [105,110]
      ·rw [St.must,hx] at hl;exact (eV hl).elim
      ·rfl
     have:=dO hi2 Vl hl'
     exact ⟨this.1,this.2 (dC hi)⟩
    have NH:=jL Vm
    clear hi2 Vl Vm
    generalize kn (aD s (pos s i2))=PQ at NH
    generalize aO s (pos s i2)=O8 at *
    go_wp2_with fail
    refine (NH.out _ rfl).mono ?_
    rintro r w7 ⟨rfl,hb7⟩
    have IP:=hb7.size
    have Gm:Hid (PS b c cap len s d (σ1.step s) (w7.alloc (.cells #[.int .i64 PQ, .int .i64 (O8:Int), .string wd2] 155))):=(kA.out.below hb7).alloc _
    have EZ:Hid (Kept b w6 (w7.alloc (.cells #[.int .i64 PQ, .int .i64 (O8:Int), .string wd2] 155))):=(Kept.below hb7).alloc _
    have Vn:Hid (Bk (w7.alloc (.cells #[.int .i64 PQ, .int .i64 (O8:Int), .string wd2] 155)) w7.heap.size [.int .i64 PQ, .int .i64 (O8:Int), .string wd2]):=Bk.new _ _ _
    clear hb7 NH
    have Ds:=iX.out.size
    have hx6:=iY.out.lt
    go_wp2_with fail
    refine (kK Gm.out [105,110] (by decide) _ (by simp)).mono ?_
    rintro r w9 ⟨rfl,tL,hk9⟩
    have IU:=hid tL
    have Gn:Hid (Kept b w1 w9):=iX.out.trans (EZ.out.trans hk9)
    have Ax:Hid (Bk w9 w2.heap.size [.int .i64 kk, .int .i64 (aa:Int), .string wd]):=iY.out.kept (EZ.out.trans hk9) (by omega)
    have R4:Hid (Bk w9 w7.heap.size [.int .i64 PQ, .int .i64 (O8:Int), .string wd2]):=Vn.out.kept hk9 (by omega)
    clear tL hk9 Gm EZ Vn iY
    have hx:=Ax.out.lt
    have x0:=Ax.out.k0
    have x1:=Ax.out.k1
    have x2:=Ax.out.k2
    have hy:=R4.out.lt
    have y0:=R4.out.k0
    have y1:=R4.out.k1
    have y2:=R4.out.k2
    have Xm:=Gn.out.size
    go_wp2_with fail
    go_region_with (first | (go_at_call 311;refine (kJ (IU.out.alloc _).drew (by omega) _ _ _ _ _ _ (Sp.run s n .query (d+1) (St.opened s [40] d ((σ1.step s).must s [105,110]))) (Sp.tr s n .query (d+1) .nil (St.opened s [40] d ((σ1.step s).must s [105,110]))) (λw' hp'=>((IH.out n (aF _)).query (d+1) _ _ (by omega) (by show 32*rem s _+15<=n;omega) hp').mono λ_ _ h=>h.rq)).mono ?_;rintro r w10 ⟨qv,bb,rfl,PR,hk10,PT,PU,NI,PW⟩;have IV:=(Ax.out.alloc (.cells #[v1] 242)).kept (((Kept.refl b _).drew).trans hk10) (by omega);have hu:=IV.lt;have u0:=IV.k0;have u1:=IV.k1;have u2:=IV.k2) | (go_at_call 252;refine (dD _ _ _ _ _ _ _).mono ?_;rintro e Xn ⟨rfl,rfl⟩))
    all_goals
     have A7:Hid (Kept b (w9.alloc (.cells #[v1] 242)) w10):=((Kept.refl b _).drew).trans hk10
     have IW:=hid PR
     have PX:Hid (At w10 bb [.string wd2, .int .i64 (O8:Int), .slice (some ⟨w9.heap.size,0,none⟩) 1 1,qv]):=PT
     have Tl:=hid PU
     have Xo:w9.heap.size+1<=bb:=by have e:(w9.alloc (.cells #[v1] 242)).drew.heap.size=(w9.alloc (.cells #[v1] 242)).heap.size:=rfl;rw [e] at NI;simpa using NI
     have Tm:Hid (_->Rp w10 _ (w9.alloc (.cells #[v1] 242)).heap.size bb qv):=PW
     clear PR hk10 PT PU NI PW x0 x1 x2 y0 y1 y2 hv1 IV u0 u1 u2
     go_wp2_with fail
     go_ret
     refine ⟨_,rfl,by rw [HV.out];exact ((IW.out.alloc _).alloc _).alloc _,bD.out.trans (((((Gn.out.alloc _).trans A7.out).alloc _).alloc _).alloc _),Or.inr ⟨_,_,rfl⟩,λhl=>?_⟩
     rw [HV.out] at hl
     rw [cA.out]
     have hl2:=AI (dM (bK hl))
     obtain ⟨e1,e2⟩:=HT.out
     subst e1 e2
     obtain ⟨e3,e4⟩:=Tj.out hl2
     subst e3 e4
     have r10:=Tm.out hl
     have k9:Kept b w9 w10:=((Kept.refl b w9).alloc _).trans A7.out
     have Xp:=k9.size
     have hK:∀ x y z:Obj,Kept b w10 (((w10.alloc x).alloc y).alloc z):=λx y z=>(((Kept.refl b w10).alloc x).alloc y).alloc z
     have R:=Rp.EX (hi:=w10.heap.size) (((HR1.out lD.out.1).cF HI1.out.bC Gn.out hbw (aF _)).cF HI1.out.bC k9 hbw (by omega)) HI1.out.bC r10 Tl.out.bC (aF _) (by omega) (by simp) PX.out.1 (((Bk.new w9 _ _).kept A7.out (by omega)).at_) PX.out
     refine Rp.op1 (R.cF (cH.iface _ _) (hK _ _ _) hbw (aF _)) (cH.iface _ _) (aF _) (aF _) (by omega) (by simp) (((Bk.new w10 _ _).alloc _).alloc _).at_ ?_
     have:=(Bk.new ((w10.alloc (.cells #[.iface 367 (.pointer (some ⟨bb,0,none⟩))] 242)).alloc (.cells #[.int .i64 kk, .int .i64 (St.at_ s σ1:Nat), .string (bz (St.word s σ1))] 155)) #[.string (bz (St.word s σ1)), .int .i64 (St.at_ s σ1:Nat), .slice (some ⟨w10.heap.size,0,none⟩) 1 1] 379).at_
     simpa using this
  ·rw [aZ his] at hp
   have lD:Hid (σ1.aA=true/\∀ e,σ1 = .live e->aD s e ≠ .bad):=⟨cK his,dC his⟩
   have HV:Hid (Sp.run s (n+1) .compare d σ=St.must s [110,117,108,108] (St.take s [110,111,116] (St.step s σ1))):=by show _=_;rw [Sp.run];simp only [hσ,h6,his,if_true,if_false,Bool.false_eq_true]
   have cA:Hid (Sp.tr s (n+1) .compare d .nil σ=(if (St.step s σ1).is s [110,111,116] then Nd.op (St.word s (St.step s σ1)) (St.at_ s (St.step s σ1)) (.cons (.op (St.word s σ1) (St.at_ s σ1) (.cons (Sp.tr s n .sum d .nil σ) .nil)) .nil) else .op (St.word s σ1) (St.at_ s σ1) (.cons (Sp.tr s n .sum d .nil σ) .nil))):=by show _=_;rw [Sp.tr];simp only [hσ,h6,his,if_true,if_false,Bool.false_eq_true]
   have iV:=hid hp
   have iD:=hid (eC.out.trans hk)
   have eM:Hid (Bk w5 w2.heap.size [.int .i64 kk, .int .i64 (aa:Int), .string wd]):=lE.out.kept hk (by omega)
   clear hp hk gY eC lE
   have hx:=eM.out.lt
   have x0:=eM.out.k0
   have x1:=eM.out.k1
   have x2:=eM.out.k2
   have HT:Hid (aa=σ1.at_ s/\wd=bz (σ1.word s)):=⟨(jQ.out lD.out.1).1,(jQ.out lD.out.1).2 lD.out.2⟩
   have rM:=iD.out.size
   go_wp2_with fail
   refine (dD _ _ _ _ _ _ _).mono ?_
   rintro e w6 ⟨rfl,rfl⟩
   have H8:Hid (Rp (((w5.alloc (.cells #[v1] 242)).alloc (.cells #[.int .i64 kk, .int .i64 (aa:Int), .string wd] 155)).alloc (.cells #[.string wd, .int .i64 (aa:Int), .slice (some ⟨w5.heap.size,0,none⟩) 1 1] 379)) (.op (σ1.word s) (σ1.at_ s) (.cons (Sp.tr s n .sum d .nil σ) .nil)) w.heap.size (w5.heap.size+3) (.iface 363 (.pointer (some ⟨w5.heap.size+1+1,0,none⟩)))):=by
    obtain ⟨e1,e2⟩:=HT.out
    subst e1 e2
    have hK:∀ x y z:Obj,Kept b w5 (((w5.alloc x).alloc y).alloc z):=λx y z=>(((Kept.refl b w5).alloc x).alloc y).alloc z
    refine Rp.op1 (((HR1.out lD.out.1).cF HI1.out.bC iD.out hbw (aF _)).cF HI1.out.bC (hK _ _ _) hbw (by omega)) HI1.out.bC (aF _) (by omega) (by omega) (by omega) (((Bk.new w5 _ _).alloc _).alloc _).at_ ?_
    have:=(Bk.new ((w5.alloc (.cells #[v1] 242)).alloc (.cells #[.int .i64 kk, .int .i64 (St.at_ s σ1:Nat), .string (bz (St.word s σ1))] 155)) #[.string (bz (St.word s σ1)), .int .i64 (St.at_ s σ1:Nat), .slice (some ⟨w5.heap.size,0,none⟩) 1 1] 379).at_
    simpa using this
   go_wp2_with fail
   refine (Dq (((iV.out.alloc _).alloc _).alloc _) _ (Or.inr ⟨_,_,rfl⟩) _ w.heap.size hbw (λ_=>by have:=H8.out;simpa using this) (by simp;omega)).mono ?_
   rintro r w7 ⟨v7,rfl,CT,E0,Vo,Vp⟩
   have o7:=hid CT
   have rN:Hid (Kept b w w7):=bD.out.trans ((((iD.out.alloc _).alloc _).alloc _).trans E0)
   have Xq:=hid Vo
   have Xr:=hid Vp
   clear CT E0 Vo Vp
   go_wp2_with fail
   go_ret
   exact ⟨_,rfl,by rw [HV.out];exact o7.out,rN.out,Xq.out,by rw [HV.out,cA.out];exact Xr.out⟩
 ·rw [h6] at hp
  have h1:=KY h6
  have h2:=cJ s n .sum d (St.step s σ1)
  have lD:Hid (σ1.aA=true/\∀ e,σ1 = .live e->aD s e ≠ .bad):=by
   have h6':=h6
   rw [<- tK] at h6'
   exact ⟨nF h6',fI h6'⟩
  have HV:Hid (Sp.run s (n+1) .compare d σ=Sp.run s n .sum d (St.step s σ1)):=by show _=_;rw [Sp.run];simp only [hσ,h6,if_true]
  have cA:Hid (Sp.tr s (n+1) .compare d .nil σ=Nd.op (St.word s σ1) (St.at_ s σ1) (.cons (Sp.tr s n .sum d .nil σ) (.cons (Sp.tr s n .sum d .nil (St.step s σ1)) .nil))):=by show _=_;rw [Sp.tr];simp only [hσ,h6,if_true]
  have gY:Hid (PS b c cap len s d (σ1.step s) w4):=hp
  have eC:=hid (bH.out.trans hk)
  have lE:Hid (Bk w4 w2.heap.size [.int .i64 kk, .int .i64 (aa:Int), .string wd]):=vI.out.kept hk (by omega)
  clear hp hk cS bH vI
  have hx:=lE.out.lt
  have x0:=lE.out.k0
  have x1:=lE.out.k1
  have x2:=lE.out.k2
  have HT:Hid (aa=σ1.at_ s/\wd=bz (σ1.word s)):=⟨(jQ.out lD.out.1).1,(jQ.out lD.out.1).2 lD.out.2⟩
  go_wp2_with fail
  go_region_with (first | (go_at_call 309;refine ((IH.out n (aF _)).sum d _ _ (by omega) (by show 32*rem s _+5<=n;omega) gY.out.drew).mono ?_;rintro e w5 ⟨v5,rfl,nT,hk5,hi5,MB⟩;have hv5:=hi5.cells;unfold Value.cells at hv5;have KZ:=lE.out.kept (((Kept.refl b w4).drew).trans hk5) (by omega);have hy:=KZ.lt;have y0:=KZ.k0;have y1:=KZ.k1;have y2:=KZ.k2) | (go_at_call 252;refine (dD _ _ _ _ _ _ _).mono ?_;rintro e w6 ⟨rfl,rfl⟩))
  all_goals
   have NJ : Kept b w4 w5:=((Kept.refl b w4).drew).trans hk5
   have iD:Hid (Kept b w1 w5):=eC.out.trans NJ
   have rM:=NJ.size
   have y8:=eC.out.size
   have iV:=hid nT
   have MC:=hid hi5
   have Th:Hid ((Sp.run s n .sum d (σ1.step s)).aA=true->Rp w5 (Sp.tr s n .sum d .nil (σ1.step s)) w4.heap.size w5.heap.size v5):=MB
   clear nT hk5 hi5 MB KZ y0 y1 y2 NJ x0 x1 x2 hv5 hv1
   go_wp2_with fail
   go_ret
   refine ⟨_,rfl,by rw [HV.out];exact ((iV.out.alloc _).alloc _).alloc _,bD.out.trans (((iD.out.alloc _).alloc _).alloc _),Or.inr ⟨_,_,rfl⟩,λhl=>?_⟩
   rw [HV.out] at hl
   rw [cA.out]
   obtain ⟨e1,e2⟩:=HT.out
   subst e1 e2
   have hK:∀ x y z:Obj,Kept b w5 (((w5.alloc x).alloc y).alloc z):=λx y z=>(((Kept.refl b w5).alloc x).alloc y).alloc z
   refine Rp.op2 (((HR1.out lD.out.1).cF HI1.out.bC iD.out hbw (aF _)).cF HI1.out.bC (hK _ _ _) hbw (by omega)) ((Th.out hl).cF MC.out.bC (hK _ _ _) (by omega) (aF _)) HI1.out.bC MC.out.bC (by omega) (aF _) (by omega) (by simp) (((Bk.new w5 _ _).alloc _).alloc _).at_ ?_
   have:=(Bk.new ((w5.alloc (.cells #[v1,v5] 242)).alloc (.cells #[.int .i64 kk, .int .i64 (St.at_ s σ1:Nat), .string (bz (St.word s σ1))] 155)) #[.string (bz (St.word s σ1)), .int .i64 (St.at_ s σ1:Nat), .slice (some ⟨w5.heap.size,0,none⟩) 2 2] 379).at_
   simpa using this
theorem y9 {b c cap len:Nat} {s:Sp.Bs} {n:Nat} (IH:Hid (∀ m,m<=n->All b c cap len s m)):Sd b c cap len s (n+1) .compare aQ 283:=by
 intro d σ w hd hm hp
 have hm' : 32*rem s σ+6<=n+1:=hm
 exact AZ IH hd hm' hp
theorem c6 {P:Program} (w:World) {ops:Array Oper} {rest:List Oper} {o:Oper} {a:Act} {Q:Exit->Act->World->Prop}
  (hg:o.guard=none) (s x:Operand) (t:TypeId) (hop:o.op=Op.call { callee:=Callee.builtin Builtin.append,args:=#[s,x],argTypes:=#[t,t] })
  (base:Nat) (e:TypeId) (i:TypeInfo) (z:Value) (size bytes:Nat) (h1:P.underlying t=some (.slice e)) (h2:P.info? e=some i) (h3:i.zero=some z) (h4:i.size=size) (h5:i.bytes=bytes) (h6:z.cells.size=size) (h7:0<size)
  (g k cap:Nat) (xs:List Value) (hs:a.eval s = .slice (some ⟨g,0,none⟩) k cap) (hown:w.ownsRow base e size (.slice (some ⟨g,0,none⟩) k cap) k xs) (ad:Addr) (c:Nat) (news:List Value) (hx:a.eval x = .slice (some ad) 1 c) (hn:news.length=1*size)
  (hc:∀ j u,news[j]?=some u->w.cell? (ad.add j)=some u) (h1c:∀ u∈news,u.oneCell'=true) (b1:k+1<=maxLen) (b2:(k+1)*bytes<=140737488355328) (hb:base<=w.heap.size)
  (hK:∀ g' cap' w',w'.ownsRow base e size (.slice (some ⟨g',0,none⟩) (k+1) cap') (k+1) (xs++news)->w.grownBy w' (some g)->(g'=g\/w.heap.size<=g')->wpList P ops Q rest (a.put o.dst (.slice (some ⟨g',0,none⟩) (k+1) cap')) w') :
  wpList P ops Q (o::rest) a w:=by
 by_cases hr:k+1<=cap
 ·exact wpList_append_fits w hg s x t hop base e i size h1 h2 h4 g k cap xs hs hown ad 1 c news hx hn hc h1c hr λw' r1 r2=>hK g cap w' r1 r2 (Or.inl rfl)
 ·refine wpList_append_grows w hg s x t hop e i z size bytes h1 h2 h3 h4 h5 h6 h7 (some ⟨g,0,none⟩) k cap xs hs (λh=>by cases h) hown.1 (λb hb j u hj=>?_) ad 1 c news hx hn hc h1c (by omega) b1 b2 λv' w' r1 r2=>?_
  ·injection hb with hb;subst hb
   rw [Addr.add_lit]
   have:=bO hown j u hj
   simpa using this
  ·obtain ⟨hl,h | ⟨g',cap',cur,hv,h0,hb',r⟩⟩:=r1
   ·exact absurd h.2 (by omega)
   ·subst hv
    exact hK g' cap' w' ⟨hl, .inr ⟨g',cap',cur,rfl,cE hb h0,hb',r⟩⟩ ⟨r2.os,r2.tape,r2.output,r2.size,λk hk _=>r2.block k hk (by simp)⟩ (Or.inr h0)
theorem jR (w:World) (base:Nat) (hb:base<=w.heap.size) (e:TypeId) (size:Nat) (arr:Array Value) (n:Nat) (hn:arr.size=n*size) (hm:n<=maxLen):(w.alloc (.cells arr e)).ownsRow base e size (.slice (some ⟨w.heap.size,0,none⟩) n n) n arr.toList:=by
 refine ⟨by simpa using hn, .inr ⟨w.heap.size,n,arr,rfl,hb,heap_alloc_new w _,aF _,hm,hn,?_⟩⟩
 rw [sD (by simp;omega)]
def lZ (w:World) (g:Nat):List Nd->List Value->Nat->Nat->Prop
 | [], [],lo,hi=>lo<=hi
 | n::ns,x::xs,lo,hi=>∃ m1 m2,Sub lo hi g m1 m2/\cH x/\Rp w n m1 m2 x/\lZ w g ns xs m2 hi
 | _,_,_,_=>False
theorem lZ.snoc {w:World} {g:Nat} : ∀ {ns:List Nd} {xs:List Value} {lo hi m1 m2:Nat} {n:Nd} {x:Value},lZ w g ns xs lo hi->hi<=m1->cH x->Rp w n m1 m2 x->¬ (m1<=g/\g<m2)->lZ w g (ns ++ [n]) (xs ++ [x]) lo m2
 | [], [],lo,hi,m1,m2,n,x,h,h1,h2,h3,h4=>⟨m1,m2,by have:=Rp.le _ _ _ _ h3;unfold lZ at h;unfold Sub;omega,h2,h3,aF _⟩
 | n'::ns,x'::xs,lo,hi,m1,m2,n,x,h,h1,h2,h3,h4=>by
  obtain ⟨a1,a2,hS,hn,hr,ht⟩:=h
  have:=Rp.le _ _ _ _ h3
  exact ⟨a1,a2,by unfold Sub at hS ⊢;omega,hn,hr,lZ.snoc ht h1 h2 h3 h4⟩
 | [],_::_,_,_,_,_,_,_,h,_,_,_,_=>h.elim
 | _::_, [],_,_,_,_,_,_,h,_,_,_,_=>h.elim
theorem lZ.le {w:World} {g:Nat} : ∀ {ns:List Nd} {xs:List Value} {lo hi:Nat},lZ w g ns xs lo hi->lo<=hi
 | [], [],_,_,h=>h
 | _::_,_::_,lo,hi,h=>by obtain ⟨a1,a2,hS,_⟩:=h;unfold Sub at hS;omega
 | [],_::_,_,_,h=>h.elim
 | _::_, [],_,_,h=>h.elim
theorem lZ.move {w:World} {g g' : Nat} : ∀ {ns:List Nd} {xs:List Value} {lo hi:Nat},lZ w g ns xs lo hi->hi<=g'->lZ w g' ns xs lo hi
 | [], [],_,_,h,_=>h
 | n::ns,x::xs,lo,hi,h,hg=>by
  obtain ⟨a1,a2,hS,hn,hr,ht⟩:=h
  have:=ht.le
  exact ⟨a1,a2,by unfold Sub at hS ⊢;omega,hn,hr,ht.move hg⟩
 | [],_::_,_,_,h,_=>h.elim
 | _::_, [],_,_,h,_=>h.elim
theorem lZ.frame {w w' : World} {g:Nat} (hs:w.heap.size<=w'.heap.size):∀ {ns:List Nd} {xs:List Value} {lo hi:Nat},lZ w g ns xs lo hi->(∀ k,lo<=k->k<hi->k≠g->w'.heap[k]?=w.heap[k]?)->lZ w' g ns xs lo hi
 | [], [],_,_,h,_=>h
 | n::ns,x::xs,lo,hi,h,hk=>by
  obtain ⟨a1,a2,hS,hn,hr,ht⟩:=h
  have:=ht.le
  unfold Sub at hS
  exact ⟨a1,a2,hS,hn,hr.frame hs _ _ _ _ (λk h1 h2=>hk k (by omega) (by omega) (by omega)) (λ_ _ _ _ e=>absurd e (hn _ _ _)),ht.frame hs λk h1 h2 h3=>hk k (by omega) h2 h3⟩
 | [],_::_,_,_,h,_=>h.elim
 | _::_, [],_,_,h,_=>h.elim
theorem lZ.rp {w:World} {g:Nat} (hg:g<w.heap.size) (cap:Nat):∀ {ns:List Nd} {xs:List Value} {lo hi off:Nat},lZ w g ns xs lo hi->(∀ j u,xs[j]?=some u->w.cell? ⟨g,off+j,none⟩=some u)->Rp w (gG ns .nil) lo hi (.slice (some ⟨g,off,none⟩) ns.length cap)
 | [], [],lo,hi,off,h,_=>⟨h,_,_,rfl⟩
 | n::ns,x::xs,lo,hi,off,h,hc=>by
  obtain ⟨a1,a2,hS,hn,hr,ht⟩:=h
  refine ⟨g,off,ns.length,cap,x,a1,a2,rfl,hg,hS,by simpa using hc 0 x rfl,hn,hr,?_⟩
  exact lZ.rp hg cap ht λj u hj=>by have:=hc (j+1) u (by simpa using hj);rw [show off+1+j=off+(j+1) by omega];exact this
 | [],_::_,_,_,_,h,_=>h.elim
 | _::_, [],_,_,_,h,_=>h.elim
theorem lZ.len {w:World} {g:Nat} : ∀ {ns:List Nd} {xs:List Value} {lo hi:Nat},lZ w g ns xs lo hi->xs.length=ns.length
 | [], [],_,_,_=>rfl
 | _::ns,_::xs,_,_,h=>by obtain ⟨_,_,_,_,_,ht⟩:=h;simp [ht.len]
 | [],_::_,_,_,h=>h.elim
 | _::_, [],_,_,h=>h.elim
theorem IY:(Tryz.prog.info? 242).map (λi=>(i.zero,i.size,i.bytes))=some (some .nilIface,1,16):=by kernel_rfl
theorem aQ.one {v:Value} (h:aQ v):v.oneCell'=true:=by
 rcases h with rfl | ⟨t,x,rfl⟩ <;> rfl
end Go.Proofs.YtgnncnhkgmhngaaGreatDoor
