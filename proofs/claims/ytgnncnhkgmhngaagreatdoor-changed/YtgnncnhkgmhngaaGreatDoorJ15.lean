import Derived.Test.YtgnncnhkgmhngaaGreatDoorJ14
import Derived.Test.YtgnncnhkgmhngaaGreatDoorJ10
import Derived.ArgAppend
set_option maxHeartbeats 8000000
namespace Go.Proofs.YtgnncnhkgmhngaaGreatDoor
open Sp
open Tryz
open Go.RowKit
theorem uM (s:Sp.Bs) (σ:St):aU s [[61], [60,62], [60], [60,61], [62], [62,61]] σ=σ.iM s:=by
 simp [aU,St.iM,Bool.or_assoc]
theorem JZ {b c cap len:Nat} {s:Sp.Bs} {d:Nat} {σ:St} {w:World} (h:PS b c cap len s d σ w) (q:Nat) (hq:q=w.heap.size) :
  Calls prog 76 #[.pointer (some ⟨b,0,none⟩), .slice (some ⟨q,0,none⟩) 6 6] (w.alloc (.cells #[.string ⟨#[61]⟩, .string ⟨#[60,62]⟩, .string ⟨#[60]⟩, .string ⟨#[60,61]⟩, .string ⟨#[62]⟩, .string ⟨#[62,61]⟩] 9)) λr w'=>r = .returned (.bool (σ.iM s))/\PS b c cap len s d (zK (σ.iM s) s σ) w'/\Kept b w w':=by
 subst hq
 have:=oU h [[61], [60,62], [60], [60,61], [62], [62,61]] (by decide) (by decide) 6 rfl #[.string ⟨#[61]⟩, .string ⟨#[60,62]⟩, .string ⟨#[60]⟩, .string ⟨#[60,61]⟩, .string ⟨#[62]⟩, .string ⟨#[62,61]⟩] rfl
 rw [uM] at this
 exact this
theorem MA {s:Sp.Bs} {σ:St} (h:σ.iM s=true):rem s (σ.step s)<rem s σ:=by
 rw [<- uM] at h
 exact p8 h
theorem BI {b c cap len:Nat} {s:Sp.Bs} {n d:Nat} {σ:St} {w:World} (IH:Hid (∀ m,m<=n->All b c cap len s m)) (hd:d+(n+1)<=1000000) (hm:32*rem s σ+6<=n+1) (hp:PS b c cap len s d σ w) :
  Calls prog 283 #[.pointer (some ⟨b,0,none⟩)] w (aX b c cap len s d (Sp.run s (n+1) .compare d σ) w aR λw' v=>Rp w' (Sp.tr s (n+1) .compare d .nil σ) w.heap.size w'.heap.size v):=by
 have hbw:=hp.lb
 have hcw:=hp.lc
 have hr:=cR s n .sum d σ
 have J0:=hid hp
 clear hp
 go_enter func283,ntmps283
 go_wp2_with fail
 refine ((IH.out n (aF _)).sum d σ _ (by omega) (by show 32*rem s σ+5<=n;omega) J0.out).mono ?_
 rintro r w1 ⟨v1,rfl,hp1,hk1,hi1,hr1⟩
 obtain ⟨i,wd,hi,tc,PK⟩:=bG hp1
 have jV:Hid ((Sp.run s n .sum d σ).aA=true->aP s (pos s i)=(Sp.run s n .sum d σ).at_ s/\((∀ e,(Sp.run s n .sum d σ) = .live e->aE s e ≠ .bad)->wd=bz ((Sp.run s n .sum d σ).word s))):=λhl=>dW hi tc hl
 have bP:=hid hp1
 have bD:=hid hk1
 have HI1:=hid hi1
 have HR1:=hid hr1
 have gP:=jR PK
 clear hp1 hk1 hi1 hr1 hi tc PK J0
 generalize kn (aE s (pos s i))=kk at gP
 generalize aP s (pos s i)=aa at *
 generalize hσ:Sp.run s n .sum d σ=σ1 at *
 have hv1:=HI1.out.cells
 unfold Value.cells at hv1
 go_wp2_with fail
 refine (gP.out _ rfl).mono ?_
 rintro r w2 ⟨rfl,hb2⟩
 have HB2:=hid hb2
 clear hb2 gP
 have dJ:Hid (PS b c cap len s d σ1 (w2.alloc (.cells #[.int .i64 kk, .int .i64 (aa:Int), .string wd] 155))):=(bP.out.below HB2.out).alloc _
 have bL:Hid (Kept b w1 (w2.alloc (.cells #[.int .i64 kk, .int .i64 (aa:Int), .string wd] 155))):=(Kept.below HB2.out).alloc _
 have wP:Hid (Bk (w2.alloc (.cells #[.int .i64 kk, .int .i64 (aa:Int), .string wd] 155)) w2.heap.size [.int .i64 kk, .int .i64 (aa:Int), .string wd]):=Bk.new _ _ _
 have hz2:w1.heap.size<=w2.heap.size:=HB2.out.size
 have hz1:w.heap.size<=w1.heap.size:=bD.out.size
 clear HB2 bP
 go_wp2_with fail
 refine (JZ dJ.out _ (by simp)).mono ?_
 rintro r w4 ⟨rfl,hp,hk⟩
 cases h6:σ1.iM s
 ·rw [h6] at hp
  have iD:Hid (PS b c cap len s d σ1 w4):=hp
  have eS:=hid (bL.out.trans hk)
  have lM:Hid (Bk w4 w2.heap.size [.int .i64 kk, .int .i64 (aa:Int), .string wd]):=wP.out.kept hk (by omega)
  clear hp hk dJ bL wP
  go_wp2_with fail
  refine (aW iD.out [105,115] (by decide)).mono ?_
  rintro r w5 ⟨rfl,hp,hk⟩
  cases his:σ1.is s [105,115]
  ·rw [bE his] at hp
   have i7:=hid hp
   have iR:=hid (eS.out.trans hk)
   have eT:Hid (Bk w5 w2.heap.size [.int .i64 kk, .int .i64 (aa:Int), .string wd]):=lM.out.kept hk (by omega)
   clear hp hk iD eS lM
   go_wp2_with fail
   refine (aW i7.out [110,111,116] (by decide)).mono ?_
   rintro r w6 ⟨rfl,hp,hk⟩
   cases hnot:σ1.is s [110,111,116]
   ·rw [bE hnot] at hp
    have kN:=hid hp
    have iS:=hid (iR.out.trans hk)
    have jF:Hid (Bk w6 w2.heap.size [.int .i64 kk, .int .i64 (aa:Int), .string wd]):=eT.out.kept hk (by omega)
    clear hp hk i7 iR eT
    go_wp2_with fail
    refine (aW kN.out [105,110] (by decide)).mono ?_
    rintro r w7 ⟨rfl,hp,hk⟩
    cases hin:σ1.is s [105,110]
    ·rw [bE hin] at hp
     have HV:Hid (Sp.run s (n+1) .compare d σ=σ1):=by show _=_;rw [Sp.run];simp only [hσ,h6,his,hnot,hin,if_false,Bool.false_eq_true]
     have cL:Hid (Sp.tr s (n+1) .compare d .nil σ=(Sp.tr s n .sum d .nil σ)):=by show _=_;rw [Sp.tr];simp only [hσ,h6,his,hnot,hin,if_false,Bool.false_eq_true]
     have pQ:=hid hp
     have sF:=hid (iS.out.trans hk)
     have qB:Hid (Bk w7 w2.heap.size [.int .i64 kk, .int .i64 (aa:Int), .string wd]):=jF.out.kept hk (by omega)
     clear hp hk kN iS jF
     go_wp2_with fail
     go_ret
     refine ⟨_,rfl,by rw [HV.out];exact pQ.out,bD.out.trans sF.out,HI1.out,λhl=>?_⟩
     rw [HV.out] at hl
     rw [cL.out]
     exact Rp.wide _ _ _ _ _ _ ((HR1.out hl).cO HI1.out.bC sF.out hbw (aF _)) (aF _) sF.out.size
    ·rw [aZ hin] at hp
     have h1:=aO hin
     have h3:=iO s [40] d (St.step s σ1)
     have lX:Hid (σ1.aA=true/\∀ e,σ1 = .live e->aE s e ≠ .bad):=⟨cS hin,dM hin⟩
     have HV:Hid (Sp.run s (n+1) .compare d σ=St.must s [41] (Sp.run s n .query (d+1) (St.opened s [40] d (St.step s σ1)))):=by show _=_;rw [Sp.run];simp only [hσ,h6,his,hnot,hin,if_true,if_false,Bool.false_eq_true]
     have cL:Hid (Sp.tr s (n+1) .compare d .nil σ=Nd.within (St.word s σ1) (St.at_ s σ1) (.cons (Sp.tr s n .sum d .nil σ) .nil) (Sp.tr s n .query (d+1) .nil (St.opened s [40] d (St.step s σ1)))):=by show _=_;rw [Sp.tr];simp only [hσ,h6,his,hnot,hin,if_true,if_false,Bool.false_eq_true]
     have pQ:=hid hp
     have sF:=hid (iS.out.trans hk)
     have qB:Hid (Bk w7 w2.heap.size [.int .i64 kk, .int .i64 (aa:Int), .string wd]):=jF.out.kept hk (by omega)
     clear hp hk kN iS jF
     have hx:=qB.out.lt
     have x0:=qB.out.k0
     have x1:=qB.out.k1
     have x2:=qB.out.k2
     have HT:Hid (aa=σ1.at_ s/\wd=bz (σ1.word s)):=⟨(jV.out lX.out.1).1,(jV.out lX.out.1).2 lX.out.2⟩
     have BG:=sF.out.size
     go_wp2_with fail
     refine (kX (pQ.out.alloc _) (by omega) _ _ _ _ _ _ (Sp.run s n .query (d+1) (St.opened s [40] d (σ1.step s))) (Sp.tr s n .query (d+1) .nil (St.opened s [40] d (σ1.step s))) (λw' hp'=>((IH.out n (aF _)).query (d+1) _ _ (by omega) (by show 32*rem s _+15<=n;omega) hp').mono λ_ _ h=>h.rq)).mono ?_
     rintro r w8 ⟨qv,bb,rfl,RS,hk8,Xm,Xn,hb8,MB⟩
     have Hm:=hid RS
     have Px:=hid hk8
     have Xo:=hid Xm
     have YT:=hid Xn
     have HB8:w7.heap.size+1<=bb:=by simpa using hb8
     have Uj:=hid MB
     clear RS hk8 Xm Xn hb8 MB x0 x1 x2 hv1
     go_wp2_with fail
     go_ret
     refine ⟨_,rfl,by rw [HV.out];exact Hm.out,bD.out.trans ((sF.out.alloc _).trans Px.out),Or.inr ⟨_,_,rfl⟩,λhl=>?_⟩
     rw [HV.out] at hl
     rw [cL.out]
     obtain ⟨e1,e2⟩:=HT.out
     subst e1 e2
     have r8:=Uj.out hl
     have k7:Kept b w7 w8:=((Kept.refl b w7).alloc _).trans Px.out
     exact Rp.FR (((HR1.out lX.out.1).cO HI1.out.bC sF.out hbw (aF _)).cO HI1.out.bC k7 hbw (by omega)) HI1.out.bC r8 YT.out.bC (aF _) (by omega) (by simp) Xo.out.1 (((Bk.new w7 _ _).kept Px.out (by omega)).at_) Xo.out
   ·rw [aZ hnot] at hp
    have h1:=aO hnot
    have h2:=cA s [105,110] (St.step s σ1)
    have h3:=iO s [40] d (St.must s [105,110] (St.step s σ1))
    have lX:Hid (σ1.aA=true/\∀ e,σ1 = .live e->aE s e ≠ .bad):=⟨cS hnot,dM hnot⟩
    have HV:Hid (Sp.run s (n+1) .compare d σ=St.must s [41] (Sp.run s n .query (d+1) (St.opened s [40] d (St.must s [105,110] (St.step s σ1))))):=by show _=_;rw [Sp.run];simp only [hσ,h6,his,hnot,if_true,if_false,Bool.false_eq_true]
    have cL:Hid (Sp.tr s (n+1) .compare d .nil σ=Nd.op (St.word s σ1) (St.at_ s σ1) (.cons (.within (St.word s (St.step s σ1)) (St.at_ s (St.step s σ1)) (.cons (Sp.tr s n .sum d .nil σ) .nil) (Sp.tr s n .query (d+1) .nil (St.opened s [40] d (St.must s [105,110] (St.step s σ1))))) .nil)):=by show _=_;rw [Sp.tr];simp only [hσ,h6,his,hnot,if_true,if_false,Bool.false_eq_true]
    have kN:=hid hp
    have iS:=hid (iR.out.trans hk)
    have jF:Hid (Bk w6 w2.heap.size [.int .i64 kk, .int .i64 (aa:Int), .string wd]):=eT.out.kept hk (by omega)
    clear hp hk i7 iR eT
    have HT:Hid (aa=σ1.at_ s/\wd=bz (σ1.word s)):=⟨(jV.out lX.out.1).1,(jV.out lX.out.1).2 lX.out.2⟩
    obtain ⟨i2,wd2,hi2,Xp,Xq⟩:=bG kN.out
    have U9:Hid (((σ1.step s).must s [105,110]).aA=true->aP s (pos s i2)=(σ1.step s).at_ s/\wd2=bz ((σ1.step s).word s)):=λhl=>by
     have hl':=bK hl
     have hi:(σ1.step s).is s [105,110]=true:=by
      cases hx:(σ1.step s).is s [105,110]
      ·rw [St.must,hx] at hl;exact (fG hl).elim
      ·rfl
     have:=dW hi2 Xp hl'
     exact ⟨this.1,this.2 (dM hi)⟩
    have Py:=jR Xq
    clear hi2 Xp Xq
    generalize kn (aE s (pos s i2))=RU at Py
    generalize aP s (pos s i2)=Q8 at *
    go_wp2_with fail
    refine (Py.out _ rfl).mono ?_
    rintro r w7 ⟨rfl,hb7⟩
    have BG:=hb7.size
    have Hm:Hid (PS b c cap len s d (σ1.step s) (w7.alloc (.cells #[.int .i64 RU, .int .i64 (Q8:Int), .string wd2] 155))):=(kN.out.below hb7).alloc _
    have FU:Hid (Kept b w6 (w7.alloc (.cells #[.int .i64 RU, .int .i64 (Q8:Int), .string wd2] 155))):=(Kept.below hb7).alloc _
    have Xr:Hid (Bk (w7.alloc (.cells #[.int .i64 RU, .int .i64 (Q8:Int), .string wd2] 155)) w7.heap.size [.int .i64 RU, .int .i64 (Q8:Int), .string wd2]):=Bk.new _ _ _
    clear hb7 Py
    have x8:=iS.out.size
    have hx6:=jF.out.lt
    go_wp2_with fail
    refine (kY Hm.out [105,110] (by decide) _ (by simp)).mono ?_
    rintro r w9 ⟨rfl,uN,hk9⟩
    have J1:=hid uN
    have Hn:Hid (Kept b w1 w9):=iS.out.trans (FU.out.trans hk9)
    have A9:Hid (Bk w9 w2.heap.size [.int .i64 kk, .int .i64 (aa:Int), .string wd]):=jF.out.kept (FU.out.trans hk9) (by omega)
    have Uk:Hid (Bk w9 w7.heap.size [.int .i64 RU, .int .i64 (Q8:Int), .string wd2]):=Xr.out.kept hk9 (by omega)
    clear uN hk9 Hm FU Xr jF
    have hx:=A9.out.lt
    have x0:=A9.out.k0
    have x1:=A9.out.k1
    have x2:=A9.out.k2
    have hy:=Uk.out.lt
    have y0:=Uk.out.k0
    have y1:=Uk.out.k1
    have y2:=Uk.out.k2
    have YU:=Hn.out.size
    go_wp2_with fail
    go_region_with (first | (go_at_call 311;refine (kX (J1.out.alloc _).drew (by omega) _ _ _ _ _ _ (Sp.run s n .query (d+1) (St.opened s [40] d ((σ1.step s).must s [105,110]))) (Sp.tr s n .query (d+1) .nil (St.opened s [40] d ((σ1.step s).must s [105,110]))) (λw' hp'=>((IH.out n (aF _)).query (d+1) _ _ (by omega) (by show 32*rem s _+15<=n;omega) hp').mono λ_ _ h=>h.rq)).mono ?_;rintro r w10 ⟨qv,bb,rfl,RV,hk10,RW,RX,Pz,RY⟩;have J2:=(A9.out.alloc (.cells #[v1] 242)).kept (((Kept.refl b _).drew).trans hk10) (by omega);have hu:=J2.lt;have u0:=J2.k0;have u1:=J2.k1;have u2:=J2.k2) | (go_at_call 252;refine (dN _ _ _ _ _ _ _).mono ?_;rintro e w11 ⟨rfl,rfl⟩))
    all_goals
     have BJ:Hid (Kept b (w9.alloc (.cells #[v1] 242)) w10):=((Kept.refl b _).drew).trans hk10
     have J3:=hid RV
     have RZ:Hid (At w10 bb [.string wd2, .int .i64 (Q8:Int), .slice (some ⟨w9.heap.size,0,none⟩) 1 1,qv]):=RW
     have Va:=hid RX
     have YV:w9.heap.size+1<=bb:=by have e:(w9.alloc (.cells #[v1] 242)).drew.heap.size=(w9.alloc (.cells #[v1] 242)).heap.size:=rfl;rw [e] at Pz;simpa using Pz
     have Vb:Hid (_->Rp w10 _ (w9.alloc (.cells #[v1] 242)).heap.size bb qv):=RY
     clear RV hk10 RW RX Pz RY x0 x1 x2 y0 y1 y2 hv1 J2 u0 u1 u2
     go_wp2_with fail
     go_ret
     refine ⟨_,rfl,by rw [HV.out];exact ((J3.out.alloc _).alloc _).alloc _,bD.out.trans (((((Hn.out.alloc _).trans BJ.out).alloc _).alloc _).alloc _),Or.inr ⟨_,_,rfl⟩,λhl=>?_⟩
     rw [HV.out] at hl
     rw [cL.out]
     have hl2:=Bm (dU (bK hl))
     obtain ⟨e1,e2⟩:=HT.out
     subst e1 e2
     obtain ⟨e3,e4⟩:=U9.out hl2
     subst e3 e4
     have r10:=Vb.out hl
     have k9:Kept b w9 w10:=((Kept.refl b w9).alloc _).trans BJ.out
     have YW:=k9.size
     have hK:∀ x y z:Obj,Kept b w10 (((w10.alloc x).alloc y).alloc z):=λx y z=>(((Kept.refl b w10).alloc x).alloc y).alloc z
     have R:=Rp.FR (hi:=w10.heap.size) (((HR1.out lX.out.1).cO HI1.out.bC Hn.out hbw (aF _)).cO HI1.out.bC k9 hbw (by omega)) HI1.out.bC r10 Va.out.bC (aF _) (by omega) (by simp) RZ.out.1 (((Bk.new w9 _ _).kept BJ.out (by omega)).at_) RZ.out
     refine Rp.op1 (R.cO (b9.iface _ _) (hK _ _ _) hbw (aF _)) (b9.iface _ _) (aF _) (aF _) (by omega) (by simp) (((Bk.new w10 _ _).alloc _).alloc _).at_ ?_
     have:=(Bk.new ((w10.alloc (.cells #[.iface 367 (.pointer (some ⟨bb,0,none⟩))] 242)).alloc (.cells #[.int .i64 kk, .int .i64 (St.at_ s σ1:Nat), .string (bz (St.word s σ1))] 155)) #[.string (bz (St.word s σ1)), .int .i64 (St.at_ s σ1:Nat), .slice (some ⟨w10.heap.size,0,none⟩) 1 1] 379).at_
     simpa using this
  ·rw [aZ his] at hp
   have lX:Hid (σ1.aA=true/\∀ e,σ1 = .live e->aE s e ≠ .bad):=⟨cS his,dM his⟩
   have HV:Hid (Sp.run s (n+1) .compare d σ=St.must s [110,117,108,108] (St.take s [110,111,116] (St.step s σ1))):=by show _=_;rw [Sp.run];simp only [hσ,h6,his,if_true,if_false,Bool.false_eq_true]
   have cL:Hid (Sp.tr s (n+1) .compare d .nil σ=(if (St.step s σ1).is s [110,111,116] then Nd.op (St.word s (St.step s σ1)) (St.at_ s (St.step s σ1)) (.cons (.op (St.word s σ1) (St.at_ s σ1) (.cons (Sp.tr s n .sum d .nil σ) .nil)) .nil) else .op (St.word s σ1) (St.at_ s σ1) (.cons (Sp.tr s n .sum d .nil σ) .nil))):=by show _=_;rw [Sp.tr];simp only [hσ,h6,his,if_true,if_false,Bool.false_eq_true]
   have i7:=hid hp
   have iR:=hid (eS.out.trans hk)
   have eT:Hid (Bk w5 w2.heap.size [.int .i64 kk, .int .i64 (aa:Int), .string wd]):=lM.out.kept hk (by omega)
   clear hp hk iD eS lM
   have hx:=eT.out.lt
   have x0:=eT.out.k0
   have x1:=eT.out.k1
   have x2:=eT.out.k2
   have HT:Hid (aa=σ1.at_ s/\wd=bz (σ1.word s)):=⟨(jV.out lX.out.1).1,(jV.out lX.out.1).2 lX.out.2⟩
   have tG:=iR.out.size
   go_wp2_with fail
   refine (dN _ _ _ _ _ _ _).mono ?_
   rintro e w6 ⟨rfl,rfl⟩
   have Jh:Hid (Rp (((w5.alloc (.cells #[v1] 242)).alloc (.cells #[.int .i64 kk, .int .i64 (aa:Int), .string wd] 155)).alloc (.cells #[.string wd, .int .i64 (aa:Int), .slice (some ⟨w5.heap.size,0,none⟩) 1 1] 379)) (.op (σ1.word s) (σ1.at_ s) (.cons (Sp.tr s n .sum d .nil σ) .nil)) w.heap.size (w5.heap.size+3) (.iface 363 (.pointer (some ⟨w5.heap.size+1+1,0,none⟩)))):=by
    obtain ⟨e1,e2⟩:=HT.out
    subst e1 e2
    have hK:∀ x y z:Obj,Kept b w5 (((w5.alloc x).alloc y).alloc z):=λx y z=>(((Kept.refl b w5).alloc x).alloc y).alloc z
    refine Rp.op1 (((HR1.out lX.out.1).cO HI1.out.bC iR.out hbw (aF _)).cO HI1.out.bC (hK _ _ _) hbw (by omega)) HI1.out.bC (aF _) (by omega) (by omega) (by omega) (((Bk.new w5 _ _).alloc _).alloc _).at_ ?_
    have:=(Bk.new ((w5.alloc (.cells #[v1] 242)).alloc (.cells #[.int .i64 kk, .int .i64 (St.at_ s σ1:Nat), .string (bz (St.word s σ1))] 155)) #[.string (bz (St.word s σ1)), .int .i64 (St.at_ s σ1:Nat), .slice (some ⟨w5.heap.size,0,none⟩) 1 1] 379).at_
    simpa using this
   go_wp2_with fail
   refine (Ea (((i7.out.alloc _).alloc _).alloc _) _ (Or.inr ⟨_,_,rfl⟩) _ w.heap.size hbw (λ_=>by have:=Jh.out;simpa using this) (by simp;omega)).mono ?_
   rintro r w7 ⟨v7,rfl,DB,FV,Xs,Xt⟩
   have pQ:=hid DB
   have sF:Hid (Kept b w w7):=bD.out.trans ((((iR.out.alloc _).alloc _).alloc _).trans FV)
   have YX:=hid Xs
   have YY:=hid Xt
   clear DB FV Xs Xt
   go_wp2_with fail
   go_ret
   exact ⟨_,rfl,by rw [HV.out];exact pQ.out,sF.out,YX.out,by rw [HV.out,cL.out];exact YY.out⟩
 ·rw [h6] at hp
  have h1:=MA h6
  have h2:=cR s n .sum d (St.step s σ1)
  have lX:Hid (σ1.aA=true/\∀ e,σ1 = .live e->aE s e ≠ .bad):=by
   have h6':=h6
   rw [<- uM] at h6'
   exact ⟨nZ h6',fT h6'⟩
  have HV:Hid (Sp.run s (n+1) .compare d σ=Sp.run s n .sum d (St.step s σ1)):=by show _=_;rw [Sp.run];simp only [hσ,h6,if_true]
  have cL:Hid (Sp.tr s (n+1) .compare d .nil σ=Nd.op (St.word s σ1) (St.at_ s σ1) (.cons (Sp.tr s n .sum d .nil σ) (.cons (Sp.tr s n .sum d .nil (St.step s σ1)) .nil))):=by show _=_;rw [Sp.tr];simp only [hσ,h6,if_true]
  have iD:Hid (PS b c cap len s d (σ1.step s) w4):=hp
  have eS:=hid (bL.out.trans hk)
  have lM:Hid (Bk w4 w2.heap.size [.int .i64 kk, .int .i64 (aa:Int), .string wd]):=wP.out.kept hk (by omega)
  clear hp hk dJ bL wP
  have hx:=lM.out.lt
  have x0:=lM.out.k0
  have x1:=lM.out.k1
  have x2:=lM.out.k2
  have HT:Hid (aa=σ1.at_ s/\wd=bz (σ1.word s)):=⟨(jV.out lX.out.1).1,(jV.out lX.out.1).2 lX.out.2⟩
  go_wp2_with fail
  go_region_with (first | (go_at_call 309;refine ((IH.out n (aF _)).sum d _ _ (by omega) (by show 32*rem s _+5<=n;omega) iD.out.drew).mono ?_;rintro e w5 ⟨v5,rfl,oJ,hk5,hi5,Oo⟩;have hv5:=hi5.cells;unfold Value.cells at hv5;have MC:=lM.out.kept (((Kept.refl b w4).drew).trans hk5) (by omega);have hy:=MC.lt;have y0:=MC.k0;have y1:=MC.k1;have y2:=MC.k2) | (go_at_call 252;refine (dN _ _ _ _ _ _ _).mono ?_;rintro e w6 ⟨rfl,rfl⟩))
  all_goals
   have PD : Kept b w4 w5:=((Kept.refl b w4).drew).trans hk5
   have iR:Hid (Kept b w1 w5):=eS.out.trans PD
   have tG:=PD.size
   have tH:=eS.out.size
   have i7:=hid oJ
   have Oq:=hid hi5
   have My:Hid ((Sp.run s n .sum d (σ1.step s)).aA=true->Rp w5 (Sp.tr s n .sum d .nil (σ1.step s)) w4.heap.size w5.heap.size v5):=Oo
   clear oJ hk5 hi5 Oo MC y0 y1 y2 PD x0 x1 x2 hv5 hv1
   go_wp2_with fail
   go_ret
   refine ⟨_,rfl,by rw [HV.out];exact ((i7.out.alloc _).alloc _).alloc _,bD.out.trans (((iR.out.alloc _).alloc _).alloc _),Or.inr ⟨_,_,rfl⟩,λhl=>?_⟩
   rw [HV.out] at hl
   rw [cL.out]
   obtain ⟨e1,e2⟩:=HT.out
   subst e1 e2
   have hK:∀ x y z:Obj,Kept b w5 (((w5.alloc x).alloc y).alloc z):=λx y z=>(((Kept.refl b w5).alloc x).alloc y).alloc z
   refine Rp.op2 (((HR1.out lX.out.1).cO HI1.out.bC iR.out hbw (aF _)).cO HI1.out.bC (hK _ _ _) hbw (by omega)) ((My.out hl).cO Oq.out.bC (hK _ _ _) (by omega) (aF _)) HI1.out.bC Oq.out.bC (by omega) (aF _) (by omega) (by simp) (((Bk.new w5 _ _).alloc _).alloc _).at_ ?_
   have:=(Bk.new ((w5.alloc (.cells #[v1,v5] 242)).alloc (.cells #[.int .i64 kk, .int .i64 (St.at_ s σ1:Nat), .string (bz (St.word s σ1))] 155)) #[.string (bz (St.word s σ1)), .int .i64 (St.at_ s σ1:Nat), .slice (some ⟨w5.heap.size,0,none⟩) 2 2] 379).at_
   simpa using this
theorem zX {b c cap len:Nat} {s:Sp.Bs} {n:Nat} (IH:Hid (∀ m,m<=n->All b c cap len s m)):Sd b c cap len s (n+1) .compare aR 283:=by
 intro d σ w hd hm hp
 have hm' : 32*rem s σ+6<=n+1:=hm
 exact BI IH hd hm' hp
theorem dH {P:Program} (w:World) {ops:Array Oper} {rest:List Oper} {o:Oper} {a:Act} {Q:Exit->Act->World->Prop}
  (hg:o.guard=none) (s x:Operand) (t:TypeId) (hop:o.op=Op.call { callee:=Callee.builtin Builtin.append,args:=#[s,x],argTypes:=#[t,t] })
  (base:Nat) (e:TypeId) (i:TypeInfo) (z:Value) (size bytes:Nat) (h1:P.underlying t=some (.slice e)) (h2:P.info? e=some i) (h3:i.zero=some z) (h4:i.size=size) (h5:i.bytes=bytes) (h6:z.cells.size=size) (h7:0<size)
  (g k cap:Nat) (xs:List Value) (hs:a.eval s = .slice (some ⟨g,0,none⟩) k cap) (hown:w.ownsRow base e size (.slice (some ⟨g,0,none⟩) k cap) k xs) (ad:Addr) (c:Nat) (news:List Value) (hx:a.eval x = .slice (some ad) 1 c) (hn:news.length=1*size)
  (hc:∀ j u,news[j]?=some u->w.cell? (ad.add j)=some u) (h1c:∀ u∈news,u.oneCell'=true) (b1:k+1<=maxLen) (b2:(k+1)*bytes<=140737488355328) (hb:base<=w.heap.size)
  (hK:∀ g' cap' w',w'.ownsRow base e size (.slice (some ⟨g',0,none⟩) (k+1) cap') (k+1) (xs++news)->w.grownBy w' (some g)->(g'=g\/w.heap.size<=g')->wpList P ops Q rest (a.put o.dst (.slice (some ⟨g',0,none⟩) (k+1) cap')) w') :
  wpList P ops Q (o::rest) a w:=by
 by_cases hr:k+1<=cap
 ·exact wpList_append_fits w hg s x t hop base e i size h1 h2 h4 g k cap xs hs hown ad 1 c news hx hn hc h1c hr λw' r1 r2=>hK g cap w' r1 r2 (Or.inl rfl)
 ·refine wpList_append_grows w hg s x t hop e i z size bytes h1 h2 h3 h4 h5 h6 h7 (some ⟨g,0,none⟩) k cap xs hs (λh=>by cases h) hown.1 (λb hb j u hj=>?_) ad 1 c news hx hn hc h1c (by omega) b1 b2 λv' w' r1 r2=>?_
  ·injection hb with hb;subst hb
   rw [Addr.add_lit]
   have:=cH hown j u hj
   simpa using this
  ·obtain ⟨hl,h | ⟨g',cap',cur,hv,h0,hb',r⟩⟩:=r1
   ·exact absurd h.2 (by omega)
   ·subst hv
    exact hK g' cap' w' ⟨hl, .inr ⟨g',cap',cur,rfl,cF hb h0,hb',r⟩⟩ ⟨r2.os,r2.tape,r2.output,r2.size,λk hk _=>r2.block k hk (by simp)⟩ (Or.inr h0)
theorem jW (w:World) (base:Nat) (hb:base<=w.heap.size) (e:TypeId) (size:Nat) (arr:Array Value) (n:Nat) (hn:arr.size=n*size) (hm:n<=maxLen):(w.alloc (.cells arr e)).ownsRow base e size (.slice (some ⟨w.heap.size,0,none⟩) n n) n arr.toList:=by
 refine ⟨by simpa using hn, .inr ⟨w.heap.size,n,arr,rfl,hb,heap_alloc_new w _,aF _,hm,hn,?_⟩⟩
 rw [tD (by simp;omega)]
def mU (w:World) (g:Nat):List Nd->List Value->Nat->Nat->Prop
 | [], [],lo,hi=>lo<=hi
 | n::ns,x::xs,lo,hi=>∃ m1 m2,Sub lo hi g m1 m2/\b9 x/\Rp w n m1 m2 x/\mU w g ns xs m2 hi
 | _,_,_,_=>False
theorem mU.snoc {w:World} {g:Nat} : ∀ {ns:List Nd} {xs:List Value} {lo hi m1 m2:Nat} {n:Nd} {x:Value},mU w g ns xs lo hi->hi<=m1->b9 x->Rp w n m1 m2 x->¬ (m1<=g/\g<m2)->mU w g (ns ++ [n]) (xs ++ [x]) lo m2
 | [], [],lo,hi,m1,m2,n,x,h,h1,h2,h3,h4=>⟨m1,m2,by have:=Rp.le _ _ _ _ h3;unfold mU at h;unfold Sub;omega,h2,h3,aF _⟩
 | n'::ns,x'::xs,lo,hi,m1,m2,n,x,h,h1,h2,h3,h4=>by
  obtain ⟨a1,a2,hS,hn,hr,ht⟩:=h
  have:=Rp.le _ _ _ _ h3
  exact ⟨a1,a2,by unfold Sub at hS ⊢;omega,hn,hr,mU.snoc ht h1 h2 h3 h4⟩
 | [],_::_,_,_,_,_,_,_,h,_,_,_,_=>h.elim
 | _::_, [],_,_,_,_,_,_,h,_,_,_,_=>h.elim
theorem mU.le {w:World} {g:Nat} : ∀ {ns:List Nd} {xs:List Value} {lo hi:Nat},mU w g ns xs lo hi->lo<=hi
 | [], [],_,_,h=>h
 | _::_,_::_,lo,hi,h=>by obtain ⟨a1,a2,hS,_⟩:=h;unfold Sub at hS;omega
 | [],_::_,_,_,h=>h.elim
 | _::_, [],_,_,h=>h.elim
theorem mU.move {w:World} {g g' : Nat} : ∀ {ns:List Nd} {xs:List Value} {lo hi:Nat},mU w g ns xs lo hi->hi<=g'->mU w g' ns xs lo hi
 | [], [],_,_,h,_=>h
 | n::ns,x::xs,lo,hi,h,hg=>by
  obtain ⟨a1,a2,hS,hn,hr,ht⟩:=h
  have:=ht.le
  exact ⟨a1,a2,by unfold Sub at hS ⊢;omega,hn,hr,ht.move hg⟩
 | [],_::_,_,_,h,_=>h.elim
 | _::_, [],_,_,h,_=>h.elim
theorem mU.frame {w w' : World} {g:Nat} (hs:w.heap.size<=w'.heap.size):∀ {ns:List Nd} {xs:List Value} {lo hi:Nat},mU w g ns xs lo hi->(∀ k,lo<=k->k<hi->k≠g->w'.heap[k]?=w.heap[k]?)->mU w' g ns xs lo hi
 | [], [],_,_,h,_=>h
 | n::ns,x::xs,lo,hi,h,hk=>by
  obtain ⟨a1,a2,hS,hn,hr,ht⟩:=h
  have:=ht.le
  unfold Sub at hS
  exact ⟨a1,a2,hS,hn,hr.frame hs _ _ _ _ (λk h1 h2=>hk k (by omega) (by omega) (by omega)) (λ_ _ _ _ e=>absurd e (hn _ _ _)),ht.frame hs λk h1 h2 h3=>hk k (by omega) h2 h3⟩
 | [],_::_,_,_,h,_=>h.elim
 | _::_, [],_,_,h,_=>h.elim
theorem mU.rp {w:World} {g:Nat} (hg:g<w.heap.size) (cap:Nat):∀ {ns:List Nd} {xs:List Value} {lo hi off:Nat},mU w g ns xs lo hi->(∀ j u,xs[j]?=some u->w.cell? ⟨g,off+j,none⟩=some u)->Rp w (gZ ns .nil) lo hi (.slice (some ⟨g,off,none⟩) ns.length cap)
 | [], [],lo,hi,off,h,_=>⟨h,_,_,rfl⟩
 | n::ns,x::xs,lo,hi,off,h,hc=>by
  obtain ⟨a1,a2,hS,hn,hr,ht⟩:=h
  refine ⟨g,off,ns.length,cap,x,a1,a2,rfl,hg,hS,by simpa using hc 0 x rfl,hn,hr,?_⟩
  exact mU.rp hg cap ht λj u hj=>by have:=hc (j+1) u (by simpa using hj);rw [show off+1+j=off+(j+1) by omega];exact this
 | [],_::_,_,_,_,h,_=>h.elim
 | _::_, [],_,_,_,h,_=>h.elim
theorem mU.len {w:World} {g:Nat} : ∀ {ns:List Nd} {xs:List Value} {lo hi:Nat},mU w g ns xs lo hi->xs.length=ns.length
 | [], [],_,_,_=>rfl
 | _::ns,_::xs,_,_,h=>by obtain ⟨_,_,_,_,_,ht⟩:=h;simp [ht.len]
 | [],_::_,_,_,h=>h.elim
 | _::_, [],_,_,h=>h.elim
theorem J4:(prog.info? 242).map (λi=>(i.zero,i.size,i.bytes))=some (some .nilIface,1,16):=by kernel_rfl
theorem aR.one {v:Value} (h:aR v):v.oneCell'=true:=by
 rcases h with rfl | ⟨t,x,rfl⟩ <;> rfl
end Go.Proofs.YtgnncnhkgmhngaaGreatDoor
