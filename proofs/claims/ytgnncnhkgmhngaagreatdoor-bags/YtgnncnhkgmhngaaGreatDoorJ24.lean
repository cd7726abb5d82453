import Derived.Test.YtgnncnhkgmhngaaGreatDoorJ22
import Derived.Test.YtgnncnhkgmhngaaGreatDoorJ23
set_option maxHeartbeats 2000000
namespace Go.Proofs.YtgnncnhkgmhngaaGreatDoor
open Sp
open Go.RowKit
attribute [local go_sem ↓] Go.wp_at_zero Go.wp_at_succ
theorem Rp.M0 {W:World} {x y:Nd} {lo h1 l2 h2 bb hi:Nat} {v u:Value} {wd:Sp.Bs} {a:Nat} {al:Bool} (r1:Rp W x lo h1 v) (r2:Rp W y l2 h2 u) (n1:cH v) (n2:cH u) (e1:h1<=l2) (e2:h2<=bb) (e4:bb<hi) (kb:At W bb [.string (bz wd), .int .i64 (a:Int), .bool al,v,u]) :
  Rp W (.comb wd a al x y) lo hi (.iface 280 (.pointer (some ⟨bb,0,none⟩))):=by
 have l1:=Rp.le _ _ _ _ r1
 have l3:=Rp.le _ _ _ _ r2
 exact ⟨bb,_,_,lo,l2,h2,rfl,by omega,e4,by unfold Sub;omega,by unfold Sub;omega,kb,n1,Rp.wide _ _ _ _ _ _ r1 (aF _) e1,n2,r2⟩
theorem vQ {b c cap len:Nat} {s:Sp.Bs} {n:Nat} (nt gX:Nt) (zs:List Sp.Bs) (PH:lK nt<=20)
  (IH:Hid (∀ m,m<=n->Sd b c cap len s m nt aQ 133))
  (hL:Hid (∀ m d σ,Sp.run s (m+1) gX d σ=if aT s zs σ then Sp.run s m gX d (Sp.run s m nt d ((σ.step s).take s [97,108,108])) else σ))
  (hT:Hid (∀ m d a σ,Sp.tr s (m+1) gX d a σ=if aT s zs σ then Sp.tr s m gX d (.comb (σ.word s) (σ.at_ s) ((σ.step s).is s [97,108,108]) a (Sp.tr s m nt d .nil ((σ.step s).take s [97,108,108]))) (Sp.run s m nt d ((σ.step s).take s [97,108,108])) else a))
  (d:Nat) (σ:St) (w:World) (hd:d+n<=1000000) (hm:32*rem s σ+lK nt<=n) (hn1:32*rem s σ+1<=n) (hp:PS b c cap len s d σ w) (q k:Nat) (hq:Words q (zs.map bz) w) (IN:q≠b) (hk:k=zs.length) :
  Calls Tryz.prog 132 #[.pointer (some ⟨b,0,none⟩), .func (.func 133) #[.pointer (some ⟨b,0,none⟩)] #[], .slice (some ⟨q,0,none⟩) k k] w (aX b c cap len s d (Sp.run s n gX d (Sp.run s n nt d σ)) w aQ λw' v=>Rp w' (Sp.tr s n gX d (Sp.tr s n nt d .nil σ) (Sp.run s n nt d σ)) w.heap.size w'.heap.size v):=by
 have hr:=cJ s n nt d σ
 have hbw:=hp.lb
 have hcw:=hp.lc
 have HP:=hid hp
 have HQ:Hid (∀ w',Kept b w w'->Words q (zs.map bz) w'):=λw' kk=>⟨bY hq.1 kk.size,hq.2.1,hq.2.2.1,λj h=>(kk.cell (p:=⟨q,j,none⟩) hq.1 IN).trans (hq.2.2.2 j h)⟩
 have HKK:=hid hk
 clear hp hq hk
 go_enter Tryz.func132,Tryz.ntmps132
 go_wp2_with fail
 refine (IH.out n (aF _) d σ _ (by omega) hm HP.out).mono ?_
 rintro r w1 ⟨v1,rfl,hp1,hk1,hi1,hr1⟩
 obtain ⟨i,wd,hi,tc,P⟩:=bG hp1
 have bT:=hid hp1
 have bD:=hid hk1
 have HI1:=hid hi1
 have HR1:=hid hr1
 have HT1:Hid (IX s len i (Sp.run s n nt d σ)/\TC c s w1 i wd):=⟨hi,tc⟩
 have gJ:=jL P
 clear hp1 hk1 hi1 hr1 hi tc P HP
 generalize hkk:kn (aD s (pos s i))=kk at gJ
 generalize Mr:aO s (pos s i)=aa at gJ
 have Ms:=hid Mr
 clear hkk Mr
 go_wp2_with fail
 refine (gJ.out _ rfl).mono ?_
 rintro r w2 ⟨rfl,hb2⟩
 have HB2:=hid hb2
 clear hb2 gJ
 go_wp2_with fail
 have HP2:Hid (PS b c cap len s d (Sp.run s n nt d σ) (w2.alloc (.cells #[.int .i64 kk, .int .i64 aa, .string wd] 155))):=(bT.out.below HB2.out).alloc _
 have aY:Hid (Kept b w (w2.alloc (.cells #[.int .i64 kk, .int .i64 aa, .string wd] 155))):=(bD.out.trans (Kept.below HB2.out)).alloc _
 have HT2:Hid (TB s (w2.alloc (.cells #[.int .i64 kk, .int .i64 aa, .string wd] 155)) w2.heap.size (Sp.run s n nt d σ)):=TB.of HT1.out.1 HT1.out.2 (Bk.new _ _ _) Ms.out
 have HR2:Hid ((Sp.run s n nt d σ).aA=true->∃ hi,hi<=w2.heap.size/\Rp (w2.alloc (.cells #[.int .i64 kk, .int .i64 aa, .string wd] 155)) (Sp.tr s n nt d .nil σ) w.heap.size hi v1):=λhl=>⟨w1.heap.size,HB2.out.size,((HR1.out hl).kept (Kept.below HB2.out) hbw (aF _) (HI1.out.bC.sin _ _)).kept ((Kept.refl b _).alloc _) hbw HB2.out.size (HI1.out.bC.sin _ _)⟩
 have hz2:w.heap.size<=w2.heap.size:=cE bD.out.size HB2.out.size
 clear bT bD HT1 HB2 HR1 Ms
 go_loopg [7,8] n (λgm v p wr=>gm<=n/\∃ (σ' : St) (nd:Nd) (q8:Nat),32*rem s σ'+1<=gm/\p = .pointer (some ⟨q8,0,none⟩)/\w.heap.size<=q8/\Hid (Sp.run s n gX d (Sp.run s n nt d σ)=Sp.run s gm gX d σ')/\Hid (Sp.tr s n gX d (Sp.tr s n nt d .nil σ) (Sp.run s n nt d σ)=Sp.tr s gm gX d nd σ')/\Hid (PS b c cap len s d σ' wr)/\Hid (Kept b w wr)/\Hid (aQ v)/\Hid (σ'.aA=true->∃ hi,hi<=q8/\Rp wr nd w.heap.size hi v)/\Hid (TB s wr q8 σ'))
 case atStart=>exact ⟨aF _,_,_,w2.heap.size,by omega,rfl,hz2,rfl,rfl,HP2.out,aY.out,HI1.out,HR2.out,HT2.out⟩
 case round=>
  obtain ⟨hmn,σ',nd,q8,hms,rfl,hq8,HR,o6,j9,fY,wS,sJ,AX⟩:=hrel
  obtain ⟨m,rfl⟩:∃ m,gk=m+1:=⟨gk - 1,by omega⟩
  have HW:=HQ.out _ fY.out
  have Mt:=hid HW
  clear HW
  cases hs:aT s zs σ'
  ·have HV:Hid (Sp.run s (m+1) gX d σ'=σ'):=by show _=_;rw [hL.out,hs];rfl
   have cA:Hid (Sp.tr s (m+1) gX d nd σ'=nd):=by show _=_;rw [hT.out,hs];rfl
   go_wp2_with fail
   refine (eR j9.out q k zs Mt.out HKK.out).mono ?_
   rintro r w3 ⟨rfl,hp3,hk3⟩
   rw [hs] at hp3
   have cS:Hid (PS b c cap len s d σ' w3):=hp3
   have bH:=hid hk3
   clear hp3 hk3
   rw [hs]
   go_wp2_with fail
   go_ret
   refine ⟨_,rfl,by rw [HR.out,HV.out];exact cS.out,fY.out.trans bH.out,wS.out,λhl=>?_⟩
   rw [o6.out,cA.out]
   rw [HR.out,HV.out] at hl
   obtain ⟨hi,h1,h2⟩:=sJ.out hl
   have hq:=AX.out.lt
   exact (h2.kept bH.out hbw (by omega) (wS.out.bC.sin _ _)).wide _ _ _ _ _ _ (aF _) (by have:=bH.out.size;omega)
  ·have HV:Hid (Sp.run s (m+1) gX d σ'=Sp.run s m gX d (Sp.run s m nt d ((σ'.step s).take s [97,108,108]))):=by show _=_;rw [hL.out,hs];rfl
   have cA:Hid (Sp.tr s (m+1) gX d nd σ'=Sp.tr s m gX d (.comb (σ'.word s) (σ'.at_ s) ((σ'.step s).is s [97,108,108]) nd (Sp.tr s m nt d .nil ((σ'.step s).take s [97,108,108]))) (Sp.run s m nt d ((σ'.step s).take s [97,108,108]))):=by show _=_;rw [hT.out,hs];rfl
   have h1:=pK hs
   have h1b:=pC s [97,108,108] (σ'.step s)
   have h2:=cJ s m nt d ((σ'.step s).take s [97,108,108])
   have lD:Hid (σ'.aA=true/\∀ e,σ' = .live e->aD s e ≠ .bad):=⟨nF hs,fI hs⟩
   obtain ⟨vH,iO,wd',hbk,htk⟩:=AX.out
   have jQ:Hid (iO=σ'.at_ s/\wd'=bz (σ'.word s)):=⟨(htk lD.out.1).1,(htk lD.out.1).2 lD.out.2⟩
   have oF:=hbk.lt
   have Mu:=hid hbk
   clear hbk htk AX
   go_wp2_with fail
   refine (eR j9.out q k zs Mt.out HKK.out).mono ?_
   rintro r w3 ⟨rfl,hp3,hk3⟩
   rw [hs] at hp3
   have cS:Hid (PS b c cap len s d (σ'.step s) w3):=hp3
   have bH:=hid hk3
   have hB3:=Mu.out.kept hk3 (by omega)
   have hx:=hB3.lt
   have x1:=hB3.k1
   have x2:=hB3.k2
   have HB3:=hid hB3
   clear hp3 hk3 hB3 Mu
   rw [hs]
   have hv7:=wS.out.cells
   unfold Value.cells at hv7
   generalize hall:(σ'.step s).is s [97,108,108]=mK at *
   generalize Ji:(σ'.step s).take s [97,108,108]=Gz at *
   have DQ:Hid ((σ'.step s).is s [97,108,108]=mK/\(σ'.step s).take s [97,108,108]=Gz):=⟨hall,Ji⟩
   clear hall Ji
   go_wp2_with fail
   go_region_held3 (λw'=>w'.cell? ⟨q8,1,none⟩=some (.int .i64 (iO : Int))/\w'.cell? ⟨q8,2,none⟩=some (.string wd')) (first | go_keep | exact ⟨y1,y2⟩ | exact ⟨z1,z2⟩) (first | (go_at_call 76;refine (aW cS.out.drew [97,108,108] (by decide)).mono ?_;rintro e w4 ⟨rfl,gD,hk4⟩;rw [DQ.out.1];rw [DQ.out.2] at gD;have zJ:Kept b w3 w4:=((Kept.refl b w3).drew).trans hk4;have hB4:=HB3.out.kept zJ (by omega);have hy:=hB4.lt;have y1:=hB4.k1;have y2:=hB4.k2) | (go_at_call 133;refine (IH.out m (by omega) d _ _ (by omega) (by omega) gD).mono ?_;rintro e w5 ⟨v5,rfl,nT,hk5,hi5,MB⟩;have hv5:=hi5.cells;unfold Value.cells at hv5;have xA:=hB4.kept hk5 (by omega);have hz:=xA.lt;have z1:=xA.k1;have z2:=xA.k2))
   have TJ:=hk5.size
   have TL:=zJ.size
   have hwr:=fY.out.size
   have PL:=bH.out.size
   have kA:Hid (PS b c cap len s d (Sp.run s m nt d Gz) (w5.alloc (Obj.cells #[Value.string wd',Value.int IntKind.i64 (iO : Int),Value.bool mK,u7,v5] 282))):=nT.alloc _
   have Jj:Hid (Kept b wr w5):=(bH.out.trans zJ).trans hk5
   have pP:Hid (Kept b w5 (w5.alloc (Obj.cells #[Value.string wd',Value.int IntKind.i64 (iO : Int),Value.bool mK,u7,v5] 282))):=(Kept.refl b w5).alloc _
   have CW:Hid (Bk (w5.alloc (Obj.cells #[Value.string wd',Value.int IntKind.i64 (iO : Int),Value.bool mK,u7,v5] 282)) q8 [.int .i64 vH, .int .i64 (iO : Int), .string wd']):=xA.alloc _
   have MC:=hid hi5
   have Ds:(w5.alloc (Obj.cells #[Value.string wd',Value.int IntKind.i64 (iO : Int),Value.bool mK,u7,v5] 282)).heap.size=w5.heap.size+1:=by simp
   have H8:Hid ((Sp.run s m nt d Gz).aA=true->Rp (w5.alloc (Obj.cells #[Value.string wd',Value.int IntKind.i64 (iO : Int),Value.bool mK,u7,v5] 282)) (.comb (σ'.word s) (σ'.at_ s) mK nd (Sp.tr s m nt d .nil Gz)) w.heap.size (w5.heap.size+1) (.iface 280 (.pointer (some ⟨w5.heap.size,0,none⟩)))):=by
    intro hl
    obtain ⟨hi,g1,g2⟩:=sJ.out lD.out.1
    obtain ⟨e1,e2⟩:=jQ.out
    subst e1 e2
    exact Rp.M0 ((g2.cF wS.out.bC Jj.out hbw (by omega)).cF wS.out.bC pP.out hbw (by omega)) ((MB hl).cF MC.out.bC pP.out (by omega) (aF _)) wS.out.bC MC.out.bC (by omega) (aF _) (by omega) (Bk.new w5 _ _).at_
   generalize (w5.alloc (Obj.cells #[Value.string wd',Value.int IntKind.i64 (iO : Int),Value.bool mK,u7,v5] 282))=w6 at *
   have iX:Hid (Kept b w w6):=(fY.out.trans Jj.out).trans pP.out
   clear x1 x2 y1 y2 z1 z2
   have x0:=CW.out.k0
   have x1:=CW.out.k1
   have x2:=CW.out.k2
   have hx6:=CW.out.lt
   clear hB4 gD hk4 zJ nT hk5 hi5 MB xA hv5 hv7 HB3 cS hx hy hz
   have By : w5.heap.size+1<=w6.heap.size:=by omega
   have Qt : w6.heap.size<=w5.heap.size+1:=by omega
   clear Ds
   go_wp2_with fail
   obtain ⟨i',PM,Mv,Mw,P6⟩:=bG (kA.out.alloc (Obj.cells #[Value.int IntKind.i64 vH,Value.int IntKind.i64 (iO : Int),Value.string wd'] 155))
   refine P6.mono ?_
   rintro r w7 ⟨rfl,hb7⟩
   have IP:=hb7.size
   have IP:w6.heap.size+1<=w7.heap.size:=by simpa using IP
   have oI:=(Bk.new w6 #[Value.int IntKind.i64 vH,Value.int IntKind.i64 (iO : Int),Value.string wd'] 155).below hb7
   have z0:=oI.k0
   have z1:=oI.k1
   have z2:=oI.k2
   have g0:=oI.f 0
   have g1:=oI.f 1
   have g2:=oI.f 2
   have Mx:=hid oI
   have vP:Hid (Kept b w6 w7):=((Kept.refl b w6).alloc _).trans (Kept.below hb7)
   have o7:Hid (PS b c cap len s d (Sp.run s m nt d Gz) w7):=(kA.out.alloc _).below hb7
   have My:Hid (IX s len i' (Sp.run s m nt d Gz)/\TC c s (w6.alloc (Obj.cells #[Value.int IntKind.i64 vH,Value.int IntKind.i64 (iO : Int),Value.string wd'] 155)) i' PM):=⟨Mv,Mw⟩
   clear hb7 oI Mv Mw P6 x0 x1 x2 CW kA
   go_wp2_with fail
   go_roundg m
   case measure=>omega
   case rel=>
    have hw6:=iX.out.size
    obtain ⟨ea,eb⟩:=DQ.out
    refine ⟨by omega,_,_,w6.heap.size,by omega,rfl,hw6,by show _=_;rw [HR.out,HV.out],by show _=_;rw [o6.out,cA.out],((o7.out.put _ 0 (by omega) (by omega) _).put _ 1 (by omega) (by omega) _).put _ 2 (by omega) (by omega) _,(((iX.out.trans vP.out).aJ (by simpa using hw6) _).aJ (by simpa using hw6) _).aJ (by simpa using hw6) _,Or.inr ⟨_,_,rfl⟩,λhl=>?_,TB.of My.out.1 My.out.2 (Mx.out.IM _ _ _) rfl⟩
    refine ⟨w5.heap.size+1,By,?_⟩
    refine ((H8.out hl).cF (cH.iface _ _) vP.out hbw By).frame (by simp [World.setCell]) _ _ _ _ (λk h1 h2=>?_) (λ_ _ _ _ e=>by cases e)
    rw [dQ _ _ _ _ (by simp;omega),dQ _ _ _ _ (by simp;omega),dQ _ _ _ _ (by simp;omega)]
theorem sK {b c cap len:Nat} {s:Sp.Bs} {n:Nat} (nt gX:Nt) (zs:List Sp.Bs) (PH:lK nt<=20)
  (IH:Hid (∀ m,m<=n->Sd b c cap len s m nt aQ 176))
  (hL:Hid (∀ m d σ,Sp.run s (m+1) gX d σ=if aT s zs σ then Sp.run s m gX d (Sp.run s m nt d ((σ.step s).take s [97,108,108])) else σ))
  (hT:Hid (∀ m d a σ,Sp.tr s (m+1) gX d a σ=if aT s zs σ then Sp.tr s m gX d (.comb (σ.word s) (σ.at_ s) ((σ.step s).is s [97,108,108]) a (Sp.tr s m nt d .nil ((σ.step s).take s [97,108,108]))) (Sp.run s m nt d ((σ.step s).take s [97,108,108])) else a))
  (d:Nat) (σ:St) (w:World) (hd:d+n<=1000000) (hm:32*rem s σ+lK nt<=n) (hn1:32*rem s σ+1<=n) (hp:PS b c cap len s d σ w) (q k:Nat) (hq:Words q (zs.map bz) w) (IN:q≠b) (hk:k=zs.length) :
  Calls Tryz.prog 132 #[.pointer (some ⟨b,0,none⟩), .func (.func 176) #[.pointer (some ⟨b,0,none⟩)] #[], .slice (some ⟨q,0,none⟩) k k] w (aX b c cap len s d (Sp.run s n gX d (Sp.run s n nt d σ)) w aQ λw' v=>Rp w' (Sp.tr s n gX d (Sp.tr s n nt d .nil σ) (Sp.run s n nt d σ)) w.heap.size w'.heap.size v):=by
 have hr:=cJ s n nt d σ
 have hbw:=hp.lb
 have hcw:=hp.lc
 have HP:=hid hp
 have HQ:Hid (∀ w',Kept b w w'->Words q (zs.map bz) w'):=λw' kk=>⟨bY hq.1 kk.size,hq.2.1,hq.2.2.1,λj h=>(kk.cell (p:=⟨q,j,none⟩) hq.1 IN).trans (hq.2.2.2 j h)⟩
 have HKK:=hid hk
 clear hp hq hk
 go_enter Tryz.func132,Tryz.ntmps132
 go_wp2_with fail
 refine (IH.out n (aF _) d σ _ (by omega) hm HP.out).mono ?_
 rintro r w1 ⟨v1,rfl,hp1,hk1,hi1,hr1⟩
 obtain ⟨i,wd,hi,tc,P⟩:=bG hp1
 have bT:=hid hp1
 have bD:=hid hk1
 have HI1:=hid hi1
 have HR1:=hid hr1
 have HT1:Hid (IX s len i (Sp.run s n nt d σ)/\TC c s w1 i wd):=⟨hi,tc⟩
 have gJ:=jL P
 clear hp1 hk1 hi1 hr1 hi tc P HP
 generalize hkk:kn (aD s (pos s i))=kk at gJ
 generalize Mr:aO s (pos s i)=aa at gJ
 have Ms:=hid Mr
 clear hkk Mr
 go_wp2_with fail
 refine (gJ.out _ rfl).mono ?_
 rintro r w2 ⟨rfl,hb2⟩
 have HB2:=hid hb2
 clear hb2 gJ
 go_wp2_with fail
 have HP2:Hid (PS b c cap len s d (Sp.run s n nt d σ) (w2.alloc (.cells #[.int .i64 kk, .int .i64 aa, .string wd] 155))):=(bT.out.below HB2.out).alloc _
 have aY:Hid (Kept b w (w2.alloc (.cells #[.int .i64 kk, .int .i64 aa, .string wd] 155))):=(bD.out.trans (Kept.below HB2.out)).alloc _
 have HT2:Hid (TB s (w2.alloc (.cells #[.int .i64 kk, .int .i64 aa, .string wd] 155)) w2.heap.size (Sp.run s n nt d σ)):=TB.of HT1.out.1 HT1.out.2 (Bk.new _ _ _) Ms.out
 have HR2:Hid ((Sp.run s n nt d σ).aA=true->∃ hi,hi<=w2.heap.size/\Rp (w2.alloc (.cells #[.int .i64 kk, .int .i64 aa, .string wd] 155)) (Sp.tr s n nt d .nil σ) w.heap.size hi v1):=λhl=>⟨w1.heap.size,HB2.out.size,((HR1.out hl).kept (Kept.below HB2.out) hbw (aF _) (HI1.out.bC.sin _ _)).kept ((Kept.refl b _).alloc _) hbw HB2.out.size (HI1.out.bC.sin _ _)⟩
 have hz2:w.heap.size<=w2.heap.size:=cE bD.out.size HB2.out.size
 clear bT bD HT1 HB2 HR1 Ms
 go_loopg [7,8] n (λgm v p wr=>gm<=n/\∃ (σ' : St) (nd:Nd) (q8:Nat),32*rem s σ'+1<=gm/\p = .pointer (some ⟨q8,0,none⟩)/\w.heap.size<=q8/\Hid (Sp.run s n gX d (Sp.run s n nt d σ)=Sp.run s gm gX d σ')/\Hid (Sp.tr s n gX d (Sp.tr s n nt d .nil σ) (Sp.run s n nt d σ)=Sp.tr s gm gX d nd σ')/\Hid (PS b c cap len s d σ' wr)/\Hid (Kept b w wr)/\Hid (aQ v)/\Hid (σ'.aA=true->∃ hi,hi<=q8/\Rp wr nd w.heap.size hi v)/\Hid (TB s wr q8 σ'))
 case atStart=>exact ⟨aF _,_,_,w2.heap.size,by omega,rfl,hz2,rfl,rfl,HP2.out,aY.out,HI1.out,HR2.out,HT2.out⟩
 case round=>
  obtain ⟨hmn,σ',nd,q8,hms,rfl,hq8,HR,o6,j9,fY,wS,sJ,AX⟩:=hrel
  obtain ⟨m,rfl⟩:∃ m,gk=m+1:=⟨gk - 1,by omega⟩
  have HW:=HQ.out _ fY.out
  have Mt:=hid HW
  clear HW
  cases hs:aT s zs σ'
  ·have HV:Hid (Sp.run s (m+1) gX d σ'=σ'):=by show _=_;rw [hL.out,hs];rfl
   have cA:Hid (Sp.tr s (m+1) gX d nd σ'=nd):=by show _=_;rw [hT.out,hs];rfl
   go_wp2_with fail
   refine (eR j9.out q k zs Mt.out HKK.out).mono ?_
   rintro r w3 ⟨rfl,hp3,hk3⟩
   rw [hs] at hp3
   have cS:Hid (PS b c cap len s d σ' w3):=hp3
   have bH:=hid hk3
   clear hp3 hk3
   rw [hs]
   go_wp2_with fail
   go_ret
   refine ⟨_,rfl,by rw [HR.out,HV.out];exact cS.out,fY.out.trans bH.out,wS.out,λhl=>?_⟩
   rw [o6.out,cA.out]
   rw [HR.out,HV.out] at hl
   obtain ⟨hi,h1,h2⟩:=sJ.out hl
   have hq:=AX.out.lt
   exact (h2.kept bH.out hbw (by omega) (wS.out.bC.sin _ _)).wide _ _ _ _ _ _ (aF _) (by have:=bH.out.size;omega)
  ·have HV:Hid (Sp.run s (m+1) gX d σ'=Sp.run s m gX d (Sp.run s m nt d ((σ'.step s).take s [97,108,108]))):=by show _=_;rw [hL.out,hs];rfl
   have cA:Hid (Sp.tr s (m+1) gX d nd σ'=Sp.tr s m gX d (.comb (σ'.word s) (σ'.at_ s) ((σ'.step s).is s [97,108,108]) nd (Sp.tr s m nt d .nil ((σ'.step s).take s [97,108,108]))) (Sp.run s m nt d ((σ'.step s).take s [97,108,108]))):=by show _=_;rw [hT.out,hs];rfl
   have h1:=pK hs
   have h1b:=pC s [97,108,108] (σ'.step s)
   have h2:=cJ s m nt d ((σ'.step s).take s [97,108,108])
   have lD:Hid (σ'.aA=true/\∀ e,σ' = .live e->aD s e ≠ .bad):=⟨nF hs,fI hs⟩
   obtain ⟨vH,iO,wd',hbk,htk⟩:=AX.out
   have jQ:Hid (iO=σ'.at_ s/\wd'=bz (σ'.word s)):=⟨(htk lD.out.1).1,(htk lD.out.1).2 lD.out.2⟩
   have oF:=hbk.lt
   have Mu:=hid hbk
   clear hbk htk AX
   go_wp2_with fail
   refine (eR j9.out q k zs Mt.out HKK.out).mono ?_
   rintro r w3 ⟨rfl,hp3,hk3⟩
   rw [hs] at hp3
   have cS:Hid (PS b c cap len s d (σ'.step s) w3):=hp3
   have bH:=hid hk3
   have hB3:=Mu.out.kept hk3 (by omega)
   have hx:=hB3.lt
   have x1:=hB3.k1
   have x2:=hB3.k2
   have HB3:=hid hB3
   clear hp3 hk3 hB3 Mu
   rw [hs]
   have hv7:=wS.out.cells
   unfold Value.cells at hv7
   generalize hall:(σ'.step s).is s [97,108,108]=mK at *
   generalize Ji:(σ'.step s).take s [97,108,108]=Gz at *
   have DQ:Hid ((σ'.step s).is s [97,108,108]=mK/\(σ'.step s).take s [97,108,108]=Gz):=⟨hall,Ji⟩
   clear hall Ji
   go_wp2_with fail
   go_region_held3 (λw'=>w'.cell? ⟨q8,1,none⟩=some (.int .i64 (iO : Int))/\w'.cell? ⟨q8,2,none⟩=some (.string wd')) (first | go_keep | exact ⟨y1,y2⟩ | exact ⟨z1,z2⟩) (first | (go_at_call 76;refine (aW cS.out.drew [97,108,108] (by decide)).mono ?_;rintro e w4 ⟨rfl,gD,hk4⟩;rw [DQ.out.1];rw [DQ.out.2] at gD;have zJ:Kept b w3 w4:=((Kept.refl b w3).drew).trans hk4;have hB4:=HB3.out.kept zJ (by omega);have hy:=hB4.lt;have y1:=hB4.k1;have y2:=hB4.k2) | (go_at_call 176;refine (IH.out m (by omega) d _ _ (by omega) (by omega) gD).mono ?_;rintro e w5 ⟨v5,rfl,nT,hk5,hi5,MB⟩;have hv5:=hi5.cells;unfold Value.cells at hv5;have xA:=hB4.kept hk5 (by omega);have hz:=xA.lt;have z1:=xA.k1;have z2:=xA.k2))
   have TJ:=hk5.size
   have TL:=zJ.size
   have hwr:=fY.out.size
   have PL:=bH.out.size
   have kA:Hid (PS b c cap len s d (Sp.run s m nt d Gz) (w5.alloc (Obj.cells #[Value.string wd',Value.int IntKind.i64 (iO : Int),Value.bool mK,u7,v5] 282))):=nT.alloc _
   have Jj:Hid (Kept b wr w5):=(bH.out.trans zJ).trans hk5
   have pP:Hid (Kept b w5 (w5.alloc (Obj.cells #[Value.string wd',Value.int IntKind.i64 (iO : Int),Value.bool mK,u7,v5] 282))):=(Kept.refl b w5).alloc _
   have CW:Hid (Bk (w5.alloc (Obj.cells #[Value.string wd',Value.int IntKind.i64 (iO : Int),Value.bool mK,u7,v5] 282)) q8 [.int .i64 vH, .int .i64 (iO : Int), .string wd']):=xA.alloc _
   have MC:=hid hi5
   have Ds:(w5.alloc (Obj.cells #[Value.string wd',Value.int IntKind.i64 (iO : Int),Value.bool mK,u7,v5] 282)).heap.size=w5.heap.size+1:=by simp
   have H8:Hid ((Sp.run s m nt d Gz).aA=true->Rp (w5.alloc (Obj.cells #[Value.string wd',Value.int IntKind.i64 (iO : Int),Value.bool mK,u7,v5] 282)) (.comb (σ'.word s) (σ'.at_ s) mK nd (Sp.tr s m nt d .nil Gz)) w.heap.size (w5.heap.size+1) (.iface 280 (.pointer (some ⟨w5.heap.size,0,none⟩)))):=by
    intro hl
    obtain ⟨hi,g1,g2⟩:=sJ.out lD.out.1
    obtain ⟨e1,e2⟩:=jQ.out
    subst e1 e2
    exact Rp.M0 ((g2.cF wS.out.bC Jj.out hbw (by omega)).cF wS.out.bC pP.out hbw (by omega)) ((MB hl).cF MC.out.bC pP.out (by omega) (aF _)) wS.out.bC MC.out.bC (by omega) (aF _) (by omega) (Bk.new w5 _ _).at_
   generalize (w5.alloc (Obj.cells #[Value.string wd',Value.int IntKind.i64 (iO : Int),Value.bool mK,u7,v5] 282))=w6 at *
   have iX:Hid (Kept b w w6):=(fY.out.trans Jj.out).trans pP.out
   clear x1 x2 y1 y2 z1 z2
   have x0:=CW.out.k0
   have x1:=CW.out.k1
   have x2:=CW.out.k2
   have hx6:=CW.out.lt
   clear hB4 gD hk4 zJ nT hk5 hi5 MB xA hv5 hv7 HB3 cS hx hy hz
   have By : w5.heap.size+1<=w6.heap.size:=by omega
   have Qt : w6.heap.size<=w5.heap.size+1:=by omega
   clear Ds
   go_wp2_with fail
   obtain ⟨i',PM,Mv,Mw,P6⟩:=bG (kA.out.alloc (Obj.cells #[Value.int IntKind.i64 vH,Value.int IntKind.i64 (iO : Int),Value.string wd'] 155))
   refine P6.mono ?_
   rintro r w7 ⟨rfl,hb7⟩
   have IP:=hb7.size
   have IP:w6.heap.size+1<=w7.heap.size:=by simpa using IP
   have oI:=(Bk.new w6 #[Value.int IntKind.i64 vH,Value.int IntKind.i64 (iO : Int),Value.string wd'] 155).below hb7
   have z0:=oI.k0
   have z1:=oI.k1
   have z2:=oI.k2
   have g0:=oI.f 0
   have g1:=oI.f 1
   have g2:=oI.f 2
   have Mx:=hid oI
   have vP:Hid (Kept b w6 w7):=((Kept.refl b w6).alloc _).trans (Kept.below hb7)
   have o7:Hid (PS b c cap len s d (Sp.run s m nt d Gz) w7):=(kA.out.alloc _).below hb7
   have My:Hid (IX s len i' (Sp.run s m nt d Gz)/\TC c s (w6.alloc (Obj.cells #[Value.int IntKind.i64 vH,Value.int IntKind.i64 (iO : Int),Value.string wd'] 155)) i' PM):=⟨Mv,Mw⟩
   clear hb7 oI Mv Mw P6 x0 x1 x2 CW kA
   go_wp2_with fail
   go_roundg m
   case measure=>omega
   case rel=>
    have hw6:=iX.out.size
    obtain ⟨ea,eb⟩:=DQ.out
    refine ⟨by omega,_,_,w6.heap.size,by omega,rfl,hw6,by show _=_;rw [HR.out,HV.out],by show _=_;rw [o6.out,cA.out],((o7.out.put _ 0 (by omega) (by omega) _).put _ 1 (by omega) (by omega) _).put _ 2 (by omega) (by omega) _,(((iX.out.trans vP.out).aJ (by simpa using hw6) _).aJ (by simpa using hw6) _).aJ (by simpa using hw6) _,Or.inr ⟨_,_,rfl⟩,λhl=>?_,TB.of My.out.1 My.out.2 (Mx.out.IM _ _ _) rfl⟩
    refine ⟨w5.heap.size+1,By,?_⟩
    refine ((H8.out hl).cF (cH.iface _ _) vP.out hbw By).frame (by simp [World.setCell]) _ _ _ _ (λk h1 h2=>?_) (λ_ _ _ _ e=>by cases e)
    rw [dQ _ _ _ _ (by simp;omega),dQ _ _ _ _ (by simp;omega),dQ _ _ _ _ (by simp;omega)]
end Go.Proofs.YtgnncnhkgmhngaaGreatDoor
namespace Go.Proofs.YtgnncnhkgmhngaaGreatDoor
open Sp
open Go.RowKit
theorem DR {b c cap len:Nat} {s:Sp.Bs} {n:Nat} (IH:Hid (∀ m,m<=n->All b c cap len s m)):Sd b c cap len s (n+1) .query aQ 83:=by
 intro d σ w hd hm hp
 have hbw:=hp.lb
 have hm' : 32*rem s σ+lK .query<=n+1:=hm
 have hm1:32*rem s σ+lK .term<=n:=by simp only [lK] at hm' ⊢;omega
 have hm2:32*rem s σ+1<=n:=by simp only [lK] at hm';omega
 clear hm hm'
 have C:∀ w0,w0=w.alloc (.cells #[.string ⟨#[117,110,105,111,110]⟩, .string ⟨#[101,120,99,101,112,116]⟩] 9)->Calls Tryz.prog 132 #[.pointer (some ⟨b,0,none⟩), .func (.func 133) #[.pointer (some ⟨b,0,none⟩)] #[], .slice (some ⟨w.heap.size,0,none⟩) 2 2] w0 (aX b c cap len s d (Sp.run s n .iA d (Sp.run s n .term d σ)) w0 aQ λw' v=>Rp w' (Sp.tr s n .iA d (Sp.tr s n .term d .nil σ) (Sp.run s n .term d σ)) w0.heap.size w'.heap.size v):=by
  intro w0 e
  subst e
  refine vQ .term .iA [[117,110,105,111,110], [101,120,99,101,112,116]] (by decide) (λm hm=>(IH.out m hm).term) ?_ ?_ d σ _ (by omega) hm1 hm2 (hp.alloc _) w.heap.size 2 (eW rfl (by decide) (by decide)) (by omega) rfl
  ·intro m d σ;rw [Sp.run,qN]
  ·intro m d a σ;rw [Sp.tr,qN]
 have HC:=hid C
 clear C hp
 have hmf:=lN
 go_enter Tryz.func83,Tryz.ntmps83
 go_wp2_with fail
 refine (HC.out _ rfl).mono ?_
 rintro r w1 ⟨v1,rfl,hp1,hk1,hi1,hr1⟩
 have bT:=hid hp1
 have bD:Hid (Kept b w w1):=((Kept.refl b w).alloc _).trans hk1
 have HI1:=hid hi1
 have HR1:Hid ((Sp.run s (n+1) .query d σ).aA=true->Rp w1 (Sp.tr s (n+1) .query d .nil σ) w.heap.size w1.heap.size v1):=λhl=>Rp.wide _ _ _ _ _ _ (hr1 hl) (by simp) (aF _)
 clear hp1 hk1 hi1 hr1
 go_wp2_with fail
 go_ret
 exact ⟨_,rfl,bT.out,bD.out,HI1.out,HR1.out⟩
theorem GC {b c cap len:Nat} {s:Sp.Bs} {n:Nat} (IH:Hid (∀ m,m<=n->All b c cap len s m)):Sd b c cap len s (n+1) .term aQ 133:=by
 intro d σ w hd hm hp
 have hbw:=hp.lb
 have hm' : 32*rem s σ+lK .term<=n+1:=hm
 have hm1:32*rem s σ+lK .factor<=n:=by simp only [lK] at hm' ⊢;omega
 have hm2:32*rem s σ+1<=n:=by simp only [lK] at hm';omega
 clear hm hm'
 have C:∀ w0,w0=w.alloc (.cells #[.string ⟨#[105,110,116,101,114,115,101,99,116]⟩] 9)->Calls Tryz.prog 132 #[.pointer (some ⟨b,0,none⟩), .func (.func 176) #[.pointer (some ⟨b,0,none⟩)] #[], .slice (some ⟨w.heap.size,0,none⟩) 1 1] w0 (aX b c cap len s d (Sp.run s n .lI d (Sp.run s n .factor d σ)) w0 aQ λw' v=>Rp w' (Sp.tr s n .lI d (Sp.tr s n .factor d .nil σ) (Sp.run s n .factor d σ)) w0.heap.size w'.heap.size v):=by
  intro w0 e
  subst e
  refine sK .factor .lI [[105,110,116,101,114,115,101,99,116]] (by decide) (λm hm=>(IH.out m hm).factor) ?_ ?_ d σ _ (by omega) hm1 hm2 (hp.alloc _) w.heap.size 1 (eW rfl (by decide) (by decide)) (by omega) rfl
  ·intro m d σ;rw [Sp.run,lT]
  ·intro m d a σ;rw [Sp.tr,lT]
 have HC:=hid C
 clear C hp
 have hmf:=lN
 go_enter Tryz.func133,Tryz.ntmps133
 go_wp2_with fail
 refine (HC.out _ rfl).mono ?_
 rintro r w1 ⟨v1,rfl,hp1,hk1,hi1,hr1⟩
 have bT:=hid hp1
 have bD:Hid (Kept b w w1):=((Kept.refl b w).alloc _).trans hk1
 have HI1:=hid hi1
 have HR1:Hid ((Sp.run s (n+1) .term d σ).aA=true->Rp w1 (Sp.tr s (n+1) .term d .nil σ) w.heap.size w1.heap.size v1):=λhl=>Rp.wide _ _ _ _ _ _ (hr1 hl) (by simp) (aF _)
 clear hp1 hk1 hi1 hr1
 go_wp2_with fail
 go_ret
 exact ⟨_,rfl,bT.out,bD.out,HI1.out,HR1.out⟩
theorem all_zero (b c cap len:Nat) (s:Sp.Bs):All b c cap len s 0:=by
 constructor <;> (intro d σ w hd hm hp;exact absurd hm (by simp [lK]))
theorem qP (b c cap len:Nat) (s:Sp.Bs) (hsl:s.length<=100000):∀ n m,m<=n->All b c cap len s m
 | 0,m,h=>by
  obtain rfl:m=0:=by omega
  exact all_zero b c cap len s
 | n+1,m,h=>by
  have IH:Hid (∀ m,m<=n->All b c cap len s m):=λm h=>qP b c cap len s hsl n m h
  by_cases e:m=n+1
  ·subst e
   exact ⟨Gk IH,Gl IH,KX IH,y9 IH,IR IH,y7 IH,Do IH,Gy hsl IH,Du IH,DR IH,GC IH,BA IH⟩
  ·exact IH.out m (by omega)
end Go.Proofs.YtgnncnhkgmhngaaGreatDoor
