import Derived.Test.YtgnncnhkgmhngaaGreatDoorJ18
import Derived.Test.YtgnncnhkgmhngaaGreatDoorJ20
set_option maxHeartbeats 2000000
namespace Go.Proofs.YtgnncnhkgmhngaaGreatDoor
open Sp
open Tryz
open Go.RowKit
attribute [local go_sem ↓] Go.wp_at_zero Go.wp_at_succ
theorem Rp.Ox {W:World} {x y:Nd} {lo h1 l2 h2 bb hi:Nat} {v u:Value} {wd:Sp.Bs} {a:Nat} {al:Bool} (r1:Rp W x lo h1 v) (r2:Rp W y l2 h2 u) (n1:b9 v) (n2:b9 u) (e1:h1<=l2) (e2:h2<=bb) (e4:bb<hi) (kb:At W bb [.string (bz wd), .int .i64 (a:Int), .bool al,v,u]) :
  Rp W (.comb wd a al x y) lo hi (.iface 280 (.pointer (some ⟨bb,0,none⟩))):=by
 have l1:=Rp.le _ _ _ _ r1
 have l3:=Rp.le _ _ _ _ r2
 exact ⟨bb,_,_,lo,l2,h2,rfl,by omega,e4,by unfold Sub;omega,by unfold Sub;omega,kb,n1,Rp.wide _ _ _ _ _ _ r1 (aF _) e1,n2,r2⟩
theorem wU {b c cap len:Nat} {s:Sp.Bs} {n:Nat} (nt iC:Nt) (zs:List Sp.Bs) (RK:mD nt<=20)
  (IH:Hid (∀ m,m<=n->Sd b c cap len s m nt aR 133))
  (hL:Hid (∀ m d σ,Sp.run s (m+1) iC d σ=if aU s zs σ then Sp.run s m iC d (Sp.run s m nt d ((σ.step s).take s [97,108,108])) else σ))
  (hT:Hid (∀ m d a σ,Sp.tr s (m+1) iC d a σ=if aU s zs σ then Sp.tr s m iC d (.comb (σ.word s) (σ.at_ s) ((σ.step s).is s [97,108,108]) a (Sp.tr s m nt d .nil ((σ.step s).take s [97,108,108]))) (Sp.run s m nt d ((σ.step s).take s [97,108,108])) else a))
  (d:Nat) (σ:St) (w:World) (hd:d+n<=1000000) (hm:32*rem s σ+mD nt<=n) (hn1:32*rem s σ+1<=n) (hp:PS b c cap len s d σ w) (q k:Nat) (hq:Words q (zs.map bz) w) (JW:q≠b) (hk:k=zs.length) :
  Calls prog 132 #[.pointer (some ⟨b,0,none⟩), .func (.func 133) #[.pointer (some ⟨b,0,none⟩)] #[], .slice (some ⟨q,0,none⟩) k k] w (aX b c cap len s d (Sp.run s n iC d (Sp.run s n nt d σ)) w aR λw' v=>Rp w' (Sp.tr s n iC d (Sp.tr s n nt d .nil σ) (Sp.run s n nt d σ)) w.heap.size w'.heap.size v):=by
 have hr:=cR s n nt d σ
 have hbw:=hp.lb
 have hcw:=hp.lc
 have HP:=hid hp
 have HQ:Hid (∀ w',Kept b w w'->Words q (zs.map bz) w'):=λw' kk=>⟨b6 hq.1 kk.size,hq.2.1,hq.2.2.1,λj h=>(kk.cell (p:=⟨q,j,none⟩) hq.1 JW).trans (hq.2.2.2 j h)⟩
 have HKK:=hid hk
 clear hp hq hk
 go_enter func132,ntmps132
 go_wp2_with fail
 refine (IH.out n (aF _) d σ _ (by omega) hm HP.out).mono ?_
 rintro r w1 ⟨v1,rfl,hp1,hk1,hi1,hr1⟩
 obtain ⟨i,wd,hi,tc,P⟩:=bG hp1
 have bP:=hid hp1
 have bD:=hid hk1
 have HI1:=hid hi1
 have HR1:=hid hr1
 have HT1:Hid (IX s len i (Sp.run s n nt d σ)/\TC c s w1 i wd):=⟨hi,tc⟩
 have gP:=jR P
 clear hp1 hk1 hi1 hr1 hi tc P HP
 generalize hkk:kn (aE s (pos s i))=kk at gP
 generalize Oe:aP s (pos s i)=aa at gP
 have Of:=hid Oe
 clear hkk Oe
 go_wp2_with fail
 refine (gP.out _ rfl).mono ?_
 rintro r w2 ⟨rfl,hb2⟩
 have HB2:=hid hb2
 clear hb2 gP
 go_wp2_with fail
 have HP2:Hid (PS b c cap len s d (Sp.run s n nt d σ) (w2.alloc (.cells #[.int .i64 kk, .int .i64 aa, .string wd] 155))):=(bP.out.below HB2.out).alloc _
 have aY:Hid (Kept b w (w2.alloc (.cells #[.int .i64 kk, .int .i64 aa, .string wd] 155))):=(bD.out.trans (Kept.below HB2.out)).alloc _
 have HT2:Hid (TB s (w2.alloc (.cells #[.int .i64 kk, .int .i64 aa, .string wd] 155)) w2.heap.size (Sp.run s n nt d σ)):=TB.of HT1.out.1 HT1.out.2 (Bk.new _ _ _) Of.out
 have HR2:Hid ((Sp.run s n nt d σ).aA=true->∃ hi,hi<=w2.heap.size/\Rp (w2.alloc (.cells #[.int .i64 kk, .int .i64 aa, .string wd] 155)) (Sp.tr s n nt d .nil σ) w.heap.size hi v1):=λhl=>⟨w1.heap.size,HB2.out.size,((HR1.out hl).kept (Kept.below HB2.out) hbw (aF _) (HI1.out.bC.sin _ _)).kept ((Kept.refl b _).alloc _) hbw HB2.out.size (HI1.out.bC.sin _ _)⟩
 have hz2:w.heap.size<=w2.heap.size:=cF bD.out.size HB2.out.size
 clear bP bD HT1 HB2 HR1 Of
 go_loopg [7,8] n (λgm v p wr=>gm<=n/\∃ (σ' : St) (nd:Nd) (q8:Nat),32*rem s σ'+1<=gm/\p = .pointer (some ⟨q8,0,none⟩)/\w.heap.size<=q8/\Hid (Sp.run s n iC d (Sp.run s n nt d σ)=Sp.run s gm iC d σ')/\Hid (Sp.tr s n iC d (Sp.tr s n nt d .nil σ) (Sp.run s n nt d σ)=Sp.tr s gm iC d nd σ')/\Hid (PS b c cap len s d σ' wr)/\Hid (Kept b w wr)/\Hid (aR v)/\Hid (σ'.aA=true->∃ hi,hi<=q8/\Rp wr nd w.heap.size hi v)/\Hid (TB s wr q8 σ'))
 case atStart=>exact ⟨aF _,_,_,w2.heap.size,by omega,rfl,hz2,rfl,rfl,HP2.out,aY.out,HI1.out,HR2.out,HT2.out⟩
 case round=>
  obtain ⟨hmn,σ',nd,q8,hms,rfl,hq8,HR,pP,kM,hZ,x7,s5,uL⟩:=hrel
  obtain ⟨m,rfl⟩:∃ m,gk=m+1:=⟨gk - 1,by omega⟩
  have HW:=HQ.out _ hZ.out
  have Og:=hid HW
  clear HW
  cases hs:aU s zs σ'
  ·have HV:Hid (Sp.run s (m+1) iC d σ'=σ'):=by show _=_;rw [hL.out,hs];rfl
   have cL:Hid (Sp.tr s (m+1) iC d nd σ'=nd):=by show _=_;rw [hT.out,hs];rfl
   go_wp2_with fail
   refine (fD kM.out q k zs Og.out HKK.out).mono ?_
   rintro r w3 ⟨rfl,hp3,hk3⟩
   rw [hs] at hp3
   have dJ:Hid (PS b c cap len s d σ' w3):=hp3
   have bL:=hid hk3
   clear hp3 hk3
   rw [hs]
   go_wp2_with fail
   go_ret
   refine ⟨_,rfl,by rw [HR.out,HV.out];exact dJ.out,hZ.out.trans bL.out,x7.out,λhl=>?_⟩
   rw [pP.out,cL.out]
   rw [HR.out,HV.out] at hl
   obtain ⟨hi,h1,h2⟩:=s5.out hl
   have hq:=uL.out.lt
   exact (h2.kept bL.out hbw (by omega) (x7.out.bC.sin _ _)).wide _ _ _ _ _ _ (aF _) (by have:=bL.out.size;omega)
  ·have HV:Hid (Sp.run s (m+1) iC d σ'=Sp.run s m iC d (Sp.run s m nt d ((σ'.step s).take s [97,108,108]))):=by show _=_;rw [hL.out,hs];rfl
   have cL:Hid (Sp.tr s (m+1) iC d nd σ'=Sp.tr s m iC d (.comb (σ'.word s) (σ'.at_ s) ((σ'.step s).is s [97,108,108]) nd (Sp.tr s m nt d .nil ((σ'.step s).take s [97,108,108]))) (Sp.run s m nt d ((σ'.step s).take s [97,108,108]))):=by show _=_;rw [hT.out,hs];rfl
   have h1:=p8 hs
   have h1b:=pU s [97,108,108] (σ'.step s)
   have h2:=cR s m nt d ((σ'.step s).take s [97,108,108])
   have lX:Hid (σ'.aA=true/\∀ e,σ' = .live e->aE s e ≠ .bad):=⟨nZ hs,fT hs⟩
   obtain ⟨wO,i6,wd',hbk,htk⟩:=uL.out
   have jV:Hid (i6=σ'.at_ s/\wd'=bz (σ'.word s)):=⟨(htk lX.out.1).1,(htk lX.out.1).2 lX.out.2⟩
   have mR:=hbk.lt
   have Oh:=hid hbk
   clear hbk htk uL
   go_wp2_with fail
   refine (fD kM.out q k zs Og.out HKK.out).mono ?_
   rintro r w3 ⟨rfl,hp3,hk3⟩
   rw [hs] at hp3
   have dJ:Hid (PS b c cap len s d (σ'.step s) w3):=hp3
   have bL:=hid hk3
   have hB3:=Oh.out.kept hk3 (by omega)
   have hx:=hB3.lt
   have x1:=hB3.k1
   have x2:=hB3.k2
   have HB3:=hid hB3
   clear hp3 hk3 hB3 Oh
   rw [hs]
   have hv7:=x7.out.cells
   unfold Value.cells at hv7
   generalize hall:(σ'.step s).is s [97,108,108]=nF at *
   generalize Kj:(σ'.step s).take s [97,108,108]=Hw at *
   have Ex:Hid ((σ'.step s).is s [97,108,108]=nF/\(σ'.step s).take s [97,108,108]=Hw):=⟨hall,Kj⟩
   clear hall Kj
   go_wp2_with fail
   go_region_held3 (λw'=>w'.cell? ⟨q8,1,none⟩=some (.int .i64 (i6 : Int))/\w'.cell? ⟨q8,2,none⟩=some (.string wd')) (first | go_keep | exact ⟨y1,y2⟩ | exact ⟨z1,z2⟩) (first | (go_at_call 76;refine (aW dJ.out.drew [97,108,108] (by decide)).mono ?_;rintro e w4 ⟨rfl,gJ,hk4⟩;rw [Ex.out.1];rw [Ex.out.2] at gJ;have Ac:Kept b w3 w4:=((Kept.refl b w3).drew).trans hk4;have hB4:=HB3.out.kept Ac (by omega);have hy:=hB4.lt;have y1:=hB4.k1;have y2:=hB4.k2) | (go_at_call 133;refine (IH.out m (by omega) d _ _ (by omega) (by omega) gJ).mono ?_;rintro e w5 ⟨v5,rfl,oJ,hk5,hi5,Oo⟩;have hv5:=hi5.cells;unfold Value.cells at hv5;have wC:=hB4.kept hk5 (by omega);have hz:=wC.lt;have z1:=wC.k1;have z2:=wC.k2))
   have Vk:=hk5.size
   have Vl:=Ac.size
   have hwr:=hZ.out.size
   have RO:=bL.out.size
   have kN:Hid (PS b c cap len s d (Sp.run s m nt d Hw) (w5.alloc (Obj.cells #[Value.string wd',Value.int IntKind.i64 (i6 : Int),Value.bool nF,u7,v5] 282))):=oJ.alloc _
   have Kk:Hid (Kept b wr w5):=(bL.out.trans Ac).trans hk5
   have qD:Hid (Kept b w5 (w5.alloc (Obj.cells #[Value.string wd',Value.int IntKind.i64 (i6 : Int),Value.bool nF,u7,v5] 282))):=(Kept.refl b w5).alloc _
   have Bd:Hid (Bk (w5.alloc (Obj.cells #[Value.string wd',Value.int IntKind.i64 (i6 : Int),Value.bool nF,u7,v5] 282)) q8 [.int .i64 wO, .int .i64 (i6 : Int), .string wd']):=wC.alloc _
   have Oq:=hid hi5
   have x8:(w5.alloc (Obj.cells #[Value.string wd',Value.int IntKind.i64 (i6 : Int),Value.bool nF,u7,v5] 282)).heap.size=w5.heap.size+1:=by simp
   have Jh:Hid ((Sp.run s m nt d Hw).aA=true->Rp (w5.alloc (Obj.cells #[Value.string wd',Value.int IntKind.i64 (i6 : Int),Value.bool nF,u7,v5] 282)) (.comb (σ'.word s) (σ'.at_ s) nF nd (Sp.tr s m nt d .nil Hw)) w.heap.size (w5.heap.size+1) (.iface 280 (.pointer (some ⟨w5.heap.size,0,none⟩)))):=by
    intro hl
    obtain ⟨hi,g1,g2⟩:=s5.out lX.out.1
    obtain ⟨e1,e2⟩:=jV.out
    subst e1 e2
    exact Rp.Ox ((g2.cO x7.out.bC Kk.out hbw (by omega)).cO x7.out.bC qD.out hbw (by omega)) ((Oo hl).cO Oq.out.bC qD.out (by omega) (aF _)) x7.out.bC Oq.out.bC (by omega) (aF _) (by omega) (Bk.new w5 _ _).at_
   generalize (w5.alloc (Obj.cells #[Value.string wd',Value.int IntKind.i64 (i6 : Int),Value.bool nF,u7,v5] 282))=w6 at *
   have iS:Hid (Kept b w w6):=(hZ.out.trans Kk.out).trans qD.out
   clear x1 x2 y1 y2 z1 z2
   have x0:=Bd.out.k0
   have x1:=Bd.out.k1
   have x2:=Bd.out.k2
   have hx6:=Bd.out.lt
   clear hB4 gJ hk4 Ac oJ hk5 hi5 Oo wC hv5 hv7 HB3 dJ hx hy hz
   have BV : w5.heap.size+1<=w6.heap.size:=by omega
   have Sz : w6.heap.size<=w5.heap.size+1:=by omega
   clear x8
   go_wp2_with fail
   obtain ⟨i',RQ,Oi,Oj,P6⟩:=bG (kN.out.alloc (Obj.cells #[Value.int IntKind.i64 wO,Value.int IntKind.i64 (i6 : Int),Value.string wd'] 155))
   refine P6.mono ?_
   rintro r w7 ⟨rfl,hb7⟩
   have BG:=hb7.size
   have BG:w6.heap.size+1<=w7.heap.size:=by simpa using BG
   have oZ:=(Bk.new w6 #[Value.int IntKind.i64 wO,Value.int IntKind.i64 (i6 : Int),Value.string wd'] 155).below hb7
   have z0:=oZ.k0
   have z1:=oZ.k1
   have z2:=oZ.k2
   have g0:=oZ.f 0
   have g1:=oZ.f 1
   have g2:=oZ.f 2
   have Pw:=hid oZ
   have wT:Hid (Kept b w6 w7):=((Kept.refl b w6).alloc _).trans (Kept.below hb7)
   have pQ:Hid (PS b c cap len s d (Sp.run s m nt d Hw) w7):=(kN.out.alloc _).below hb7
   have Ol:Hid (IX s len i' (Sp.run s m nt d Hw)/\TC c s (w6.alloc (Obj.cells #[Value.int IntKind.i64 wO,Value.int IntKind.i64 (i6 : Int),Value.string wd'] 155)) i' RQ):=⟨Oi,Oj⟩
   clear hb7 oZ Oi Oj P6 x0 x1 x2 Bd kN
   go_wp2_with fail
   go_roundg m
   case measure=>omega
   case rel=>
    have hw6:=iS.out.size
    obtain ⟨ea,eb⟩:=Ex.out
    refine ⟨by omega,_,_,w6.heap.size,by omega,rfl,hw6,by show _=_;rw [HR.out,HV.out],by show _=_;rw [pP.out,cL.out],((pQ.out.put _ 0 (by omega) (by omega) _).put _ 1 (by omega) (by omega) _).put _ 2 (by omega) (by omega) _,(((iS.out.trans wT.out).aI (by simpa using hw6) _).aI (by simpa using hw6) _).aI (by simpa using hw6) _,Or.inr ⟨_,_,rfl⟩,λhl=>?_,TB.of Ol.out.1 Ol.out.2 (Pw.out.JV _ _ _) rfl⟩
    refine ⟨w5.heap.size+1,BV,?_⟩
    refine ((Jh.out hl).cO (b9.iface _ _) wT.out hbw BV).frame (by simp [World.setCell]) _ _ _ _ (λk h1 h2=>?_) (λ_ _ _ _ e=>by cases e)
    rw [c6 _ _ _ _ (by simp;omega),c6 _ _ _ _ (by simp;omega),c6 _ _ _ _ (by simp;omega)]
theorem s7 {b c cap len:Nat} {s:Sp.Bs} {n:Nat} (nt iC:Nt) (zs:List Sp.Bs) (RK:mD nt<=20)
  (IH:Hid (∀ m,m<=n->Sd b c cap len s m nt aR 176))
  (hL:Hid (∀ m d σ,Sp.run s (m+1) iC d σ=if aU s zs σ then Sp.run s m iC d (Sp.run s m nt d ((σ.step s).take s [97,108,108])) else σ))
  (hT:Hid (∀ m d a σ,Sp.tr s (m+1) iC d a σ=if aU s zs σ then Sp.tr s m iC d (.comb (σ.word s) (σ.at_ s) ((σ.step s).is s [97,108,108]) a (Sp.tr s m nt d .nil ((σ.step s).take s [97,108,108]))) (Sp.run s m nt d ((σ.step s).take s [97,108,108])) else a))
  (d:Nat) (σ:St) (w:World) (hd:d+n<=1000000) (hm:32*rem s σ+mD nt<=n) (hn1:32*rem s σ+1<=n) (hp:PS b c cap len s d σ w) (q k:Nat) (hq:Words q (zs.map bz) w) (JW:q≠b) (hk:k=zs.length) :
  Calls prog 132 #[.pointer (some ⟨b,0,none⟩), .func (.func 176) #[.pointer (some ⟨b,0,none⟩)] #[], .slice (some ⟨q,0,none⟩) k k] w (aX b c cap len s d (Sp.run s n iC d (Sp.run s n nt d σ)) w aR λw' v=>Rp w' (Sp.tr s n iC d (Sp.tr s n nt d .nil σ) (Sp.run s n nt d σ)) w.heap.size w'.heap.size v):=by
 have hr:=cR s n nt d σ
 have hbw:=hp.lb
 have hcw:=hp.lc
 have HP:=hid hp
 have HQ:Hid (∀ w',Kept b w w'->Words q (zs.map bz) w'):=λw' kk=>⟨b6 hq.1 kk.size,hq.2.1,hq.2.2.1,λj h=>(kk.cell (p:=⟨q,j,none⟩) hq.1 JW).trans (hq.2.2.2 j h)⟩
 have HKK:=hid hk
 clear hp hq hk
 go_enter func132,ntmps132
 go_wp2_with fail
 refine (IH.out n (aF _) d σ _ (by omega) hm HP.out).mono ?_
 rintro r w1 ⟨v1,rfl,hp1,hk1,hi1,hr1⟩
 obtain ⟨i,wd,hi,tc,P⟩:=bG hp1
 have bP:=hid hp1
 have bD:=hid hk1
 have HI1:=hid hi1
 have HR1:=hid hr1
 have HT1:Hid (IX s len i (Sp.run s n nt d σ)/\TC c s w1 i wd):=⟨hi,tc⟩
 have gP:=jR P
 clear hp1 hk1 hi1 hr1 hi tc P HP
 generalize hkk:kn (aE s (pos s i))=kk at gP
 generalize Oe:aP s (pos s i)=aa at gP
 have Of:=hid Oe
 clear hkk Oe
 go_wp2_with fail
 refine (gP.out _ rfl).mono ?_
 rintro r w2 ⟨rfl,hb2⟩
 have HB2:=hid hb2
 clear hb2 gP
 go_wp2_with fail
 have HP2:Hid (PS b c cap len s d (Sp.run s n nt d σ) (w2.alloc (.cells #[.int .i64 kk, .int .i64 aa, .string wd] 155))):=(bP.out.below HB2.out).alloc _
 have aY:Hid (Kept b w (w2.alloc (.cells #[.int .i64 kk, .int .i64 aa, .string wd] 155))):=(bD.out.trans (Kept.below HB2.out)).alloc _
 have HT2:Hid (TB s (w2.alloc (.cells #[.int .i64 kk, .int .i64 aa, .string wd] 155)) w2.heap.size (Sp.run s n nt d σ)):=TB.of HT1.out.1 HT1.out.2 (Bk.new _ _ _) Of.out
 have HR2:Hid ((Sp.run s n nt d σ).aA=true->∃ hi,hi<=w2.heap.size/\Rp (w2.alloc (.cells #[.int .i64 kk, .int .i64 aa, .string wd] 155)) (Sp.tr s n nt d .nil σ) w.heap.size hi v1):=λhl=>⟨w1.heap.size,HB2.out.size,((HR1.out hl).kept (Kept.below HB2.out) hbw (aF _) (HI1.out.bC.sin _ _)).kept ((Kept.refl b _).alloc _) hbw HB2.out.size (HI1.out.bC.sin _ _)⟩
 have hz2:w.heap.size<=w2.heap.size:=cF bD.out.size HB2.out.size
 clear bP bD HT1 HB2 HR1 Of
 go_loopg [7,8] n (λgm v p wr=>gm<=n/\∃ (σ' : St) (nd:Nd) (q8:Nat),32*rem s σ'+1<=gm/\p = .pointer (some ⟨q8,0,none⟩)/\w.heap.size<=q8/\Hid (Sp.run s n iC d (Sp.run s n nt d σ)=Sp.run s gm iC d σ')/\Hid (Sp.tr s n iC d (Sp.tr s n nt d .nil σ) (Sp.run s n nt d σ)=Sp.tr s gm iC d nd σ')/\Hid (PS b c cap len s d σ' wr)/\Hid (Kept b w wr)/\Hid (aR v)/\Hid (σ'.aA=true->∃ hi,hi<=q8/\Rp wr nd w.heap.size hi v)/\Hid (TB s wr q8 σ'))
 case atStart=>exact ⟨aF _,_,_,w2.heap.size,by omega,rfl,hz2,rfl,rfl,HP2.out,aY.out,HI1.out,HR2.out,HT2.out⟩
 case round=>
  obtain ⟨hmn,σ',nd,q8,hms,rfl,hq8,HR,pP,kM,hZ,x7,s5,uL⟩:=hrel
  obtain ⟨m,rfl⟩:∃ m,gk=m+1:=⟨gk - 1,by omega⟩
  have HW:=HQ.out _ hZ.out
  have Og:=hid HW
  clear HW
  cases hs:aU s zs σ'
  ·have HV:Hid (Sp.run s (m+1) iC d σ'=σ'):=by show _=_;rw [hL.out,hs];rfl
   have cL:Hid (Sp.tr s (m+1) iC d nd σ'=nd):=by show _=_;rw [hT.out,hs];rfl
   go_wp2_with fail
   refine (fD kM.out q k zs Og.out HKK.out).mono ?_
   rintro r w3 ⟨rfl,hp3,hk3⟩
   rw [hs] at hp3
   have dJ:Hid (PS b c cap len s d σ' w3):=hp3
   have bL:=hid hk3
   clear hp3 hk3
   rw [hs]
   go_wp2_with fail
   go_ret
   refine ⟨_,rfl,by rw [HR.out,HV.out];exact dJ.out,hZ.out.trans bL.out,x7.out,λhl=>?_⟩
   rw [pP.out,cL.out]
   rw [HR.out,HV.out] at hl
   obtain ⟨hi,h1,h2⟩:=s5.out hl
   have hq:=uL.out.lt
   exact (h2.kept bL.out hbw (by omega) (x7.out.bC.sin _ _)).wide _ _ _ _ _ _ (aF _) (by have:=bL.out.size;omega)
  ·have HV:Hid (Sp.run s (m+1) iC d σ'=Sp.run s m iC d (Sp.run s m nt d ((σ'.step s).take s [97,108,108]))):=by show _=_;rw [hL.out,hs];rfl
   have cL:Hid (Sp.tr s (m+1) iC d nd σ'=Sp.tr s m iC d (.comb (σ'.word s) (σ'.at_ s) ((σ'.step s).is s [97,108,108]) nd (Sp.tr s m nt d .nil ((σ'.step s).take s [97,108,108]))) (Sp.run s m nt d ((σ'.step s).take s [97,108,108]))):=by show _=_;rw [hT.out,hs];rfl
   have h1:=p8 hs
   have h1b:=pU s [97,108,108] (σ'.step s)
   have h2:=cR s m nt d ((σ'.step s).take s [97,108,108])
   have lX:Hid (σ'.aA=true/\∀ e,σ' = .live e->aE s e ≠ .bad):=⟨nZ hs,fT hs⟩
   obtain ⟨wO,i6,wd',hbk,htk⟩:=uL.out
   have jV:Hid (i6=σ'.at_ s/\wd'=bz (σ'.word s)):=⟨(htk lX.out.1).1,(htk lX.out.1).2 lX.out.2⟩
   have mR:=hbk.lt
   have Oh:=hid hbk
   clear hbk htk uL
   go_wp2_with fail
   refine (fD kM.out q k zs Og.out HKK.out).mono ?_
   rintro r w3 ⟨rfl,hp3,hk3⟩
   rw [hs] at hp3
   have dJ:Hid (PS b c cap len s d (σ'.step s) w3):=hp3
   have bL:=hid hk3
   have hB3:=Oh.out.kept hk3 (by omega)
   have hx:=hB3.lt
   have x1:=hB3.k1
   have x2:=hB3.k2
   have HB3:=hid hB3
   clear hp3 hk3 hB3 Oh
   rw [hs]
   have hv7:=x7.out.cells
   unfold Value.cells at hv7
   generalize hall:(σ'.step s).is s [97,108,108]=nF at *
   generalize Kj:(σ'.step s).take s [97,108,108]=Hw at *
   have Ex:Hid ((σ'.step s).is s [97,108,108]=nF/\(σ'.step s).take s [97,108,108]=Hw):=⟨hall,Kj⟩
   clear hall Kj
   go_wp2_with fail
   go_region_held3 (λw'=>w'.cell? ⟨q8,1,none⟩=some (.int .i64 (i6 : Int))/\w'.cell? ⟨q8,2,none⟩=some (.string wd')) (first | go_keep | exact ⟨y1,y2⟩ | exact ⟨z1,z2⟩) (first | (go_at_call 76;refine (aW dJ.out.drew [97,108,108] (by decide)).mono ?_;rintro e w4 ⟨rfl,gJ,hk4⟩;rw [Ex.out.1];rw [Ex.out.2] at gJ;have Ac:Kept b w3 w4:=((Kept.refl b w3).drew).trans hk4;have hB4:=HB3.out.kept Ac (by omega);have hy:=hB4.lt;have y1:=hB4.k1;have y2:=hB4.k2) | (go_at_call 176;refine (IH.out m (by omega) d _ _ (by omega) (by omega) gJ).mono ?_;rintro e w5 ⟨v5,rfl,oJ,hk5,hi5,Oo⟩;have hv5:=hi5.cells;unfold Value.cells at hv5;have wC:=hB4.kept hk5 (by omega);have hz:=wC.lt;have z1:=wC.k1;have z2:=wC.k2))
   have Vk:=hk5.size
   have Vl:=Ac.size
   have hwr:=hZ.out.size
   have RO:=bL.out.size
   have kN:Hid (PS b c cap len s d (Sp.run s m nt d Hw) (w5.alloc (Obj.cells #[Value.string wd',Value.int IntKind.i64 (i6 : Int),Value.bool nF,u7,v5] 282))):=oJ.alloc _
   have Kk:Hid (Kept b wr w5):=(bL.out.trans Ac).trans hk5
   have qD:Hid (Kept b w5 (w5.alloc (Obj.cells #[Value.string wd',Value.int IntKind.i64 (i6 : Int),Value.bool nF,u7,v5] 282))):=(Kept.refl b w5).alloc _
   have Bd:Hid (Bk (w5.alloc (Obj.cells #[Value.string wd',Value.int IntKind.i64 (i6 : Int),Value.bool nF,u7,v5] 282)) q8 [.int .i64 wO, .int .i64 (i6 : Int), .string wd']):=wC.alloc _
   have Oq:=hid hi5
   have x8:(w5.alloc (Obj.cells #[Value.string wd',Value.int IntKind.i64 (i6 : Int),Value.bool nF,u7,v5] 282)).heap.size=w5.heap.size+1:=by simp
   have Jh:Hid ((Sp.run s m nt d Hw).aA=true->Rp (w5.alloc (Obj.cells #[Value.string wd',Value.int IntKind.i64 (i6 : Int),Value.bool nF,u7,v5] 282)) (.comb (σ'.word s) (σ'.at_ s) nF nd (Sp.tr s m nt d .nil Hw)) w.heap.size (w5.heap.size+1) (.iface 280 (.pointer (some ⟨w5.heap.size,0,none⟩)))):=by
    intro hl
    obtain ⟨hi,g1,g2⟩:=s5.out lX.out.1
    obtain ⟨e1,e2⟩:=jV.out
    subst e1 e2
    exact Rp.Ox ((g2.cO x7.out.bC Kk.out hbw (by omega)).cO x7.out.bC qD.out hbw (by omega)) ((Oo hl).cO Oq.out.bC qD.out (by omega) (aF _)) x7.out.bC Oq.out.bC (by omega) (aF _) (by omega) (Bk.new w5 _ _).at_
   generalize (w5.alloc (Obj.cells #[Value.string wd',Value.int IntKind.i64 (i6 : Int),Value.bool nF,u7,v5] 282))=w6 at *
   have iS:Hid (Kept b w w6):=(hZ.out.trans Kk.out).trans qD.out
   clear x1 x2 y1 y2 z1 z2
   have x0:=Bd.out.k0
   have x1:=Bd.out.k1
   have x2:=Bd.out.k2
   have hx6:=Bd.out.lt
   clear hB4 gJ hk4 Ac oJ hk5 hi5 Oo wC hv5 hv7 HB3 dJ hx hy hz
   have BV : w5.heap.size+1<=w6.heap.size:=by omega
   have Sz : w6.heap.size<=w5.heap.size+1:=by omega
   clear x8
   go_wp2_with fail
   obtain ⟨i',RQ,Oi,Oj,P6⟩:=bG (kN.out.alloc (Obj.cells #[Value.int IntKind.i64 wO,Value.int IntKind.i64 (i6 : Int),Value.string wd'] 155))
   refine P6.mono ?_
   rintro r w7 ⟨rfl,hb7⟩
   have BG:=hb7.size
   have BG:w6.heap.size+1<=w7.heap.size:=by simpa using BG
   have oZ:=(Bk.new w6 #[Value.int IntKind.i64 wO,Value.int IntKind.i64 (i6 : Int),Value.string wd'] 155).below hb7
   have z0:=oZ.k0
   have z1:=oZ.k1
   have z2:=oZ.k2
   have g0:=oZ.f 0
   have g1:=oZ.f 1
   have g2:=oZ.f 2
   have Pw:=hid oZ
   have wT:Hid (Kept b w6 w7):=((Kept.refl b w6).alloc _).trans (Kept.below hb7)
   have pQ:Hid (PS b c cap len s d (Sp.run s m nt d Hw) w7):=(kN.out.alloc _).below hb7
   have Ol:Hid (IX s len i' (Sp.run s m nt d Hw)/\TC c s (w6.alloc (Obj.cells #[Value.int IntKind.i64 wO,Value.int IntKind.i64 (i6 : Int),Value.string wd'] 155)) i' RQ):=⟨Oi,Oj⟩
   clear hb7 oZ Oi Oj P6 x0 x1 x2 Bd kN
   go_wp2_with fail
   go_roundg m
   case measure=>omega
   case rel=>
    have hw6:=iS.out.size
    obtain ⟨ea,eb⟩:=Ex.out
    refine ⟨by omega,_,_,w6.heap.size,by omega,rfl,hw6,by show _=_;rw [HR.out,HV.out],by show _=_;rw [pP.out,cL.out],((pQ.out.put _ 0 (by omega) (by omega) _).put _ 1 (by omega) (by omega) _).put _ 2 (by omega) (by omega) _,(((iS.out.trans wT.out).aI (by simpa using hw6) _).aI (by simpa using hw6) _).aI (by simpa using hw6) _,Or.inr ⟨_,_,rfl⟩,λhl=>?_,TB.of Ol.out.1 Ol.out.2 (Pw.out.JV _ _ _) rfl⟩
    refine ⟨w5.heap.size+1,BV,?_⟩
    refine ((Jh.out hl).cO (b9.iface _ _) wT.out hbw BV).frame (by simp [World.setCell]) _ _ _ _ (λk h1 h2=>?_) (λ_ _ _ _ e=>by cases e)
    rw [c6 _ _ _ _ (by simp;omega),c6 _ _ _ _ (by simp;omega),c6 _ _ _ _ (by simp;omega)]
end Go.Proofs.YtgnncnhkgmhngaaGreatDoor
namespace Go.Proofs.YtgnncnhkgmhngaaGreatDoor
open Sp
open Tryz
open Go.RowKit
theorem Ey {b c cap len:Nat} {s:Sp.Bs} {n:Nat} (IH:Hid (∀ m,m<=n->All b c cap len s m)):Sd b c cap len s (n+1) .query aR 83:=by
 intro d σ w hd hm hp
 have hbw:=hp.lb
 have hm' : 32*rem s σ+mD .query<=n+1:=hm
 have hm1:32*rem s σ+mD .term<=n:=by simp only [mD] at hm' ⊢;omega
 have hm2:32*rem s σ+1<=n:=by simp only [mD] at hm';omega
 clear hm hm'
 have C:∀ w0,w0=w.alloc (.cells #[.string ⟨#[117,110,105,111,110]⟩, .string ⟨#[101,120,99,101,112,116]⟩] 9)->Calls prog 132 #[.pointer (some ⟨b,0,none⟩), .func (.func 133) #[.pointer (some ⟨b,0,none⟩)] #[], .slice (some ⟨w.heap.size,0,none⟩) 2 2] w0 (aX b c cap len s d (Sp.run s n .iN d (Sp.run s n .term d σ)) w0 aR λw' v=>Rp w' (Sp.tr s n .iN d (Sp.tr s n .term d .nil σ) (Sp.run s n .term d σ)) w0.heap.size w'.heap.size v):=by
  intro w0 e
  subst e
  refine wU .term .iN [[117,110,105,111,110], [101,120,99,101,112,116]] (by decide) (λm hm=>(IH.out m hm).term) ?_ ?_ d σ _ (by omega) hm1 hm2 (hp.alloc _) w.heap.size 2 (fH rfl (by decide) (by decide)) (by omega) rfl
  ·intro m d σ;rw [Sp.run,rJ]
  ·intro m d a σ;rw [Sp.tr,rJ]
 have HC:=hid C
 clear C hp
 have hmf:=mG
 go_enter func83,ntmps83
 go_wp2_with fail
 refine (HC.out _ rfl).mono ?_
 rintro r w1 ⟨v1,rfl,hp1,hk1,hi1,hr1⟩
 have bP:=hid hp1
 have bD:Hid (Kept b w w1):=((Kept.refl b w).alloc _).trans hk1
 have HI1:=hid hi1
 have HR1:Hid ((Sp.run s (n+1) .query d σ).aA=true->Rp w1 (Sp.tr s (n+1) .query d .nil σ) w.heap.size w1.heap.size v1):=λhl=>Rp.wide _ _ _ _ _ _ (hr1 hl) (by simp) (aF _)
 clear hp1 hk1 hi1 hr1
 go_wp2_with fail
 go_ret
 exact ⟨_,rfl,bP.out,bD.out,HI1.out,HR1.out⟩
theorem Hx {b c cap len:Nat} {s:Sp.Bs} {n:Nat} (IH:Hid (∀ m,m<=n->All b c cap len s m)):Sd b c cap len s (n+1) .term aR 133:=by
 intro d σ w hd hm hp
 have hbw:=hp.lb
 have hm' : 32*rem s σ+mD .term<=n+1:=hm
 have hm1:32*rem s σ+mD .factor<=n:=by simp only [mD] at hm' ⊢;omega
 have hm2:32*rem s σ+1<=n:=by simp only [mD] at hm';omega
 clear hm hm'
 have C:∀ w0,w0=w.alloc (.cells #[.string ⟨#[105,110,116,101,114,115,101,99,116]⟩] 9)->Calls prog 132 #[.pointer (some ⟨b,0,none⟩), .func (.func 176) #[.pointer (some ⟨b,0,none⟩)] #[], .slice (some ⟨w.heap.size,0,none⟩) 1 1] w0 (aX b c cap len s d (Sp.run s n .mB d (Sp.run s n .factor d σ)) w0 aR λw' v=>Rp w' (Sp.tr s n .mB d (Sp.tr s n .factor d .nil σ) (Sp.run s n .factor d σ)) w0.heap.size w'.heap.size v):=by
  intro w0 e
  subst e
  refine s7 .factor .mB [[105,110,116,101,114,115,101,99,116]] (by decide) (λm hm=>(IH.out m hm).factor) ?_ ?_ d σ _ (by omega) hm1 hm2 (hp.alloc _) w.heap.size 1 (fH rfl (by decide) (by decide)) (by omega) rfl
  ·intro m d σ;rw [Sp.run,mM]
  ·intro m d a σ;rw [Sp.tr,mM]
 have HC:=hid C
 clear C hp
 have hmf:=mG
 go_enter func133,ntmps133
 go_wp2_with fail
 refine (HC.out _ rfl).mono ?_
 rintro r w1 ⟨v1,rfl,hp1,hk1,hi1,hr1⟩
 have bP:=hid hp1
 have bD:Hid (Kept b w w1):=((Kept.refl b w).alloc _).trans hk1
 have HI1:=hid hi1
 have HR1:Hid ((Sp.run s (n+1) .term d σ).aA=true->Rp w1 (Sp.tr s (n+1) .term d .nil σ) w.heap.size w1.heap.size v1):=λhl=>Rp.wide _ _ _ _ _ _ (hr1 hl) (by simp) (aF _)
 clear hp1 hk1 hi1 hr1
 go_wp2_with fail
 go_ret
 exact ⟨_,rfl,bP.out,bD.out,HI1.out,HR1.out⟩
theorem all_zero (b c cap len:Nat) (s:Sp.Bs):All b c cap len s 0:=by
 constructor <;> (intro d σ w hd hm hp;exact absurd hm (by simp [mD]))
theorem rM (b c cap len:Nat) (s:Sp.Bs) (hsl:s.length<=100000):∀ n m,m<=n->All b c cap len s m
 | 0,m,h=>by
  obtain rfl:m=0:=by omega
  exact all_zero b c cap len s
 | n+1,m,h=>by
  have IH:Hid (∀ m,m<=n->All b c cap len s m):=λm h=>rM b c cap len s hsl n m h
  by_cases e:m=n+1
  ·subst e
   exact ⟨Hk IH,Hl IH,Mz IH,zX IH,JY IH,zW IH,D8 IH,Hq hsl IH,Ec IH,Ey IH,Hx IH,BY IH⟩
  ·exact IH.out m (by omega)
end Go.Proofs.YtgnncnhkgmhngaaGreatDoor
