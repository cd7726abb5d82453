import Derived.Test.YtgnncnhkgmhngaaGreatDoorJ23
import Derived.Test.YtgnncnhkgmhngaaGreatDoorJ25
set_option maxHeartbeats 2000000
namespace Go.Proofs.YtgnncnhkgmhngaaGreatDoor
open Go.RowKit
attribute [local go_sem ↓] Go.wp_at_zero Go.wp_at_succ
theorem Rp.comb2 {W:World} {x y:Sp.Nd} {lo h1 l2 h2 bb hi:Nat} {v u:Value} {wd:Sp.Bs} {a:Nat} {al:Bool} (r1:Rp W x lo h1 v) (r2:Rp W y l2 h2 u) (n1:NoSl v) (n2:NoSl u) (e1:h1<=l2) (e2:h2<=bb) (e4:bb<hi) (kb:At W bb [.string (bz wd), .int .i64 (a:Int), .bool al,v,u]) :
  Rp W (.comb wd a al x y) lo hi (.iface 280 (.pointer (some ⟨bb,0,none⟩))):=by
 have l1:=Rp.le _ _ _ _ r1
 have l3:=Rp.le _ _ _ _ r2
 exact ⟨bb,_,_,lo,l2,h2,rfl,by omega,e4,by unfold Sub;omega,by unfold Sub;omega,kb,n1,Rp.wide _ _ _ _ _ _ r1 (Nat.le_refl _) e1,n2,r2⟩
theorem combined_term {b c cap len:Nat} {s:Sp.Bs} {n:Nat} (nt ntL:Sp.Nt) (zs:List Sp.Bs) (hlev:Sp.lev nt<=20)
  (IH:Hid (∀ m,m<=n->Sd b c cap len s m nt IsIf 133))
  (hL:Hid (∀ m d σ,Sp.run s (m+1) ntL d σ=if seesOne s zs σ then Sp.run s m ntL d (Sp.run s m nt d ((σ.step s).take s [97,108,108])) else σ))
  (hT:Hid (∀ m d a σ,Sp.tr s (m+1) ntL d a σ=if seesOne s zs σ then Sp.tr s m ntL d (.comb (σ.word s) (σ.at_ s) ((σ.step s).is s [97,108,108]) a (Sp.tr s m nt d .nil ((σ.step s).take s [97,108,108]))) (Sp.run s m nt d ((σ.step s).take s [97,108,108])) else a))
  (d:Nat) (σ:Sp.St) (w:World) (hd:d+n<=1000000) (hm:32*Sp.rem s σ+Sp.lev nt<=n) (hn1:32*Sp.rem s σ+1<=n) (hp:PS b c cap len s d σ w) (q k:Nat) (hq:Words q (zs.map bz) w) (hqb:q≠b) (hk:k=zs.length) :
  Calls Tryz.prog 132 #[.pointer (some ⟨b,0,none⟩), .func (.func 133) #[.pointer (some ⟨b,0,none⟩)] #[], .slice (some ⟨q,0,none⟩) k k] w (PostV b c cap len s d (Sp.run s n ntL d (Sp.run s n nt d σ)) w IsIf fun w' v=>Rp w' (Sp.tr s n ntL d (Sp.tr s n nt d .nil σ) (Sp.run s n nt d σ)) w.heap.size w'.heap.size v):=by
 have hr:=Sp.rem_run s n nt d σ
 have hbw:=hp.lb
 have hcw:=hp.lc
 have HP:=hid hp
 have HQ:Hid (∀ w',Kept b w w'->Words q (zs.map bz) w'):=fun w' kk=>⟨Nat.lt_of_lt_of_le hq.1 kk.size,hq.2.1,hq.2.2.1,fun j h=>(kk.cell (p:=⟨q,j,none⟩) hq.1 hqb).trans (hq.2.2.2 j h)⟩
 have HKK:=hid hk
 clear hp hq hk
 go_enter Tryz.func132,Tryz.ntmps132
 go_wp2_with fail
 refine (IH.out n (Nat.le_refl _) d σ _ (by omega) hm HP.out).mono ?_
 rintro r w1 ⟨v1,rfl,hp1,hk1,hi1,hr1⟩
 obtain ⟨i,wd,hi,tc,P⟩:=peek_any hp1
 have HP1:=hid hp1
 have HK1:=hid hk1
 have HI1:=hid hi1
 have HR1:=hid hr1
 have HT1:Hid (IX s len i (Sp.run s n nt d σ)/\TC c s w1 i wd):=⟨hi,tc⟩
 have HPK:=hidc P
 clear hp1 hk1 hi1 hr1 hi tc P HP
 generalize hkk:kn (Sp.tokCl s (pos s i))=kk at HPK
 generalize haa:Sp.tokAt s (pos s i)=aa at HPK
 have HAA:=hid haa
 clear hkk haa
 go_wp2_with fail
 refine (HPK.out _ rfl).mono ?_
 rintro r w2 ⟨rfl,hb2⟩
 have HB2:=hid hb2
 clear hb2 HPK
 go_wp2_with fail
 have HP2:Hid (PS b c cap len s d (Sp.run s n nt d σ) (w2.alloc (.cells #[.int .i64 kk, .int .i64 aa, .string wd] 155))):=(HP1.out.below HB2.out).alloc _
 have HK2:Hid (Kept b w (w2.alloc (.cells #[.int .i64 kk, .int .i64 aa, .string wd] 155))):=(HK1.out.trans (Kept.below HB2.out)).alloc _
 have HT2:Hid (TB s (w2.alloc (.cells #[.int .i64 kk, .int .i64 aa, .string wd] 155)) w2.heap.size (Sp.run s n nt d σ)):=TB.of HT1.out.1 HT1.out.2 (Bk.new _ _ _) HAA.out
 have HR2:Hid ((Sp.run s n nt d σ).isLive=true->∃ hi,hi<=w2.heap.size/\Rp (w2.alloc (.cells #[.int .i64 kk, .int .i64 aa, .string wd] 155)) (Sp.tr s n nt d .nil σ) w.heap.size hi v1):=fun hl=>⟨w1.heap.size,HB2.out.size,((HR1.out hl).kept (Kept.below HB2.out) hbw (Nat.le_refl _) (HI1.out.noSl.sin _ _)).kept ((Kept.refl b _).alloc _) hbw HB2.out.size (HI1.out.noSl.sin _ _)⟩
 have hz2:w.heap.size<=w2.heap.size:=Nat.le_trans HK1.out.size HB2.out.size
 clear HP1 HK1 HT1 HB2 HR1 HAA
 go_loopg [7,8] n (fun gm v p wr=>gm<=n/\∃ (σ' : Sp.St) (nd:Sp.Nd) (q8:Nat),32*Sp.rem s σ'+1<=gm/\p = .pointer (some ⟨q8,0,none⟩)/\w.heap.size<=q8/\Hid (Sp.run s n ntL d (Sp.run s n nt d σ)=Sp.run s gm ntL d σ')/\Hid (Sp.tr s n ntL d (Sp.tr s n nt d .nil σ) (Sp.run s n nt d σ)=Sp.tr s gm ntL d nd σ')/\Hid (PS b c cap len s d σ' wr)/\Hid (Kept b w wr)/\Hid (IsIf v)/\Hid (σ'.isLive=true->∃ hi,hi<=q8/\Rp wr nd w.heap.size hi v)/\Hid (TB s wr q8 σ'))
 case atStart=>exact ⟨Nat.le_refl _,_,_,w2.heap.size,by omega,rfl,hz2,rfl,rfl,HP2.out,HK2.out,HI1.out,HR2.out,HT2.out⟩
 case round=>
  obtain ⟨hmn,σ',nd,q8,hms,rfl,hq8,HR,HRT,HPr,HKr,HIr,HRr,HTr⟩:=hrel
  obtain ⟨m,rfl⟩:∃ m,gk=m+1:=⟨gk - 1,by omega⟩
  have HW:=HQ.out _ HKr.out
  have HWH:=hid HW
  clear HW
  cases hs:seesOne s zs σ'
  ·have HV:Hid (Sp.run s (m+1) ntL d σ'=σ'):=by show _=_;rw [hL.out,hs];rfl
   have HVT:Hid (Sp.tr s (m+1) ntL d nd σ'=nd):=by show _=_;rw [hT.out,hs];rfl
   go_wp2_with fail
   refine (accept_any HPr.out q k zs HWH.out HKK.out).mono ?_
   rintro r w3 ⟨rfl,hp3,hk3⟩
   rw [hs] at hp3
   have HP3:Hid (PS b c cap len s d σ' w3):=hp3
   have HK3:=hid hk3
   clear hp3 hk3
   rw [hs]
   go_wp2_with fail
   go_ret
   refine ⟨_,rfl,by rw [HR.out,HV.out];exact HP3.out,HKr.out.trans HK3.out,HIr.out,fun hl=>?_⟩
   rw [HRT.out,HVT.out]
   rw [HR.out,HV.out] at hl
   obtain ⟨hi,h1,h2⟩:=HRr.out hl
   have hq:=HTr.out.lt
   exact (h2.kept HK3.out hbw (by omega) (HIr.out.noSl.sin _ _)).wide _ _ _ _ _ _ (Nat.le_refl _) (by have:=HK3.out.size;omega)
  ·have HV:Hid (Sp.run s (m+1) ntL d σ'=Sp.run s m ntL d (Sp.run s m nt d ((σ'.step s).take s [97,108,108]))):=by show _=_;rw [hL.out,hs];rfl
   have HVT:Hid (Sp.tr s (m+1) ntL d nd σ'=Sp.tr s m ntL d (.comb (σ'.word s) (σ'.at_ s) ((σ'.step s).is s [97,108,108]) nd (Sp.tr s m nt d .nil ((σ'.step s).take s [97,108,108]))) (Sp.run s m nt d ((σ'.step s).take s [97,108,108]))):=by show _=_;rw [hT.out,hs];rfl
   have h1:=rem_sees hs
   have h1b:=Sp.rem_take s [97,108,108] (σ'.step s)
   have h2:=Sp.rem_run s m nt d ((σ'.step s).take s [97,108,108])
   have HNB:Hid (σ'.isLive=true/\∀ e,σ' = .live e->Sp.tokCl s e ≠ .bad):=⟨live_sees hs,not_bad_sees hs⟩
   obtain ⟨kk',aa',wd',hbk,htk⟩:=HTr.out
   have HTK:Hid (aa'=σ'.at_ s/\wd'=bz (σ'.word s)):=⟨(htk HNB.out.1).1,(htk HNB.out.1).2 HNB.out.2⟩
   have HBr:=hbk.lt
   have HBK:=hid hbk
   clear hbk htk HTr
   go_wp2_with fail
   refine (accept_any HPr.out q k zs HWH.out HKK.out).mono ?_
   rintro r w3 ⟨rfl,hp3,hk3⟩
   rw [hs] at hp3
   have HP3:Hid (PS b c cap len s d (σ'.step s) w3):=hp3
   have HK3:=hid hk3
   have hB3:=HBK.out.kept hk3 (by omega)
   have hx:=hB3.lt
   have x1:=hB3.k1
   have x2:=hB3.k2
   have HB3:=hid hB3
   clear hp3 hk3 hB3 HBK
   rw [hs]
   have hv7:=HIr.out.cells
   unfold Value.cells at hv7
   generalize hall:(σ'.step s).is s [97,108,108]=ball at *
   generalize hσa:(σ'.step s).take s [97,108,108]=σa at *
   have HALL:Hid ((σ'.step s).is s [97,108,108]=ball/\(σ'.step s).take s [97,108,108]=σa):=⟨hall,hσa⟩
   clear hall hσa
   go_wp2_with fail
   go_region_held3 (fun w'=>w'.cell? ⟨q8,1,none⟩=some (.int .i64 (aa' : Int))/\w'.cell? ⟨q8,2,none⟩=some (.string wd')) (first | go_keep | exact ⟨y1,y2⟩ | exact ⟨z1,z2⟩) (first | (go_at_call 76;refine (accept1 HP3.out.drew [97,108,108] (by decide)).mono ?_;rintro e w4 ⟨rfl,hp4,hk4⟩;rw [HALL.out.1];rw [HALL.out.2] at hp4;have hk34:Kept b w3 w4:=((Kept.refl b w3).drew).trans hk4;have hB4:=HB3.out.kept hk34 (by omega);have hy:=hB4.lt;have y1:=hB4.k1;have y2:=hB4.k2) | (go_at_call 133;refine (IH.out m (by omega) d _ _ (by omega) (by omega) hp4).mono ?_;rintro e w5 ⟨v5,rfl,hp5,hk5,hi5,hr5⟩;have hv5:=hi5.cells;unfold Value.cells at hv5;have hB5:=hB4.kept hk5 (by omega);have hz:=hB5.lt;have z1:=hB5.k1;have z2:=hB5.k2))
   have hz45:=hk5.size
   have hz34:=hk34.size
   have hwr:=HKr.out.size
   have hwr3:=HK3.out.size
   have HP6:Hid (PS b c cap len s d (Sp.run s m nt d σa) (w5.alloc (Obj.cells #[Value.string wd',Value.int IntKind.i64 (aa' : Int),Value.bool ball,u7,v5] 282))):=hp5.alloc _
   have HKr5:Hid (Kept b wr w5):=(HK3.out.trans hk34).trans hk5
   have HK56:Hid (Kept b w5 (w5.alloc (Obj.cells #[Value.string wd',Value.int IntKind.i64 (aa' : Int),Value.bool ball,u7,v5] 282))):=(Kept.refl b w5).alloc _
   have HB6:Hid (Bk (w5.alloc (Obj.cells #[Value.string wd',Value.int IntKind.i64 (aa' : Int),Value.bool ball,u7,v5] 282)) q8 [.int .i64 kk', .int .i64 (aa' : Int), .string wd']):=hB5.alloc _
   have HI5:=hid hi5
   have hz6:(w5.alloc (Obj.cells #[Value.string wd',Value.int IntKind.i64 (aa' : Int),Value.bool ball,u7,v5] 282)).heap.size=w5.heap.size+1:=by simp
   have HR6:Hid ((Sp.run s m nt d σa).isLive=true->Rp (w5.alloc (Obj.cells #[Value.string wd',Value.int IntKind.i64 (aa' : Int),Value.bool ball,u7,v5] 282)) (.comb (σ'.word s) (σ'.at_ s) ball nd (Sp.tr s m nt d .nil σa)) w.heap.size (w5.heap.size+1) (.iface 280 (.pointer (some ⟨w5.heap.size,0,none⟩)))):=by
    intro hl
    obtain ⟨hi,g1,g2⟩:=HRr.out HNB.out.1
    obtain ⟨e1,e2⟩:=HTK.out
    subst e1 e2
    exact Rp.comb2 ((g2.keptN HIr.out.noSl HKr5.out hbw (by omega)).keptN HIr.out.noSl HK56.out hbw (by omega)) ((hr5 hl).keptN HI5.out.noSl HK56.out (by omega) (Nat.le_refl _)) HIr.out.noSl HI5.out.noSl (by omega) (Nat.le_refl _) (by omega) (Bk.new w5 _ _).at_
   generalize (w5.alloc (Obj.cells #[Value.string wd',Value.int IntKind.i64 (aa' : Int),Value.bool ball,u7,v5] 282))=w6 at *
   have HK6:Hid (Kept b w w6):=(HKr.out.trans HKr5.out).trans HK56.out
   clear x1 x2 y1 y2 z1 z2
   have x0:=HB6.out.k0
   have x1:=HB6.out.k1
   have x2:=HB6.out.k2
   have hx6:=HB6.out.lt
   clear hB4 hp4 hk4 hk34 hp5 hk5 hi5 hr5 hB5 hv5 hv7 HB3 HP3 hx hy hz
   have hz6' : w5.heap.size+1<=w6.heap.size:=by omega
   have hz6'' : w6.heap.size<=w5.heap.size+1:=by omega
   clear hz6
   go_wp2_with fail
   obtain ⟨i',wd6,hi6,tc6,P6⟩:=peek_any (HP6.out.alloc (Obj.cells #[Value.int IntKind.i64 kk',Value.int IntKind.i64 (aa' : Int),Value.string wd'] 155))
   refine P6.mono ?_
   rintro r w7 ⟨rfl,hb7⟩
   have hz7:=hb7.size
   have hz7:w6.heap.size+1<=w7.heap.size:=by simpa using hz7
   have hB7:=(Bk.new w6 #[Value.int IntKind.i64 kk',Value.int IntKind.i64 (aa' : Int),Value.string wd'] 155).below hb7
   have z0:=hB7.k0
   have z1:=hB7.k1
   have z2:=hB7.k2
   have g0:=hB7.f 0
   have g1:=hB7.f 1
   have g2:=hB7.f 2
   have HB7:=hid hB7
   have HK67:Hid (Kept b w6 w7):=((Kept.refl b w6).alloc _).trans (Kept.below hb7)
   have HP7:Hid (PS b c cap len s d (Sp.run s m nt d σa) w7):=(HP6.out.alloc _).below hb7
   have HT6:Hid (IX s len i' (Sp.run s m nt d σa)/\TC c s (w6.alloc (Obj.cells #[Value.int IntKind.i64 kk',Value.int IntKind.i64 (aa' : Int),Value.string wd'] 155)) i' wd6):=⟨hi6,tc6⟩
   clear hb7 hB7 hi6 tc6 P6 x0 x1 x2 HB6 HP6
   go_wp2_with fail
   go_roundg m
   case measure=>omega
   case rel=>
    have hw6:=HK6.out.size
    obtain ⟨ea,eb⟩:=HALL.out
    refine ⟨by omega,_,_,w6.heap.size,by omega,rfl,hw6,by show _=_;rw [HR.out,HV.out],by show _=_;rw [HRT.out,HVT.out],((HP7.out.put _ 0 (by omega) (by omega) _).put _ 1 (by omega) (by omega) _).put _ 2 (by omega) (by omega) _,(((HK6.out.trans HK67.out).setNew (by simpa using hw6) _).setNew (by simpa using hw6) _).setNew (by simpa using hw6) _,Or.inr ⟨_,_,rfl⟩,fun hl=>?_,TB.of HT6.out.1 HT6.out.2 (HB7.out.fill3 _ _ _) rfl⟩
    refine ⟨w5.heap.size+1,hz6',?_⟩
    refine ((HR6.out hl).keptN (NoSl.iface _ _) HK67.out hbw hz6').frame (by simp [World.setCell]) _ _ _ _ (fun k h1 h2=>?_) (fun _ _ _ _ e=>by cases e)
    rw [Below.heap_setCell _ _ _ _ (by simp;omega),Below.heap_setCell _ _ _ _ (by simp;omega),Below.heap_setCell _ _ _ _ (by simp;omega)]
theorem combined_factor {b c cap len:Nat} {s:Sp.Bs} {n:Nat} (nt ntL:Sp.Nt) (zs:List Sp.Bs) (hlev:Sp.lev nt<=20)
  (IH:Hid (∀ m,m<=n->Sd b c cap len s m nt IsIf 176))
  (hL:Hid (∀ m d σ,Sp.run s (m+1) ntL d σ=if seesOne s zs σ then Sp.run s m ntL d (Sp.run s m nt d ((σ.step s).take s [97,108,108])) else σ))
  (hT:Hid (∀ m d a σ,Sp.tr s (m+1) ntL d a σ=if seesOne s zs σ then Sp.tr s m ntL d (.comb (σ.word s) (σ.at_ s) ((σ.step s).is s [97,108,108]) a (Sp.tr s m nt d .nil ((σ.step s).take s [97,108,108]))) (Sp.run s m nt d ((σ.step s).take s [97,108,108])) else a))
  (d:Nat) (σ:Sp.St) (w:World) (hd:d+n<=1000000) (hm:32*Sp.rem s σ+Sp.lev nt<=n) (hn1:32*Sp.rem s σ+1<=n) (hp:PS b c cap len s d σ w) (q k:Nat) (hq:Words q (zs.map bz) w) (hqb:q≠b) (hk:k=zs.length) :
  Calls Tryz.prog 132 #[.pointer (some ⟨b,0,none⟩), .func (.func 176) #[.pointer (some ⟨b,0,none⟩)] #[], .slice (some ⟨q,0,none⟩) k k] w (PostV b c cap len s d (Sp.run s n ntL d (Sp.run s n nt d σ)) w IsIf fun w' v=>Rp w' (Sp.tr s n ntL d (Sp.tr s n nt d .nil σ) (Sp.run s n nt d σ)) w.heap.size w'.heap.size v):=by
 have hr:=Sp.rem_run s n nt d σ
 have hbw:=hp.lb
 have hcw:=hp.lc
 have HP:=hid hp
 have HQ:Hid (∀ w',Kept b w w'->Words q (zs.map bz) w'):=fun w' kk=>⟨Nat.lt_of_lt_of_le hq.1 kk.size,hq.2.1,hq.2.2.1,fun j h=>(kk.cell (p:=⟨q,j,none⟩) hq.1 hqb).trans (hq.2.2.2 j h)⟩
 have HKK:=hid hk
 clear hp hq hk
 go_enter Tryz.func132,Tryz.ntmps132
 go_wp2_with fail
 refine (IH.out n (Nat.le_refl _) d σ _ (by omega) hm HP.out).mono ?_
 rintro r w1 ⟨v1,rfl,hp1,hk1,hi1,hr1⟩
 obtain ⟨i,wd,hi,tc,P⟩:=peek_any hp1
 have HP1:=hid hp1
 have HK1:=hid hk1
 have HI1:=hid hi1
 have HR1:=hid hr1
 have HT1:Hid (IX s len i (Sp.run s n nt d σ)/\TC c s w1 i wd):=⟨hi,tc⟩
 have HPK:=hidc P
 clear hp1 hk1 hi1 hr1 hi tc P HP
 generalize hkk:kn (Sp.tokCl s (pos s i))=kk at HPK
 generalize haa:Sp.tokAt s (pos s i)=aa at HPK
 have HAA:=hid haa
 clear hkk haa
 go_wp2_with fail
 refine (HPK.out _ rfl).mono ?_
 rintro r w2 ⟨rfl,hb2⟩
 have HB2:=hid hb2
 clear hb2 HPK
 go_wp2_with fail
 have HP2:Hid (PS b c cap len s d (Sp.run s n nt d σ) (w2.alloc (.cells #[.int .i64 kk, .int .i64 aa, .string wd] 155))):=(HP1.out.below HB2.out).alloc _
 have HK2:Hid (Kept b w (w2.alloc (.cells #[.int .i64 kk, .int .i64 aa, .string wd] 155))):=(HK1.out.trans (Kept.below HB2.out)).alloc _
 have HT2:Hid (TB s (w2.alloc (.cells #[.int .i64 kk, .int .i64 aa, .string wd] 155)) w2.heap.size (Sp.run s n nt d σ)):=TB.of HT1.out.1 HT1.out.2 (Bk.new _ _ _) HAA.out
 have HR2:Hid ((Sp.run s n nt d σ).isLive=true->∃ hi,hi<=w2.heap.size/\Rp (w2.alloc (.cells #[.int .i64 kk, .int .i64 aa, .string wd] 155)) (Sp.tr s n nt d .nil σ) w.heap.size hi v1):=fun hl=>⟨w1.heap.size,HB2.out.size,((HR1.out hl).kept (Kept.below HB2.out) hbw (Nat.le_refl _) (HI1.out.noSl.sin _ _)).kept ((Kept.refl b _).alloc _) hbw HB2.out.size (HI1.out.noSl.sin _ _)⟩
 have hz2:w.heap.size<=w2.heap.size:=Nat.le_trans HK1.out.size HB2.out.size
 clear HP1 HK1 HT1 HB2 HR1 HAA
 go_loopg [7,8] n (fun gm v p wr=>gm<=n/\∃ (σ' : Sp.St) (nd:Sp.Nd) (q8:Nat),32*Sp.rem s σ'+1<=gm/\p = .pointer (some ⟨q8,0,none⟩)/\w.heap.size<=q8/\Hid (Sp.run s n ntL d (Sp.run s n nt d σ)=Sp.run s gm ntL d σ')/\Hid (Sp.tr s n ntL d (Sp.tr s n nt d .nil σ) (Sp.run s n nt d σ)=Sp.tr s gm ntL d nd σ')/\Hid (PS b c cap len s d σ' wr)/\Hid (Kept b w wr)/\Hid (IsIf v)/\Hid (σ'.isLive=true->∃ hi,hi<=q8/\Rp wr nd w.heap.size hi v)/\Hid (TB s wr q8 σ'))
 case atStart=>exact ⟨Nat.le_refl _,_,_,w2.heap.size,by omega,rfl,hz2,rfl,rfl,HP2.out,HK2.out,HI1.out,HR2.out,HT2.out⟩
 case round=>
  obtain ⟨hmn,σ',nd,q8,hms,rfl,hq8,HR,HRT,HPr,HKr,HIr,HRr,HTr⟩:=hrel
  obtain ⟨m,rfl⟩:∃ m,gk=m+1:=⟨gk - 1,by omega⟩
  have HW:=HQ.out _ HKr.out
  have HWH:=hid HW
  clear HW
  cases hs:seesOne s zs σ'
  ·have HV:Hid (Sp.run s (m+1) ntL d σ'=σ'):=by show _=_;rw [hL.out,hs];rfl
   have HVT:Hid (Sp.tr s (m+1) ntL d nd σ'=nd):=by show _=_;rw [hT.out,hs];rfl
   go_wp2_with fail
   refine (accept_any HPr.out q k zs HWH.out HKK.out).mono ?_
   rintro r w3 ⟨rfl,hp3,hk3⟩
   rw [hs] at hp3
   have HP3:Hid (PS b c cap len s d σ' w3):=hp3
   have HK3:=hid hk3
   clear hp3 hk3
   rw [hs]
   go_wp2_with fail
   go_ret
   refine ⟨_,rfl,by rw [HR.out,HV.out];exact HP3.out,HKr.out.trans HK3.out,HIr.out,fun hl=>?_⟩
   rw [HRT.out,HVT.out]
   rw [HR.out,HV.out] at hl
   obtain ⟨hi,h1,h2⟩:=HRr.out hl
   have hq:=HTr.out.lt
   exact (h2.kept HK3.out hbw (by omega) (HIr.out.noSl.sin _ _)).wide _ _ _ _ _ _ (Nat.le_refl _) (by have:=HK3.out.size;omega)
  ·have HV:Hid (Sp.run s (m+1) ntL d σ'=Sp.run s m ntL d (Sp.run s m nt d ((σ'.step s).take s [97,108,108]))):=by show _=_;rw [hL.out,hs];rfl
   have HVT:Hid (Sp.tr s (m+1) ntL d nd σ'=Sp.tr s m ntL d (.comb (σ'.word s) (σ'.at_ s) ((σ'.step s).is s [97,108,108]) nd (Sp.tr s m nt d .nil ((σ'.step s).take s [97,108,108]))) (Sp.run s m nt d ((σ'.step s).take s [97,108,108]))):=by show _=_;rw [hT.out,hs];rfl
   have h1:=rem_sees hs
   have h1b:=Sp.rem_take s [97,108,108] (σ'.step s)
   have h2:=Sp.rem_run s m nt d ((σ'.step s).take s [97,108,108])
   have HNB:Hid (σ'.isLive=true/\∀ e,σ' = .live e->Sp.tokCl s e ≠ .bad):=⟨live_sees hs,not_bad_sees hs⟩
   obtain ⟨kk',aa',wd',hbk,htk⟩:=HTr.out
   have HTK:Hid (aa'=σ'.at_ s/\wd'=bz (σ'.word s)):=⟨(htk HNB.out.1).1,(htk HNB.out.1).2 HNB.out.2⟩
   have HBr:=hbk.lt
   have HBK:=hid hbk
   clear hbk htk HTr
   go_wp2_with fail
   refine (accept_any HPr.out q k zs HWH.out HKK.out).mono ?_
   rintro r w3 ⟨rfl,hp3,hk3⟩
   rw [hs] at hp3
   have HP3:Hid (PS b c cap len s d (σ'.step s) w3):=hp3
   have HK3:=hid hk3
   have hB3:=HBK.out.kept hk3 (by omega)
   have hx:=hB3.lt
   have x1:=hB3.k1
   have x2:=hB3.k2
   have HB3:=hid hB3
   clear hp3 hk3 hB3 HBK
   rw [hs]
   have hv7:=HIr.out.cells
   unfold Value.cells at hv7
   generalize hall:(σ'.step s).is s [97,108,108]=ball at *
   generalize hσa:(σ'.step s).take s [97,108,108]=σa at *
   have HALL:Hid ((σ'.step s).is s [97,108,108]=ball/\(σ'.step s).take s [97,108,108]=σa):=⟨hall,hσa⟩
   clear hall hσa
   go_wp2_with fail
   go_region_held3 (fun w'=>w'.cell? ⟨q8,1,none⟩=some (.int .i64 (aa' : Int))/\w'.cell? ⟨q8,2,none⟩=some (.string wd')) (first | go_keep | exact ⟨y1,y2⟩ | exact ⟨z1,z2⟩) (first | (go_at_call 76;refine (accept1 HP3.out.drew [97,108,108] (by decide)).mono ?_;rintro e w4 ⟨rfl,hp4,hk4⟩;rw [HALL.out.1];rw [HALL.out.2] at hp4;have hk34:Kept b w3 w4:=((Kept.refl b w3).drew).trans hk4;have hB4:=HB3.out.kept hk34 (by omega);have hy:=hB4.lt;have y1:=hB4.k1;have y2:=hB4.k2) | (go_at_call 176;refine (IH.out m (by omega) d _ _ (by omega) (by omega) hp4).mono ?_;rintro e w5 ⟨v5,rfl,hp5,hk5,hi5,hr5⟩;have hv5:=hi5.cells;unfold Value.cells at hv5;have hB5:=hB4.kept hk5 (by omega);have hz:=hB5.lt;have z1:=hB5.k1;have z2:=hB5.k2))
   have hz45:=hk5.size
   have hz34:=hk34.size
   have hwr:=HKr.out.size
   have hwr3:=HK3.out.size
   have HP6:Hid (PS b c cap len s d (Sp.run s m nt d σa) (w5.alloc (Obj.cells #[Value.string wd',Value.int IntKind.i64 (aa' : Int),Value.bool ball,u7,v5] 282))):=hp5.alloc _
   have HKr5:Hid (Kept b wr w5):=(HK3.out.trans hk34).trans hk5
   have HK56:Hid (Kept b w5 (w5.alloc (Obj.cells #[Value.string wd',Value.int IntKind.i64 (aa' : Int),Value.bool ball,u7,v5] 282))):=(Kept.refl b w5).alloc _
   have HB6:Hid (Bk (w5.alloc (Obj.cells #[Value.string wd',Value.int IntKind.i64 (aa' : Int),Value.bool ball,u7,v5] 282)) q8 [.int .i64 kk', .int .i64 (aa' : Int), .string wd']):=hB5.alloc _
   have HI5:=hid hi5
   have hz6:(w5.alloc (Obj.cells #[Value.string wd',Value.int IntKind.i64 (aa' : Int),Value.bool ball,u7,v5] 282)).heap.size=w5.heap.size+1:=by simp
   have HR6:Hid ((Sp.run s m nt d σa).isLive=true->Rp (w5.alloc (Obj.cells #[Value.string wd',Value.int IntKind.i64 (aa' : Int),Value.bool ball,u7,v5] 282)) (.comb (σ'.word s) (σ'.at_ s) ball nd (Sp.tr s m nt d .nil σa)) w.heap.size (w5.heap.size+1) (.iface 280 (.pointer (some ⟨w5.heap.size,0,none⟩)))):=by
    intro hl
    obtain ⟨hi,g1,g2⟩:=HRr.out HNB.out.1
    obtain ⟨e1,e2⟩:=HTK.out
    subst e1 e2
    exact Rp.comb2 ((g2.keptN HIr.out.noSl HKr5.out hbw (by omega)).keptN HIr.out.noSl HK56.out hbw (by omega)) ((hr5 hl).keptN HI5.out.noSl HK56.out (by omega) (Nat.le_refl _)) HIr.out.noSl HI5.out.noSl (by omega) (Nat.le_refl _) (by omega) (Bk.new w5 _ _).at_
   generalize (w5.alloc (Obj.cells #[Value.string wd',Value.int IntKind.i64 (aa' : Int),Value.bool ball,u7,v5] 282))=w6 at *
   have HK6:Hid (Kept b w w6):=(HKr.out.trans HKr5.out).trans HK56.out
   clear x1 x2 y1 y2 z1 z2
   have x0:=HB6.out.k0
   have x1:=HB6.out.k1
   have x2:=HB6.out.k2
   have hx6:=HB6.out.lt
   clear hB4 hp4 hk4 hk34 hp5 hk5 hi5 hr5 hB5 hv5 hv7 HB3 HP3 hx hy hz
   have hz6' : w5.heap.size+1<=w6.heap.size:=by omega
   have hz6'' : w6.heap.size<=w5.heap.size+1:=by omega
   clear hz6
   go_wp2_with fail
   obtain ⟨i',wd6,hi6,tc6,P6⟩:=peek_any (HP6.out.alloc (Obj.cells #[Value.int IntKind.i64 kk',Value.int IntKind.i64 (aa' : Int),Value.string wd'] 155))
   refine P6.mono ?_
   rintro r w7 ⟨rfl,hb7⟩
   have hz7:=hb7.size
   have hz7:w6.heap.size+1<=w7.heap.size:=by simpa using hz7
   have hB7:=(Bk.new w6 #[Value.int IntKind.i64 kk',Value.int IntKind.i64 (aa' : Int),Value.string wd'] 155).below hb7
   have z0:=hB7.k0
   have z1:=hB7.k1
   have z2:=hB7.k2
   have g0:=hB7.f 0
   have g1:=hB7.f 1
   have g2:=hB7.f 2
   have HB7:=hid hB7
   have HK67:Hid (Kept b w6 w7):=((Kept.refl b w6).alloc _).trans (Kept.below hb7)
   have HP7:Hid (PS b c cap len s d (Sp.run s m nt d σa) w7):=(HP6.out.alloc _).below hb7
   have HT6:Hid (IX s len i' (Sp.run s m nt d σa)/\TC c s (w6.alloc (Obj.cells #[Value.int IntKind.i64 kk',Value.int IntKind.i64 (aa' : Int),Value.string wd'] 155)) i' wd6):=⟨hi6,tc6⟩
   clear hb7 hB7 hi6 tc6 P6 x0 x1 x2 HB6 HP6
   go_wp2_with fail
   go_roundg m
   case measure=>omega
   case rel=>
    have hw6:=HK6.out.size
    obtain ⟨ea,eb⟩:=HALL.out
    refine ⟨by omega,_,_,w6.heap.size,by omega,rfl,hw6,by show _=_;rw [HR.out,HV.out],by show _=_;rw [HRT.out,HVT.out],((HP7.out.put _ 0 (by omega) (by omega) _).put _ 1 (by omega) (by omega) _).put _ 2 (by omega) (by omega) _,(((HK6.out.trans HK67.out).setNew (by simpa using hw6) _).setNew (by simpa using hw6) _).setNew (by simpa using hw6) _,Or.inr ⟨_,_,rfl⟩,fun hl=>?_,TB.of HT6.out.1 HT6.out.2 (HB7.out.fill3 _ _ _) rfl⟩
    refine ⟨w5.heap.size+1,hz6',?_⟩
    refine ((HR6.out hl).keptN (NoSl.iface _ _) HK67.out hbw hz6').frame (by simp [World.setCell]) _ _ _ _ (fun k h1 h2=>?_) (fun _ _ _ _ e=>by cases e)
    rw [Below.heap_setCell _ _ _ _ (by simp;omega),Below.heap_setCell _ _ _ _ (by simp;omega),Below.heap_setCell _ _ _ _ (by simp;omega)]
end Go.Proofs.YtgnncnhkgmhngaaGreatDoor
namespace Go.Proofs.YtgnncnhkgmhngaaGreatDoor
open Go.RowKit
theorem query_step {b c cap len:Nat} {s:Sp.Bs} {n:Nat} (IH:Hid (∀ m,m<=n->All b c cap len s m)):Sd b c cap len s (n+1) .query IsIf 83:=by
 intro d σ w hd hm hp
 have hbw:=hp.lb
 have hm' : 32*Sp.rem s σ+Sp.lev .query<=n+1:=hm
 have hm1:32*Sp.rem s σ+Sp.lev .term<=n:=by simp only [Sp.lev] at hm' ⊢;omega
 have hm2:32*Sp.rem s σ+1<=n:=by simp only [Sp.lev] at hm';omega
 clear hm hm'
 have C:∀ w0,w0=w.alloc (.cells #[.string ⟨#[117,110,105,111,110]⟩, .string ⟨#[101,120,99,101,112,116]⟩] 9)->Calls Tryz.prog 132 #[.pointer (some ⟨b,0,none⟩), .func (.func 133) #[.pointer (some ⟨b,0,none⟩)] #[], .slice (some ⟨w.heap.size,0,none⟩) 2 2] w0 (PostV b c cap len s d (Sp.run s n .queryL d (Sp.run s n .term d σ)) w0 IsIf fun w' v=>Rp w' (Sp.tr s n .queryL d (Sp.tr s n .term d .nil σ) (Sp.run s n .term d σ)) w0.heap.size w'.heap.size v):=by
  intro w0 e
  subst e
  refine combined_term .term .queryL [[117,110,105,111,110], [101,120,99,101,112,116]] (by decide) (fun m hm=>(IH.out m hm).term) ?_ ?_ d σ _ (by omega) hm1 hm2 (hp.alloc _) w.heap.size 2 (words_lit rfl (by decide) (by decide)) (by omega) rfl
  ·intro m d σ;rw [Sp.run,two_is]
  ·intro m d a σ;rw [Sp.tr,two_is]
 have HC:=hid C
 clear C hp
 have hmf:=mkFn
 go_enter Tryz.func83,Tryz.ntmps83
 go_wp2_with fail
 refine (HC.out _ rfl).mono ?_
 rintro r w1 ⟨v1,rfl,hp1,hk1,hi1,hr1⟩
 have HP1:=hid hp1
 have HK1:Hid (Kept b w w1):=((Kept.refl b w).alloc _).trans hk1
 have HI1:=hid hi1
 have HR1:Hid ((Sp.run s (n+1) .query d σ).isLive=true->Rp w1 (Sp.tr s (n+1) .query d .nil σ) w.heap.size w1.heap.size v1):=fun hl=>Rp.wide _ _ _ _ _ _ (hr1 hl) (by simp) (Nat.le_refl _)
 clear hp1 hk1 hi1 hr1
 go_wp2_with fail
 go_ret
 exact ⟨_,rfl,HP1.out,HK1.out,HI1.out,HR1.out⟩
theorem term_step {b c cap len:Nat} {s:Sp.Bs} {n:Nat} (IH:Hid (∀ m,m<=n->All b c cap len s m)):Sd b c cap len s (n+1) .term IsIf 133:=by
 intro d σ w hd hm hp
 have hbw:=hp.lb
 have hm' : 32*Sp.rem s σ+Sp.lev .term<=n+1:=hm
 have hm1:32*Sp.rem s σ+Sp.lev .factor<=n:=by simp only [Sp.lev] at hm' ⊢;omega
 have hm2:32*Sp.rem s σ+1<=n:=by simp only [Sp.lev] at hm';omega
 clear hm hm'
 have C:∀ w0,w0=w.alloc (.cells #[.string ⟨#[105,110,116,101,114,115,101,99,116]⟩] 9)->Calls Tryz.prog 132 #[.pointer (some ⟨b,0,none⟩), .func (.func 176) #[.pointer (some ⟨b,0,none⟩)] #[], .slice (some ⟨w.heap.size,0,none⟩) 1 1] w0 (PostV b c cap len s d (Sp.run s n .termL d (Sp.run s n .factor d σ)) w0 IsIf fun w' v=>Rp w' (Sp.tr s n .termL d (Sp.tr s n .factor d .nil σ) (Sp.run s n .factor d σ)) w0.heap.size w'.heap.size v):=by
  intro w0 e
  subst e
  refine combined_factor .factor .termL [[105,110,116,101,114,115,101,99,116]] (by decide) (fun m hm=>(IH.out m hm).factor) ?_ ?_ d σ _ (by omega) hm1 hm2 (hp.alloc _) w.heap.size 1 (words_lit rfl (by decide) (by decide)) (by omega) rfl
  ·intro m d σ;rw [Sp.run,one_is]
  ·intro m d a σ;rw [Sp.tr,one_is]
 have HC:=hid C
 clear C hp
 have hmf:=mkFn
 go_enter Tryz.func133,Tryz.ntmps133
 go_wp2_with fail
 refine (HC.out _ rfl).mono ?_
 rintro r w1 ⟨v1,rfl,hp1,hk1,hi1,hr1⟩
 have HP1:=hid hp1
 have HK1:Hid (Kept b w w1):=((Kept.refl b w).alloc _).trans hk1
 have HI1:=hid hi1
 have HR1:Hid ((Sp.run s (n+1) .term d σ).isLive=true->Rp w1 (Sp.tr s (n+1) .term d .nil σ) w.heap.size w1.heap.size v1):=fun hl=>Rp.wide _ _ _ _ _ _ (hr1 hl) (by simp) (Nat.le_refl _)
 clear hp1 hk1 hi1 hr1
 go_wp2_with fail
 go_ret
 exact ⟨_,rfl,HP1.out,HK1.out,HI1.out,HR1.out⟩
theorem all_zero (b c cap len:Nat) (s:Sp.Bs):All b c cap len s 0:=by
 constructor <;> (intro d σ w hd hm hp;exact absurd hm (by simp [Sp.lev]))
theorem all_parts (b c cap len:Nat) (s:Sp.Bs) (hsl:s.length<=100000):∀ n m,m<=n->All b c cap len s m
 | 0,m,h=>by
  obtain rfl:m=0:=by omega
  exact all_zero b c cap len s
 | n+1,m,h=>by
  have IH:Hid (∀ m,m<=n->All b c cap len s m):=fun m h=>all_parts b c cap len s hsl n m h
  by_cases e:m=n+1
  ·subst e
   exact ⟨expr_step IH,both_step IH,no_step IH,compare_step IH,sum_step IH,product_step IH,unary_step IH,atom_step hsl IH,exprs_step IH,query_step IH,term_step IH,factor_step IH⟩
  ·exact IH.out m (by omega)
end Go.Proofs.YtgnncnhkgmhngaaGreatDoor
