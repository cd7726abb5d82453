import Derived.Test.YtgnncnhkgmhngaaGreatDoorJ15
import Derived.Test.YtgnncnhkgmhngaaGreatDoorJ10
import Derived.ArgAppend
set_option maxHeartbeats 8000000
namespace Go.Proofs.YtgnncnhkgmhngaaGreatDoor
open Go.RowKit
theorem isCmp_eq (s:Sp.Bs) (σ:Sp.St):seesOne s [[61], [60,62], [60], [60,61], [62], [62,61]] σ=σ.isCmp s:=by
 simp [seesOne,Sp.St.isCmp,Bool.or_assoc]
theorem accept6q {b c cap len:Nat} {s:Sp.Bs} {d:Nat} {σ:Sp.St} {w:World} (h:PS b c cap len s d σ w) (q:Nat) (hq:q=w.heap.size) :
  Calls Tryz.prog 76 #[.pointer (some ⟨b,0,none⟩), .slice (some ⟨q,0,none⟩) 6 6] (w.alloc (.cells #[.string ⟨#[61]⟩, .string ⟨#[60,62]⟩, .string ⟨#[60]⟩, .string ⟨#[60,61]⟩, .string ⟨#[62]⟩, .string ⟨#[62,61]⟩] 9)) fun r w'=>r = .returned (.bool (σ.isCmp s))/\PS b c cap len s d (stepIf (σ.isCmp s) s σ) w'/\Kept b w w':=by
 subst hq
 have:=accept_lit h [[61], [60,62], [60], [60,61], [62], [62,61]] (by decide) (by decide) 6 rfl #[.string ⟨#[61]⟩, .string ⟨#[60,62]⟩, .string ⟨#[60]⟩, .string ⟨#[60,61]⟩, .string ⟨#[62]⟩, .string ⟨#[62,61]⟩] rfl
 rw [isCmp_eq] at this
 exact this
theorem rem_cmp {s:Sp.Bs} {σ:Sp.St} (h:σ.isCmp s=true):Sp.rem s (σ.step s)<Sp.rem s σ:=by
 rw [<- isCmp_eq] at h
 exact rem_sees h
theorem compare_any {b c cap len:Nat} {s:Sp.Bs} {n d:Nat} {σ:Sp.St} {w:World} (IH:Hid (∀ m,m<=n->All b c cap len s m)) (hd:d+(n+1)<=1000000) (hm:32*Sp.rem s σ+6<=n+1) (hp:PS b c cap len s d σ w) :
  Calls Tryz.prog 283 #[.pointer (some ⟨b,0,none⟩)] w (PostV b c cap len s d (Sp.run s (n+1) .compare d σ) w IsIf fun w' v=>Rp w' (Sp.tr s (n+1) .compare d .nil σ) w.heap.size w'.heap.size v):=by
 have hbw:=hp.lb
 have hcw:=hp.lc
 have hr:=Sp.rem_run s n .sum d σ
 have HPA:=hid hp
 clear hp
 go_enter Tryz.func283,Tryz.ntmps283
 go_wp2_with fail
 refine ((IH.out n (Nat.le_refl _)).sum d σ _ (by omega) (by show 32*Sp.rem s σ+5<=n;omega) HPA.out).mono ?_
 rintro r w1 ⟨v1,rfl,hp1,hk1,hi1,hr1⟩
 obtain ⟨i,wd,hi,tc,PK⟩:=peek_any hp1
 have HTK:Hid ((Sp.run s n .sum d σ).isLive=true->Sp.tokAt s (pos s i)=(Sp.run s n .sum d σ).at_ s/\((∀ e,(Sp.run s n .sum d σ) = .live e->Sp.tokCl s e ≠ .bad)->wd=bz ((Sp.run s n .sum d σ).word s))):=fun hl=>tok_live hi tc hl
 have HP1:=hid hp1
 have HK1:=hid hk1
 have HI1:=hid hi1
 have HR1:=hid hr1
 have HPK:=hidc PK
 clear hp1 hk1 hi1 hr1 hi tc PK HPA
 generalize kn (Sp.tokCl s (pos s i))=kk at HPK
 generalize Sp.tokAt s (pos s i)=aa at *
 generalize hσ:Sp.run s n .sum d σ=σ1 at *
 have hv1:=HI1.out.cells
 unfold Value.cells at hv1
 go_wp2_with fail
 refine (HPK.out _ rfl).mono ?_
 rintro r w2 ⟨rfl,hb2⟩
 have HB2:=hid hb2
 clear hb2 HPK
 have HP3:Hid (PS b c cap len s d σ1 (w2.alloc (.cells #[.int .i64 kk, .int .i64 (aa:Int), .string wd] 155))):=(HP1.out.below HB2.out).alloc _
 have HK3:Hid (Kept b w1 (w2.alloc (.cells #[.int .i64 kk, .int .i64 (aa:Int), .string wd] 155))):=(Kept.below HB2.out).alloc _
 have HX3:Hid (Bk (w2.alloc (.cells #[.int .i64 kk, .int .i64 (aa:Int), .string wd] 155)) w2.heap.size [.int .i64 kk, .int .i64 (aa:Int), .string wd]):=Bk.new _ _ _
 have hz2:w1.heap.size<=w2.heap.size:=HB2.out.size
 have hz1:w.heap.size<=w1.heap.size:=HK1.out.size
 clear HB2 HP1
 go_wp2_with fail
 refine (accept6q HP3.out _ (by simp)).mono ?_
 rintro r w4 ⟨rfl,hp,hk⟩
 cases h6:σ1.isCmp s
 ·rw [h6] at hp
  have HP4:Hid (PS b c cap len s d σ1 w4):=hp
  have HK4:=hid (HK3.out.trans hk)
  have HX4:Hid (Bk w4 w2.heap.size [.int .i64 kk, .int .i64 (aa:Int), .string wd]):=HX3.out.kept hk (by omega)
  clear hp hk HP3 HK3 HX3
  go_wp2_with fail
  refine (accept1 HP4.out [105,115] (by decide)).mono ?_
  rintro r w5 ⟨rfl,hp,hk⟩
  cases his:σ1.is s [105,115]
  ·rw [take_no his] at hp
   have HP5:=hid hp
   have HK5:=hid (HK4.out.trans hk)
   have HX5:Hid (Bk w5 w2.heap.size [.int .i64 kk, .int .i64 (aa:Int), .string wd]):=HX4.out.kept hk (by omega)
   clear hp hk HP4 HK4 HX4
   go_wp2_with fail
   refine (accept1 HP5.out [110,111,116] (by decide)).mono ?_
   rintro r w6 ⟨rfl,hp,hk⟩
   cases hnot:σ1.is s [110,111,116]
   ·rw [take_no hnot] at hp
    have HP6:=hid hp
    have HK6:=hid (HK5.out.trans hk)
    have HX6:Hid (Bk w6 w2.heap.size [.int .i64 kk, .int .i64 (aa:Int), .string wd]):=HX5.out.kept hk (by omega)
    clear hp hk HP5 HK5 HX5
    go_wp2_with fail
    refine (accept1 HP6.out [105,110] (by decide)).mono ?_
    rintro r w7 ⟨rfl,hp,hk⟩
    cases hin:σ1.is s [105,110]
    ·rw [take_no hin] at hp
     have HV:Hid (Sp.run s (n+1) .compare d σ=σ1):=by show _=_;rw [Sp.run];simp only [hσ,h6,his,hnot,hin,if_false,Bool.false_eq_true]
     have HVT:Hid (Sp.tr s (n+1) .compare d .nil σ=(Sp.tr s n .sum d .nil σ)):=by show _=_;rw [Sp.tr];simp only [hσ,h6,his,hnot,hin,if_false,Bool.false_eq_true]
     have HP7:=hid hp
     have HK7:=hid (HK6.out.trans hk)
     have HX7:Hid (Bk w7 w2.heap.size [.int .i64 kk, .int .i64 (aa:Int), .string wd]):=HX6.out.kept hk (by omega)
     clear hp hk HP6 HK6 HX6
     go_wp2_with fail
     go_ret
     refine ⟨_,rfl,by rw [HV.out];exact HP7.out,HK1.out.trans HK7.out,HI1.out,fun hl=>?_⟩
     rw [HV.out] at hl
     rw [HVT.out]
     exact Rp.wide _ _ _ _ _ _ ((HR1.out hl).keptN HI1.out.noSl HK7.out hbw (Nat.le_refl _)) (Nat.le_refl _) HK7.out.size
    ·rw [take_yes hin] at hp
     have h1:=Sp.rem_step_lt hin
     have h3:=Sp.rem_opened s [40] d (Sp.St.step s σ1)
     have HNB:Hid (σ1.isLive=true/\∀ e,σ1 = .live e->Sp.tokCl s e ≠ .bad):=⟨Sp.live_is hin,not_bad_is hin⟩
     have HV:Hid (Sp.run s (n+1) .compare d σ=Sp.St.must s [41] (Sp.run s n .query (d+1) (Sp.St.opened s [40] d (Sp.St.step s σ1)))):=by show _=_;rw [Sp.run];simp only [hσ,h6,his,hnot,hin,if_true,if_false,Bool.false_eq_true]
     have HVT:Hid (Sp.tr s (n+1) .compare d .nil σ=Sp.Nd.within (Sp.St.word s σ1) (Sp.St.at_ s σ1) (.cons (Sp.tr s n .sum d .nil σ) .nil) (Sp.tr s n .query (d+1) .nil (Sp.St.opened s [40] d (Sp.St.step s σ1)))):=by show _=_;rw [Sp.tr];simp only [hσ,h6,his,hnot,hin,if_true,if_false,Bool.false_eq_true]
     have HP7:=hid hp
     have HK7:=hid (HK6.out.trans hk)
     have HX7:Hid (Bk w7 w2.heap.size [.int .i64 kk, .int .i64 (aa:Int), .string wd]):=HX6.out.kept hk (by omega)
     clear hp hk HP6 HK6 HX6
     have hx:=HX7.out.lt
     have x0:=HX7.out.k0
     have x1:=HX7.out.k1
     have x2:=HX7.out.k2
     have HT:Hid (aa=σ1.at_ s/\wd=bz (σ1.word s)):=⟨(HTK.out HNB.out.1).1,(HTK.out HNB.out.1).2 HNB.out.2⟩
     have hz7:=HK7.out.size
     go_wp2_with fail
     refine (within_any (HP7.out.alloc _) (by omega) _ _ _ _ _ _ (Sp.run s n .query (d+1) (Sp.St.opened s [40] d (σ1.step s))) (Sp.tr s n .query (d+1) .nil (Sp.St.opened s [40] d (σ1.step s))) (fun w' hp'=>((IH.out n (Nat.le_refl _)).query (d+1) _ _ (by omega) (by show 32*Sp.rem s _+15<=n;omega) hp').mono fun _ _ h=>h.rq)).mono ?_
     rintro r w8 ⟨qv,bb,rfl,hp8,hk8,ha8,hi8,hb8,hr8⟩
     have HP8:=hid hp8
     have HK78:=hid hk8
     have HA8:=hid ha8
     have HI8:=hid hi8
     have HB8:w7.heap.size+1<=bb:=by simpa using hb8
     have HR8:=hid hr8
     clear hp8 hk8 ha8 hi8 hb8 hr8 x0 x1 x2 hv1
     go_wp2_with fail
     go_ret
     refine ⟨_,rfl,by rw [HV.out];exact HP8.out,HK1.out.trans ((HK7.out.alloc _).trans HK78.out),Or.inr ⟨_,_,rfl⟩,fun hl=>?_⟩
     rw [HV.out] at hl
     rw [HVT.out]
     obtain ⟨e1,e2⟩:=HT.out
     subst e1 e2
     have r8:=HR8.out hl
     have k7:Kept b w7 w8:=((Kept.refl b w7).alloc _).trans HK78.out
     exact Rp.within1 (((HR1.out HNB.out.1).keptN HI1.out.noSl HK7.out hbw (Nat.le_refl _)).keptN HI1.out.noSl k7 hbw (by omega)) HI1.out.noSl r8 HI8.out.noSl (Nat.le_refl _) (by omega) (by simp) HA8.out.1 (((Bk.new w7 _ _).kept HK78.out (by omega)).at_) HA8.out
   ·rw [take_yes hnot] at hp
    have h1:=Sp.rem_step_lt hnot
    have h2:=Sp.rem_must s [105,110] (Sp.St.step s σ1)
    have h3:=Sp.rem_opened s [40] d (Sp.St.must s [105,110] (Sp.St.step s σ1))
    have HNB:Hid (σ1.isLive=true/\∀ e,σ1 = .live e->Sp.tokCl s e ≠ .bad):=⟨Sp.live_is hnot,not_bad_is hnot⟩
    have HV:Hid (Sp.run s (n+1) .compare d σ=Sp.St.must s [41] (Sp.run s n .query (d+1) (Sp.St.opened s [40] d (Sp.St.must s [105,110] (Sp.St.step s σ1))))):=by show _=_;rw [Sp.run];simp only [hσ,h6,his,hnot,if_true,if_false,Bool.false_eq_true]
    have HVT:Hid (Sp.tr s (n+1) .compare d .nil σ=Sp.Nd.op (Sp.St.word s σ1) (Sp.St.at_ s σ1) (.cons (.within (Sp.St.word s (Sp.St.step s σ1)) (Sp.St.at_ s (Sp.St.step s σ1)) (.cons (Sp.tr s n .sum d .nil σ) .nil) (Sp.tr s n .query (d+1) .nil (Sp.St.opened s [40] d (Sp.St.must s [105,110] (Sp.St.step s σ1))))) .nil)):=by show _=_;rw [Sp.tr];simp only [hσ,h6,his,hnot,if_true,if_false,Bool.false_eq_true]
    have HP6:=hid hp
    have HK6:=hid (HK5.out.trans hk)
    have HX6:Hid (Bk w6 w2.heap.size [.int .i64 kk, .int .i64 (aa:Int), .string wd]):=HX5.out.kept hk (by omega)
    clear hp hk HP5 HK5 HX5
    have HT:Hid (aa=σ1.at_ s/\wd=bz (σ1.word s)):=⟨(HTK.out HNB.out.1).1,(HTK.out HNB.out.1).2 HNB.out.2⟩
    obtain ⟨i2,wd2,hi2,tc2,PK2⟩:=peek_any HP6.out
    have HTK2:Hid (((σ1.step s).must s [105,110]).isLive=true->Sp.tokAt s (pos s i2)=(σ1.step s).at_ s/\wd2=bz ((σ1.step s).word s)):=fun hl=>by
     have hl':=Sp.live_must hl
     have hi:(σ1.step s).is s [105,110]=true:=by
      cases hx:(σ1.step s).is s [105,110]
      ·rw [Sp.St.must,hx] at hl;exact (Sp.live_fail hl).elim
      ·rfl
     have:=tok_live hi2 tc2 hl'
     exact ⟨this.1,this.2 (not_bad_is hi)⟩
    have HPK2:=hidc PK2
    clear hi2 tc2 PK2
    generalize kn (Sp.tokCl s (pos s i2))=kk2 at HPK2
    generalize Sp.tokAt s (pos s i2)=aa2 at *
    go_wp2_with fail
    refine (HPK2.out _ rfl).mono ?_
    rintro r w7 ⟨rfl,hb7⟩
    have hz7:=hb7.size
    have HP8:Hid (PS b c cap len s d (σ1.step s) (w7.alloc (.cells #[.int .i64 kk2, .int .i64 (aa2:Int), .string wd2] 155))):=(HP6.out.below hb7).alloc _
    have HK8:Hid (Kept b w6 (w7.alloc (.cells #[.int .i64 kk2, .int .i64 (aa2:Int), .string wd2] 155))):=(Kept.below hb7).alloc _
    have HY8:Hid (Bk (w7.alloc (.cells #[.int .i64 kk2, .int .i64 (aa2:Int), .string wd2] 155)) w7.heap.size [.int .i64 kk2, .int .i64 (aa2:Int), .string wd2]):=Bk.new _ _ _
    clear hb7 HPK2
    have hz6:=HK6.out.size
    have hx6:=HX6.out.lt
    go_wp2_with fail
    refine (expectq HP8.out [105,110] (by decide) _ (by simp)).mono ?_
    rintro r w9 ⟨rfl,hp9,hk9⟩
    have HP9:=hid hp9
    have HK9:Hid (Kept b w1 w9):=HK6.out.trans (HK8.out.trans hk9)
    have HX9:Hid (Bk w9 w2.heap.size [.int .i64 kk, .int .i64 (aa:Int), .string wd]):=HX6.out.kept (HK8.out.trans hk9) (by omega)
    have HY9:Hid (Bk w9 w7.heap.size [.int .i64 kk2, .int .i64 (aa2:Int), .string wd2]):=HY8.out.kept hk9 (by omega)
    clear hp9 hk9 HP8 HK8 HY8 HX6
    have hx:=HX9.out.lt
    have x0:=HX9.out.k0
    have x1:=HX9.out.k1
    have x2:=HX9.out.k2
    have hy:=HY9.out.lt
    have y0:=HY9.out.k0
    have y1:=HY9.out.k1
    have y2:=HY9.out.k2
    have hz9:=HK9.out.size
    go_wp2_with fail
    go_region_with (first | (go_at_call 311;refine (within_any (HP9.out.alloc _).drew (by omega) _ _ _ _ _ _ (Sp.run s n .query (d+1) (Sp.St.opened s [40] d ((σ1.step s).must s [105,110]))) (Sp.tr s n .query (d+1) .nil (Sp.St.opened s [40] d ((σ1.step s).must s [105,110]))) (fun w' hp'=>((IH.out n (Nat.le_refl _)).query (d+1) _ _ (by omega) (by show 32*Sp.rem s _+15<=n;omega) hp').mono fun _ _ h=>h.rq)).mono ?_;rintro r w10 ⟨qv,bb,rfl,hp10,hk10,ha10,hi10,hb10,hr10⟩;have hX10:=(HX9.out.alloc (.cells #[v1] 242)).kept (((Kept.refl b _).drew).trans hk10) (by omega);have hu:=hX10.lt;have u0:=hX10.k0;have u1:=hX10.k1;have u2:=hX10.k2) | (go_at_call 252;refine (operation_any _ _ _ _ _ _ _).mono ?_;rintro e w11 ⟨rfl,rfl⟩))
    all_goals
     have HK10:Hid (Kept b (w9.alloc (.cells #[v1] 242)) w10):=((Kept.refl b _).drew).trans hk10
     have HP10:=hid hp10
     have HA10:Hid (At w10 bb [.string wd2, .int .i64 (aa2:Int), .slice (some ⟨w9.heap.size,0,none⟩) 1 1,qv]):=ha10
     have HI10:=hid hi10
     have HB10:w9.heap.size+1<=bb:=by have e:(w9.alloc (.cells #[v1] 242)).drew.heap.size=(w9.alloc (.cells #[v1] 242)).heap.size:=rfl;rw [e] at hb10;simpa using hb10
     have HR10:Hid (_->Rp w10 _ (w9.alloc (.cells #[v1] 242)).heap.size bb qv):=hr10
     clear hp10 hk10 ha10 hi10 hb10 hr10 x0 x1 x2 y0 y1 y2 hv1 hX10 u0 u1 u2
     go_wp2_with fail
     go_ret
     refine ⟨_,rfl,by rw [HV.out];exact ((HP10.out.alloc _).alloc _).alloc _,HK1.out.trans (((((HK9.out.alloc _).trans HK10.out).alloc _).alloc _).alloc _),Or.inr ⟨_,_,rfl⟩,fun hl=>?_⟩
     rw [HV.out] at hl
     rw [HVT.out]
     have hl2:=Sp.live_opened (Sp.live_run (Sp.live_must hl))
     obtain ⟨e1,e2⟩:=HT.out
     subst e1 e2
     obtain ⟨e3,e4⟩:=HTK2.out hl2
     subst e3 e4
     have r10:=HR10.out hl
     have k9:Kept b w9 w10:=((Kept.refl b w9).alloc _).trans HK10.out
     have hz10:=k9.size
     have hK:∀ x y z:Obj,Kept b w10 (((w10.alloc x).alloc y).alloc z):=fun x y z=>(((Kept.refl b w10).alloc x).alloc y).alloc z
     have R:=Rp.within1 (hi:=w10.heap.size) (((HR1.out HNB.out.1).keptN HI1.out.noSl HK9.out hbw (Nat.le_refl _)).keptN HI1.out.noSl k9 hbw (by omega)) HI1.out.noSl r10 HI10.out.noSl (Nat.le_refl _) (by omega) (by simp) HA10.out.1 (((Bk.new w9 _ _).kept HK10.out (by omega)).at_) HA10.out
     refine Rp.op1 (R.keptN (NoSl.iface _ _) (hK _ _ _) hbw (Nat.le_refl _)) (NoSl.iface _ _) (Nat.le_refl _) (Nat.le_refl _) (by omega) (by simp) (((Bk.new w10 _ _).alloc _).alloc _).at_ ?_
     have:=(Bk.new ((w10.alloc (.cells #[.iface 367 (.pointer (some ⟨bb,0,none⟩))] 242)).alloc (.cells #[.int .i64 kk, .int .i64 (Sp.St.at_ s σ1:Nat), .string (bz (Sp.St.word s σ1))] 155)) #[.string (bz (Sp.St.word s σ1)), .int .i64 (Sp.St.at_ s σ1:Nat), .slice (some ⟨w10.heap.size,0,none⟩) 1 1] 379).at_
     simpa using this
  ·rw [take_yes his] at hp
   have HNB:Hid (σ1.isLive=true/\∀ e,σ1 = .live e->Sp.tokCl s e ≠ .bad):=⟨Sp.live_is his,not_bad_is his⟩
   have HV:Hid (Sp.run s (n+1) .compare d σ=Sp.St.must s [110,117,108,108] (Sp.St.take s [110,111,116] (Sp.St.step s σ1))):=by show _=_;rw [Sp.run];simp only [hσ,h6,his,if_true,if_false,Bool.false_eq_true]
   have HVT:Hid (Sp.tr s (n+1) .compare d .nil σ=(if (Sp.St.step s σ1).is s [110,111,116] then Sp.Nd.op (Sp.St.word s (Sp.St.step s σ1)) (Sp.St.at_ s (Sp.St.step s σ1)) (.cons (.op (Sp.St.word s σ1) (Sp.St.at_ s σ1) (.cons (Sp.tr s n .sum d .nil σ) .nil)) .nil) else .op (Sp.St.word s σ1) (Sp.St.at_ s σ1) (.cons (Sp.tr s n .sum d .nil σ) .nil))):=by show _=_;rw [Sp.tr];simp only [hσ,h6,his,if_true,if_false,Bool.false_eq_true]
   have HP5:=hid hp
   have HK5:=hid (HK4.out.trans hk)
   have HX5:Hid (Bk w5 w2.heap.size [.int .i64 kk, .int .i64 (aa:Int), .string wd]):=HX4.out.kept hk (by omega)
   clear hp hk HP4 HK4 HX4
   have hx:=HX5.out.lt
   have x0:=HX5.out.k0
   have x1:=HX5.out.k1
   have x2:=HX5.out.k2
   have HT:Hid (aa=σ1.at_ s/\wd=bz (σ1.word s)):=⟨(HTK.out HNB.out.1).1,(HTK.out HNB.out.1).2 HNB.out.2⟩
   have hz5:=HK5.out.size
   go_wp2_with fail
   refine (operation_any _ _ _ _ _ _ _).mono ?_
   rintro e w6 ⟨rfl,rfl⟩
   have HR6:Hid (Rp (((w5.alloc (.cells #[v1] 242)).alloc (.cells #[.int .i64 kk, .int .i64 (aa:Int), .string wd] 155)).alloc (.cells #[.string wd, .int .i64 (aa:Int), .slice (some ⟨w5.heap.size,0,none⟩) 1 1] 379)) (.op (σ1.word s) (σ1.at_ s) (.cons (Sp.tr s n .sum d .nil σ) .nil)) w.heap.size (w5.heap.size+3) (.iface 363 (.pointer (some ⟨w5.heap.size+1+1,0,none⟩)))):=by
    obtain ⟨e1,e2⟩:=HT.out
    subst e1 e2
    have hK:∀ x y z:Obj,Kept b w5 (((w5.alloc x).alloc y).alloc z):=fun x y z=>(((Kept.refl b w5).alloc x).alloc y).alloc z
    refine Rp.op1 (((HR1.out HNB.out.1).keptN HI1.out.noSl HK5.out hbw (Nat.le_refl _)).keptN HI1.out.noSl (hK _ _ _) hbw (by omega)) HI1.out.noSl (Nat.le_refl _) (by omega) (by omega) (by omega) (((Bk.new w5 _ _).alloc _).alloc _).at_ ?_
    have:=(Bk.new ((w5.alloc (.cells #[v1] 242)).alloc (.cells #[.int .i64 kk, .int .i64 (Sp.St.at_ s σ1:Nat), .string (bz (Sp.St.word s σ1))] 155)) #[.string (bz (Sp.St.word s σ1)), .int .i64 (Sp.St.at_ s σ1:Nat), .slice (some ⟨w5.heap.size,0,none⟩) 1 1] 379).at_
    simpa using this
   go_wp2_with fail
   refine (isNull_any (((HP5.out.alloc _).alloc _).alloc _) _ (Or.inr ⟨_,_,rfl⟩) _ w.heap.size hbw (fun _=>by have:=HR6.out;simpa using this) (by simp;omega)).mono ?_
   rintro r w7 ⟨v7,rfl,hp7,hk7,hi7,hr7⟩
   have HP7:=hid hp7
   have HK7:Hid (Kept b w w7):=HK1.out.trans ((((HK5.out.alloc _).alloc _).alloc _).trans hk7)
   have HI7:=hid hi7
   have HR7:=hid hr7
   clear hp7 hk7 hi7 hr7
   go_wp2_with fail
   go_ret
   exact ⟨_,rfl,by rw [HV.out];exact HP7.out,HK7.out,HI7.out,by rw [HV.out,HVT.out];exact HR7.out⟩
 ·rw [h6] at hp
  have h1:=rem_cmp h6
  have h2:=Sp.rem_run s n .sum d (Sp.St.step s σ1)
  have HNB:Hid (σ1.isLive=true/\∀ e,σ1 = .live e->Sp.tokCl s e ≠ .bad):=by
   have h6':=h6
   rw [<- isCmp_eq] at h6'
   exact ⟨live_sees h6',not_bad_sees h6'⟩
  have HV:Hid (Sp.run s (n+1) .compare d σ=Sp.run s n .sum d (Sp.St.step s σ1)):=by show _=_;rw [Sp.run];simp only [hσ,h6,if_true]
  have HVT:Hid (Sp.tr s (n+1) .compare d .nil σ=Sp.Nd.op (Sp.St.word s σ1) (Sp.St.at_ s σ1) (.cons (Sp.tr s n .sum d .nil σ) (.cons (Sp.tr s n .sum d .nil (Sp.St.step s σ1)) .nil))):=by show _=_;rw [Sp.tr];simp only [hσ,h6,if_true]
  have HP4:Hid (PS b c cap len s d (σ1.step s) w4):=hp
  have HK4:=hid (HK3.out.trans hk)
  have HX4:Hid (Bk w4 w2.heap.size [.int .i64 kk, .int .i64 (aa:Int), .string wd]):=HX3.out.kept hk (by omega)
  clear hp hk HP3 HK3 HX3
  have hx:=HX4.out.lt
  have x0:=HX4.out.k0
  have x1:=HX4.out.k1
  have x2:=HX4.out.k2
  have HT:Hid (aa=σ1.at_ s/\wd=bz (σ1.word s)):=⟨(HTK.out HNB.out.1).1,(HTK.out HNB.out.1).2 HNB.out.2⟩
  go_wp2_with fail
  go_region_with (first | (go_at_call 309;refine ((IH.out n (Nat.le_refl _)).sum d _ _ (by omega) (by show 32*Sp.rem s _+5<=n;omega) HP4.out.drew).mono ?_;rintro e w5 ⟨v5,rfl,hp5,hk5,hi5,hr5⟩;have hv5:=hi5.cells;unfold Value.cells at hv5;have hX5:=HX4.out.kept (((Kept.refl b w4).drew).trans hk5) (by omega);have hy:=hX5.lt;have y0:=hX5.k0;have y1:=hX5.k1;have y2:=hX5.k2) | (go_at_call 252;refine (operation_any _ _ _ _ _ _ _).mono ?_;rintro e w6 ⟨rfl,rfl⟩))
  all_goals
   have hk5' : Kept b w4 w5:=((Kept.refl b w4).drew).trans hk5
   have HK5:Hid (Kept b w1 w5):=HK4.out.trans hk5'
   have hz5:=hk5'.size
   have hz4:=HK4.out.size
   have HP5:=hid hp5
   have HI5:=hid hi5
   have HR5:Hid ((Sp.run s n .sum d (σ1.step s)).isLive=true->Rp w5 (Sp.tr s n .sum d .nil (σ1.step s)) w4.heap.size w5.heap.size v5):=hr5
   clear hp5 hk5 hi5 hr5 hX5 y0 y1 y2 hk5' x0 x1 x2 hv5 hv1
   go_wp2_with fail
   go_ret
   refine ⟨_,rfl,by rw [HV.out];exact ((HP5.out.alloc _).alloc _).alloc _,HK1.out.trans (((HK5.out.alloc _).alloc _).alloc _),Or.inr ⟨_,_,rfl⟩,fun hl=>?_⟩
   rw [HV.out] at hl
   rw [HVT.out]
   obtain ⟨e1,e2⟩:=HT.out
   subst e1 e2
   have hK:∀ x y z:Obj,Kept b w5 (((w5.alloc x).alloc y).alloc z):=fun x y z=>(((Kept.refl b w5).alloc x).alloc y).alloc z
   refine Rp.op2 (((HR1.out HNB.out.1).keptN HI1.out.noSl HK5.out hbw (Nat.le_refl _)).keptN HI1.out.noSl (hK _ _ _) hbw (by omega)) ((HR5.out hl).keptN HI5.out.noSl (hK _ _ _) (by omega) (Nat.le_refl _)) HI1.out.noSl HI5.out.noSl (by omega) (Nat.le_refl _) (by omega) (by simp) (((Bk.new w5 _ _).alloc _).alloc _).at_ ?_
   have:=(Bk.new ((w5.alloc (.cells #[v1,v5] 242)).alloc (.cells #[.int .i64 kk, .int .i64 (Sp.St.at_ s σ1:Nat), .string (bz (Sp.St.word s σ1))] 155)) #[.string (bz (Sp.St.word s σ1)), .int .i64 (Sp.St.at_ s σ1:Nat), .slice (some ⟨w5.heap.size,0,none⟩) 2 2] 379).at_
   simpa using this
theorem compare_step {b c cap len:Nat} {s:Sp.Bs} {n:Nat} (IH:Hid (∀ m,m<=n->All b c cap len s m)):Sd b c cap len s (n+1) .compare IsIf 283:=by
 intro d σ w hd hm hp
 have hm' : 32*Sp.rem s σ+6<=n+1:=hm
 exact compare_any IH hd hm' hp
theorem wpList_append_two {P:Program} (w:World) {ops:Array Oper} {rest:List Oper} {o:Oper} {a:Act} {Q:Exit->Act->World->Prop}
  (hg:o.guard=none) (s x:Operand) (t:TypeId) (hop:o.op=Op.call { callee:=Callee.builtin Builtin.append,args:=#[s,x],argTypes:=#[t,t] })
  (base:Nat) (e:TypeId) (i:TypeInfo) (z:Value) (size bytes:Nat) (h1:P.underlying t=some (.slice e)) (h2:P.info? e=some i) (h3:i.zero=some z) (h4:i.size=size) (h5:i.bytes=bytes) (h6:z.cells.size=size) (h7:0<size)
  (g k cap:Nat) (xs:List Value) (hs:a.eval s = .slice (some ⟨g,0,none⟩) k cap) (hown:w.ownsRow base e size (.slice (some ⟨g,0,none⟩) k cap) k xs) (ad:Addr) (c:Nat) (news:List Value) (hx:a.eval x = .slice (some ad) 1 c) (hn:news.length=1*size)
  (hc:∀ j u,news[j]?=some u->w.cell? (ad.add j)=some u) (h1c:∀ u∈news,u.oneCell'=true) (b1:k+1<=maxLen) (b2:(k+1)*bytes<=140737488355328) (hb:base<=w.heap.size)
  (hK:∀ g' cap' w',w'.ownsRow base e size (.slice (some ⟨g',0,none⟩) (k+1) cap') (k+1) (xs++news)->w.grownBy w' (some g)->(g'=g\/w.heap.size<=g')->wpList P ops Q rest (a.put o.dst (.slice (some ⟨g',0,none⟩) (k+1) cap')) w') :
  wpList P ops Q (o::rest) a w:=by
 by_cases hr:k+1<=cap
 ·exact wpList_append_fits w hg s x t hop base e i size h1 h2 h4 g k cap xs hs hown ad 1 c news hx hn hc h1c hr fun w' r1 r2=>hK g cap w' r1 r2 (Or.inl rfl)
 ·refine wpList_append_grows w hg s x t hop e i z size bytes h1 h2 h3 h4 h5 h6 h7 (some ⟨g,0,none⟩) k cap xs hs (fun h=>by cases h) hown.1 (fun b hb j u hj=>?_) ad 1 c news hx hn hc h1c (by omega) b1 b2 fun v' w' r1 r2=>?_
  ·injection hb with hb;subst hb
   rw [Addr.add_lit]
   have:=owns_cells hown j u hj
   simpa using this
  ·obtain ⟨hl,h | ⟨g',cap',cur,hv,h0,hb',r⟩⟩:=r1
   ·exact absurd h.2 (by omega)
   ·subst hv
    exact hK g' cap' w' ⟨hl, .inr ⟨g',cap',cur,rfl,Nat.le_trans hb h0,hb',r⟩⟩ ⟨r2.os,r2.tape,r2.output,r2.size,fun k hk _=>r2.block k hk (by simp)⟩ (Or.inr h0)
theorem owns_new (w:World) (base:Nat) (hb:base<=w.heap.size) (e:TypeId) (size:Nat) (arr:Array Value) (n:Nat) (hn:arr.size=n*size) (hm:n<=maxLen):(w.alloc (.cells arr e)).ownsRow base e size (.slice (some ⟨w.heap.size,0,none⟩) n n) n arr.toList:=by
 refine ⟨by simpa using hn, .inr ⟨w.heap.size,n,arr,rfl,hb,heap_alloc_new w _,Nat.le_refl _,hm,hn,?_⟩⟩
 rw [List.take_of_length_le (by simp;omega)]
def ElR (w:World) (g:Nat):List Sp.Nd->List Value->Nat->Nat->Prop
 | [], [],lo,hi=>lo<=hi
 | n::ns,x::xs,lo,hi=>∃ m1 m2,Sub lo hi g m1 m2/\NoSl x/\Rp w n m1 m2 x/\ElR w g ns xs m2 hi
 | _,_,_,_=>False
theorem ElR.snoc {w:World} {g:Nat} : ∀ {ns:List Sp.Nd} {xs:List Value} {lo hi m1 m2:Nat} {n:Sp.Nd} {x:Value},ElR w g ns xs lo hi->hi<=m1->NoSl x->Rp w n m1 m2 x->¬ (m1<=g/\g<m2)->ElR w g (ns ++ [n]) (xs ++ [x]) lo m2
 | [], [],lo,hi,m1,m2,n,x,h,h1,h2,h3,h4=>⟨m1,m2,by have:=Rp.le _ _ _ _ h3;unfold ElR at h;unfold Sub;omega,h2,h3,Nat.le_refl _⟩
 | n'::ns,x'::xs,lo,hi,m1,m2,n,x,h,h1,h2,h3,h4=>by
  obtain ⟨a1,a2,hS,hn,hr,ht⟩:=h
  have:=Rp.le _ _ _ _ h3
  exact ⟨a1,a2,by unfold Sub at hS ⊢;omega,hn,hr,ElR.snoc ht h1 h2 h3 h4⟩
 | [],_::_,_,_,_,_,_,_,h,_,_,_,_=>h.elim
 | _::_, [],_,_,_,_,_,_,h,_,_,_,_=>h.elim
theorem ElR.le {w:World} {g:Nat} : ∀ {ns:List Sp.Nd} {xs:List Value} {lo hi:Nat},ElR w g ns xs lo hi->lo<=hi
 | [], [],_,_,h=>h
 | _::_,_::_,lo,hi,h=>by obtain ⟨a1,a2,hS,_⟩:=h;unfold Sub at hS;omega
 | [],_::_,_,_,h=>h.elim
 | _::_, [],_,_,h=>h.elim
theorem ElR.move {w:World} {g g' : Nat} : ∀ {ns:List Sp.Nd} {xs:List Value} {lo hi:Nat},ElR w g ns xs lo hi->hi<=g'->ElR w g' ns xs lo hi
 | [], [],_,_,h,_=>h
 | n::ns,x::xs,lo,hi,h,hg=>by
  obtain ⟨a1,a2,hS,hn,hr,ht⟩:=h
  have:=ht.le
  exact ⟨a1,a2,by unfold Sub at hS ⊢;omega,hn,hr,ht.move hg⟩
 | [],_::_,_,_,h,_=>h.elim
 | _::_, [],_,_,h,_=>h.elim
theorem ElR.frame {w w' : World} {g:Nat} (hs:w.heap.size<=w'.heap.size):∀ {ns:List Sp.Nd} {xs:List Value} {lo hi:Nat},ElR w g ns xs lo hi->(∀ k,lo<=k->k<hi->k≠g->w'.heap[k]?=w.heap[k]?)->ElR w' g ns xs lo hi
 | [], [],_,_,h,_=>h
 | n::ns,x::xs,lo,hi,h,hk=>by
  obtain ⟨a1,a2,hS,hn,hr,ht⟩:=h
  have:=ht.le
  unfold Sub at hS
  exact ⟨a1,a2,hS,hn,hr.frame hs _ _ _ _ (fun k h1 h2=>hk k (by omega) (by omega) (by omega)) (fun _ _ _ _ e=>absurd e (hn _ _ _)),ht.frame hs fun k h1 h2 h3=>hk k (by omega) h2 h3⟩
 | [],_::_,_,_,h,_=>h.elim
 | _::_, [],_,_,h,_=>h.elim
theorem ElR.rp {w:World} {g:Nat} (hg:g<w.heap.size) (cap:Nat):∀ {ns:List Sp.Nd} {xs:List Value} {lo hi off:Nat},ElR w g ns xs lo hi->(∀ j u,xs[j]?=some u->w.cell? ⟨g,off+j,none⟩=some u)->Rp w (Sp.lapp ns .nil) lo hi (.slice (some ⟨g,off,none⟩) ns.length cap)
 | [], [],lo,hi,off,h,_=>⟨h,_,_,rfl⟩
 | n::ns,x::xs,lo,hi,off,h,hc=>by
  obtain ⟨a1,a2,hS,hn,hr,ht⟩:=h
  refine ⟨g,off,ns.length,cap,x,a1,a2,rfl,hg,hS,by simpa using hc 0 x rfl,hn,hr,?_⟩
  exact ElR.rp hg cap ht fun j u hj=>by have:=hc (j+1) u (by simpa using hj);rw [show off+1+j=off+(j+1) by omega];exact this
 | [],_::_,_,_,_,h,_=>h.elim
 | _::_, [],_,_,_,h,_=>h.elim
theorem ElR.len {w:World} {g:Nat} : ∀ {ns:List Sp.Nd} {xs:List Value} {lo hi:Nat},ElR w g ns xs lo hi->xs.length=ns.length
 | [], [],_,_,_=>rfl
 | _::ns,_::xs,_,_,h=>by obtain ⟨_,_,_,_,_,ht⟩:=h;simp [ht.len]
 | [],_::_,_,_,h=>h.elim
 | _::_, [],_,_,h=>h.elim
theorem infoExpr:(Tryz.prog.info? 242).map (fun i=>(i.zero,i.size,i.bytes))=some (some .nilIface,1,16):=by kernel_rfl
theorem IsIf.one {v:Value} (h:IsIf v):v.oneCell'=true:=by
 rcases h with rfl | ⟨t,x,rfl⟩ <;> rfl
end Go.Proofs.YtgnncnhkgmhngaaGreatDoor
