import Derived.Test.YtgnncnhkgmhngaaGreatDoorQ8
namespace Go.Proofs.YtgnncnhkgmhngaaGreatDoor
open Go.RowKit

theorem isCmp_eq (s : Sp.Bs) (σ : Sp.St) : seesOne s [[61], [60, 62], [60], [60, 61], [62], [62, 61]] σ = σ.isCmp s := by
  simp [seesOne, Sp.St.isCmp, Bool.or_assoc]

theorem accept6q {b c cap len : Nat} {s : Sp.Bs} {d : Nat} {σ : Sp.St} {w : World} (h : PS b c cap len s d σ w) (q : Nat) (hq : q = w.heap.size) :
    Calls Tryz.prog 76 #[.pointer (some ⟨b, 0, none⟩), .slice (some ⟨q, 0, none⟩) 6 6] (w.alloc (.cells #[.string ⟨#[61]⟩, .string ⟨#[60, 62]⟩, .string ⟨#[60]⟩, .string ⟨#[60, 61]⟩, .string ⟨#[62]⟩, .string ⟨#[62, 61]⟩] 9)) fun r w' => r = .returned (.bool (σ.isCmp s)) ∧ PS b c cap len s d (stepIf (σ.isCmp s) s σ) w' ∧ Kept b w w' := by
  subst hq
  have := accept_lit h [[61], [60, 62], [60], [60, 61], [62], [62, 61]] (by decide) (by decide) 6 rfl #[.string ⟨#[61]⟩, .string ⟨#[60, 62]⟩, .string ⟨#[60]⟩, .string ⟨#[60, 61]⟩, .string ⟨#[62]⟩, .string ⟨#[62, 61]⟩] rfl
  rw [isCmp_eq] at this
  exact this

theorem rem_cmp {s : Sp.Bs} {σ : Sp.St} (h : σ.isCmp s = true) : Sp.rem s (σ.step s) < Sp.rem s σ := by
  rw [← isCmp_eq] at h
  exact rem_sees h

set_option maxHeartbeats 2000000 in
theorem compare_none {b c cap len : Nat} {s : Sp.Bs} {n d : Nat} {σ : Sp.St} {w : World} (IH : Hid (∀ m, m ≤ n → All b c cap len s m)) (hd : d + (n + 1) ≤ 1000000) (hm : 32 * Sp.rem s σ + 6 ≤ n + 1) (hp : PS b c cap len s d σ w) (h6 : (Sp.run s n .sum d σ).isCmp s = false) (his : (Sp.run s n .sum d σ).is s [105, 115] = false) (hnot : (Sp.run s n .sum d σ).is s [110, 111, 116] = false) (hin : (Sp.run s n .sum d σ).is s [105, 110] = false) :
    Calls Tryz.prog 283 #[.pointer (some ⟨b, 0, none⟩)] w (PostV b c cap len s d (Sp.run s (n + 1) .compare d σ) w IsIf fun w' v => Rp w' (Sp.tr s (n + 1) .compare d .nil σ) w.heap.size w'.heap.size v) := by
  have hbw := hp.lb
  have hcw := hp.lc
  have hr := Sp.rem_run s n .sum d σ
  have HPA : Hid (PS b c cap len s d σ w) := hp
  clear hp
  have HV : Hid (Sp.run s (n + 1) .compare d σ = (Sp.run s n .sum d σ)) := by show _ = _; rw [Sp.run]; simp only [h6, his, hnot, hin, if_false, Bool.false_eq_true]
  have HVT : Hid (Sp.tr s (n + 1) .compare d .nil σ = (Sp.tr s n .sum d .nil σ)) := by show _ = _; rw [Sp.tr]; simp only [h6, his, hnot, hin, if_false, Bool.false_eq_true]
  go_enter Tryz.func283, Tryz.ntmps283
  go_wp2_with fail
  refine ((IH.out n (Nat.le_refl _)).sum d σ _ (by omega) (by show 32 * Sp.rem s σ + 5 ≤ n; omega) HPA.out).mono ?_
  rintro r w1 ⟨v1, rfl, hp1, hk1, hi1, hr1⟩
  obtain ⟨i, wd, hi, tc, PK⟩ := peek_any hp1
  have HTK : Hid ((Sp.run s n .sum d σ).isLive = true → Sp.tokAt s (pos s i) = (Sp.run s n .sum d σ).at_ s ∧ ((∀ e, (Sp.run s n .sum d σ) = .live e → Sp.tokCl s e ≠ .bad) → wd = bz ((Sp.run s n .sum d σ).word s))) := fun hl => tok_live hi tc hl
  have HP1 : Hid (PS b c cap len s d (Sp.run s n .sum d σ) w1) := hp1
  have HK1 : Hid (Kept b w w1) := hk1
  have HI1 : Hid (IsIf v1) := hi1
  have HR1 : Hid ((Sp.run s n .sum d σ).isLive = true → Rp w1 (Sp.tr s n .sum d .nil σ) w.heap.size w1.heap.size v1) := hr1
  have HPK : Hid (∀ w', w' = w1 → Calls Tryz.prog 75 #[.pointer (some ⟨b, 0, none⟩)] w' fun r w'' => r = .returned (.agg #[.int .i64 (kn (Sp.tokCl s (pos s i))), .int .i64 (Sp.tokAt s (pos s i) : Nat), .string wd]) ∧ Below w1.heap.size w1 w'') := fun w' e => by subst e; exact PK
  clear hp1 hk1 hi1 hr1 hi tc PK HPA
  generalize kn (Sp.tokCl s (pos s i)) = kk at HPK
  generalize Sp.tokAt s (pos s i) = aa at *
  generalize hσ : Sp.run s n .sum d σ = σ1 at *
  have hv1 := HI1.out.cells
  unfold Value.cells at hv1
  go_wp2_with fail
  refine (HPK.out _ rfl).mono ?_
  rintro r w2 ⟨rfl, hb2⟩
  have HB2 : Hid (Below w1.heap.size w1 w2) := hb2
  clear hb2 HPK
  have HP3 : Hid (PS b c cap len s d σ1 (w2.alloc (.cells #[.int .i64 kk, .int .i64 (aa : Int), .string wd] 155))) := (HP1.out.below HB2.out).alloc _
  have HK3 : Hid (Kept b w1 (w2.alloc (.cells #[.int .i64 kk, .int .i64 (aa : Int), .string wd] 155))) := (Kept.below HB2.out).alloc _
  have HX3 : Hid (Bk (w2.alloc (.cells #[.int .i64 kk, .int .i64 (aa : Int), .string wd] 155)) w2.heap.size [.int .i64 kk, .int .i64 (aa : Int), .string wd]) := Bk.new _ _ _
  have hz2 : w1.heap.size ≤ w2.heap.size := HB2.out.size
  have hz1 : w.heap.size ≤ w1.heap.size := HK1.out.size
  clear HB2 HP1
  go_wp2_with fail
  refine (accept6q HP3.out _ (by simp)).mono ?_
  rintro r w4 ⟨rfl, hp, hk⟩
  rw [h6] at hp
  rw [h6]
  have HP4 : Hid (PS b c cap len s d σ1 w4) := hp
  have HK4 : Hid (Kept b w1 w4) := HK3.out.trans hk
  have HX4 : Hid (Bk w4 w2.heap.size [.int .i64 kk, .int .i64 (aa : Int), .string wd]) := HX3.out.kept hk (by omega)
  clear hp hk HP3 HK3 HX3
  go_wp2_with fail
  refine (accept1 HP4.out [105, 115] (by decide)).mono ?_
  rintro r w5 ⟨rfl, hp, hk⟩
  rw [take_no his] at hp
  rw [his]
  have HP5 : Hid (PS b c cap len s d σ1 w5) := hp
  have HK5 : Hid (Kept b w1 w5) := HK4.out.trans hk
  have HX5 : Hid (Bk w5 w2.heap.size [.int .i64 kk, .int .i64 (aa : Int), .string wd]) := HX4.out.kept hk (by omega)
  clear hp hk HP4 HK4 HX4
  go_wp2_with fail
  refine (accept1 HP5.out [110, 111, 116] (by decide)).mono ?_
  rintro r w6 ⟨rfl, hp, hk⟩
  rw [take_no hnot] at hp
  rw [hnot]
  have HP6 : Hid (PS b c cap len s d σ1 w6) := hp
  have HK6 : Hid (Kept b w1 w6) := HK5.out.trans hk
  have HX6 : Hid (Bk w6 w2.heap.size [.int .i64 kk, .int .i64 (aa : Int), .string wd]) := HX5.out.kept hk (by omega)
  clear hp hk HP5 HK5 HX5
  go_wp2_with fail
  refine (accept1 HP6.out [105, 110] (by decide)).mono ?_
  rintro r w7 ⟨rfl, hp, hk⟩
  rw [take_no hin] at hp
  rw [hin]
  have HP7 : Hid (PS b c cap len s d σ1 w7) := hp
  have HK7 : Hid (Kept b w1 w7) := HK6.out.trans hk
  have HX7 : Hid (Bk w7 w2.heap.size [.int .i64 kk, .int .i64 (aa : Int), .string wd]) := HX6.out.kept hk (by omega)
  clear hp hk HP6 HK6 HX6
  go_wp2_with fail
  go_ret
  refine ⟨_, rfl, by rw [HV.out]; exact HP7.out, HK1.out.trans HK7.out, HI1.out, fun hl => ?_⟩
  rw [HV.out] at hl
  rw [HVT.out]
  exact Rp.wide _ _ _ _ _ _ ((HR1.out hl).keptN HI1.out.noSl HK7.out hbw (Nat.le_refl _)) (Nat.le_refl _) HK7.out.size

set_option maxHeartbeats 2000000 in
theorem compare_cmp {b c cap len : Nat} {s : Sp.Bs} {n d : Nat} {σ : Sp.St} {w : World} (IH : Hid (∀ m, m ≤ n → All b c cap len s m)) (hd : d + (n + 1) ≤ 1000000) (hm : 32 * Sp.rem s σ + 6 ≤ n + 1) (hp : PS b c cap len s d σ w) (h6 : (Sp.run s n .sum d σ).isCmp s = true) :
    Calls Tryz.prog 283 #[.pointer (some ⟨b, 0, none⟩)] w (PostV b c cap len s d (Sp.run s (n + 1) .compare d σ) w IsIf fun w' v => Rp w' (Sp.tr s (n + 1) .compare d .nil σ) w.heap.size w'.heap.size v) := by
  have hbw := hp.lb
  have hcw := hp.lc
  have hr := Sp.rem_run s n .sum d σ
  have HPA : Hid (PS b c cap len s d σ w) := hp
  clear hp
  have h1 := rem_cmp h6
  have h2 := Sp.rem_run s n .sum d (Sp.St.step s (Sp.run s n .sum d σ))
  have HNB : Hid ((Sp.run s n .sum d σ).isLive = true ∧ ∀ e, (Sp.run s n .sum d σ) = .live e → Sp.tokCl s e ≠ .bad) := by
    have h6' := h6
    rw [← isCmp_eq] at h6'
    exact ⟨live_sees h6', not_bad_sees h6'⟩
  have HV : Hid (Sp.run s (n + 1) .compare d σ = Sp.run s n .sum d (Sp.St.step s (Sp.run s n .sum d σ))) := by show _ = _; rw [Sp.run]; simp only [h6, if_true]
  have HVT : Hid (Sp.tr s (n + 1) .compare d .nil σ = Sp.Nd.op (Sp.St.word s (Sp.run s n .sum d σ)) (Sp.St.at_ s (Sp.run s n .sum d σ)) (.cons (Sp.tr s n .sum d .nil σ) (.cons (Sp.tr s n .sum d .nil (Sp.St.step s (Sp.run s n .sum d σ))) .nil))) := by show _ = _; rw [Sp.tr]; simp only [h6, if_true]
  go_enter Tryz.func283, Tryz.ntmps283
  go_wp2_with fail
  refine ((IH.out n (Nat.le_refl _)).sum d σ _ (by omega) (by show 32 * Sp.rem s σ + 5 ≤ n; omega) HPA.out).mono ?_
  rintro r w1 ⟨v1, rfl, hp1, hk1, hi1, hr1⟩
  obtain ⟨i, wd, hi, tc, PK⟩ := peek_any hp1
  have HTK : Hid ((Sp.run s n .sum d σ).isLive = true → Sp.tokAt s (pos s i) = (Sp.run s n .sum d σ).at_ s ∧ ((∀ e, (Sp.run s n .sum d σ) = .live e → Sp.tokCl s e ≠ .bad) → wd = bz ((Sp.run s n .sum d σ).word s))) := fun hl => tok_live hi tc hl
  have HP1 : Hid (PS b c cap len s d (Sp.run s n .sum d σ) w1) := hp1
  have HK1 : Hid (Kept b w w1) := hk1
  have HI1 : Hid (IsIf v1) := hi1
  have HR1 : Hid ((Sp.run s n .sum d σ).isLive = true → Rp w1 (Sp.tr s n .sum d .nil σ) w.heap.size w1.heap.size v1) := hr1
  have HPK : Hid (∀ w', w' = w1 → Calls Tryz.prog 75 #[.pointer (some ⟨b, 0, none⟩)] w' fun r w'' => r = .returned (.agg #[.int .i64 (kn (Sp.tokCl s (pos s i))), .int .i64 (Sp.tokAt s (pos s i) : Nat), .string wd]) ∧ Below w1.heap.size w1 w'') := fun w' e => by subst e; exact PK
  clear hp1 hk1 hi1 hr1 hi tc PK HPA
  generalize kn (Sp.tokCl s (pos s i)) = kk at HPK
  generalize Sp.tokAt s (pos s i) = aa at *
  generalize hσ : Sp.run s n .sum d σ = σ1 at *
  have hv1 := HI1.out.cells
  unfold Value.cells at hv1
  go_wp2_with fail
  refine (HPK.out _ rfl).mono ?_
  rintro r w2 ⟨rfl, hb2⟩
  have HB2 : Hid (Below w1.heap.size w1 w2) := hb2
  clear hb2 HPK
  have HP3 : Hid (PS b c cap len s d σ1 (w2.alloc (.cells #[.int .i64 kk, .int .i64 (aa : Int), .string wd] 155))) := (HP1.out.below HB2.out).alloc _
  have HK3 : Hid (Kept b w1 (w2.alloc (.cells #[.int .i64 kk, .int .i64 (aa : Int), .string wd] 155))) := (Kept.below HB2.out).alloc _
  have HX3 : Hid (Bk (w2.alloc (.cells #[.int .i64 kk, .int .i64 (aa : Int), .string wd] 155)) w2.heap.size [.int .i64 kk, .int .i64 (aa : Int), .string wd]) := Bk.new _ _ _
  have hz2 : w1.heap.size ≤ w2.heap.size := HB2.out.size
  have hz1 : w.heap.size ≤ w1.heap.size := HK1.out.size
  clear HB2 HP1
  go_wp2_with fail
  refine (accept6q HP3.out _ (by simp)).mono ?_
  rintro r w4 ⟨rfl, hp, hk⟩
  rw [h6] at hp
  rw [h6]
  have HP4 : Hid (PS b c cap len s d (σ1.step s) w4) := hp
  have HK4 : Hid (Kept b w1 w4) := HK3.out.trans hk
  have HX4 : Hid (Bk w4 w2.heap.size [.int .i64 kk, .int .i64 (aa : Int), .string wd]) := HX3.out.kept hk (by omega)
  clear hp hk HP3 HK3 HX3
  have hx := HX4.out.lt
  have x0 := HX4.out.c 0 (by simp)
  have x1 := HX4.out.c 1 (by simp)
  have x2 := HX4.out.c 2 (by simp)
  simp only [List.getElem_cons_zero, List.getElem_cons_succ] at x0 x1 x2
  have HT : Hid (aa = σ1.at_ s ∧ wd = bz (σ1.word s)) := ⟨(HTK.out HNB.out.1).1, (HTK.out HNB.out.1).2 HNB.out.2⟩
  go_wp2_with fail
  go_region_with (first | (go_at_call 309; refine ((IH.out n (Nat.le_refl _)).sum d _ _ (by omega) (by show 32 * Sp.rem s _ + 5 ≤ n; omega) HP4.out.drew).mono ?_; rintro e w5 ⟨v5, rfl, hp5, hk5, hi5, hr5⟩; have hv5 := hi5.cells; unfold Value.cells at hv5; have hX5 := HX4.out.kept (((Kept.refl b w4).drew).trans hk5) (by omega); have hy := hX5.lt; have y0 := hX5.c 0 (by simp); have y1 := hX5.c 1 (by simp); have y2 := hX5.c 2 (by simp); simp only [List.getElem_cons_zero, List.getElem_cons_succ] at y0 y1 y2) | (go_at_call 252; refine (operation_any _ _ _ _ _ _ _).mono ?_; rintro e w6 ⟨rfl, rfl⟩))
  all_goals
    have hk5' : Kept b w4 w5 := ((Kept.refl b w4).drew).trans hk5
    have HK5 : Hid (Kept b w1 w5) := HK4.out.trans hk5'
    have hz5 := hk5'.size
    have hz4 := HK4.out.size
    have HP5 : Hid (PS b c cap len s d (Sp.run s n .sum d (σ1.step s)) w5) := hp5
    have HI5 : Hid (IsIf v5) := hi5
    have HR5 : Hid ((Sp.run s n .sum d (σ1.step s)).isLive = true → Rp w5 (Sp.tr s n .sum d .nil (σ1.step s)) w4.heap.size w5.heap.size v5) := hr5
    clear hp5 hk5 hi5 hr5 hX5 y0 y1 y2 hk5' x0 x1 x2 hv5 hv1
    go_wp2_with fail
    go_ret
    refine ⟨_, rfl, by rw [HV.out]; exact ((HP5.out.alloc _).alloc _).alloc _, HK1.out.trans (((HK5.out.alloc _).alloc _).alloc _), Or.inr ⟨_, _, rfl⟩, fun hl => ?_⟩
    rw [HV.out] at hl
    rw [HVT.out]
    obtain ⟨e1, e2⟩ := HT.out
    subst e1 e2
    have hK : ∀ x y z : Obj, Kept b w5 (((w5.alloc x).alloc y).alloc z) := fun x y z => (((Kept.refl b w5).alloc x).alloc y).alloc z
    refine Rp.op2 (((HR1.out HNB.out.1).keptN HI1.out.noSl HK5.out hbw (Nat.le_refl _)).keptN HI1.out.noSl (hK _ _ _) hbw (by omega)) ((HR5.out hl).keptN HI5.out.noSl (hK _ _ _) (by omega) (Nat.le_refl _)) HI1.out.noSl HI5.out.noSl (by omega) (Nat.le_refl _) (by omega) (by simp) (((Bk.new w5 _ _).alloc _).alloc _).at_ ?_
    have := (Bk.new ((w5.alloc (.cells #[v1, v5] 242)).alloc (.cells #[.int .i64 kk, .int .i64 (Sp.St.at_ s σ1 : Nat), .string (bz (Sp.St.word s σ1))] 155)) #[.string (bz (Sp.St.word s σ1)), .int .i64 (Sp.St.at_ s σ1 : Nat), .slice (some ⟨w5.heap.size, 0, none⟩) 2 2] 379).at_
    simpa using this

set_option maxHeartbeats 2000000 in
theorem compare_is {b c cap len : Nat} {s : Sp.Bs} {n d : Nat} {σ : Sp.St} {w : World} (IH : Hid (∀ m, m ≤ n → All b c cap len s m)) (hd : d + (n + 1) ≤ 1000000) (hm : 32 * Sp.rem s σ + 6 ≤ n + 1) (hp : PS b c cap len s d σ w) (h6 : (Sp.run s n .sum d σ).isCmp s = false) (his : (Sp.run s n .sum d σ).is s [105, 115] = true) :
    Calls Tryz.prog 283 #[.pointer (some ⟨b, 0, none⟩)] w (PostV b c cap len s d (Sp.run s (n + 1) .compare d σ) w IsIf fun w' v => Rp w' (Sp.tr s (n + 1) .compare d .nil σ) w.heap.size w'.heap.size v) := by
  have hbw := hp.lb
  have hcw := hp.lc
  have hr := Sp.rem_run s n .sum d σ
  have HPA : Hid (PS b c cap len s d σ w) := hp
  clear hp
  have HNB : Hid ((Sp.run s n .sum d σ).isLive = true ∧ ∀ e, (Sp.run s n .sum d σ) = .live e → Sp.tokCl s e ≠ .bad) := ⟨Sp.live_is his, not_bad_is his⟩
  have HV : Hid (Sp.run s (n + 1) .compare d σ = Sp.St.must s [110, 117, 108, 108] (Sp.St.take s [110, 111, 116] (Sp.St.step s (Sp.run s n .sum d σ)))) := by show _ = _; rw [Sp.run]; simp only [h6, his, if_true, if_false, Bool.false_eq_true]
  have HVT : Hid (Sp.tr s (n + 1) .compare d .nil σ = (if (Sp.St.step s (Sp.run s n .sum d σ)).is s [110, 111, 116] then Sp.Nd.op (Sp.St.word s (Sp.St.step s (Sp.run s n .sum d σ))) (Sp.St.at_ s (Sp.St.step s (Sp.run s n .sum d σ))) (.cons (.op (Sp.St.word s (Sp.run s n .sum d σ)) (Sp.St.at_ s (Sp.run s n .sum d σ)) (.cons (Sp.tr s n .sum d .nil σ) .nil)) .nil) else .op (Sp.St.word s (Sp.run s n .sum d σ)) (Sp.St.at_ s (Sp.run s n .sum d σ)) (.cons (Sp.tr s n .sum d .nil σ) .nil))) := by show _ = _; rw [Sp.tr]; simp only [h6, his, if_true, if_false, Bool.false_eq_true]
  go_enter Tryz.func283, Tryz.ntmps283
  go_wp2_with fail
  refine ((IH.out n (Nat.le_refl _)).sum d σ _ (by omega) (by show 32 * Sp.rem s σ + 5 ≤ n; omega) HPA.out).mono ?_
  rintro r w1 ⟨v1, rfl, hp1, hk1, hi1, hr1⟩
  obtain ⟨i, wd, hi, tc, PK⟩ := peek_any hp1
  have HTK : Hid ((Sp.run s n .sum d σ).isLive = true → Sp.tokAt s (pos s i) = (Sp.run s n .sum d σ).at_ s ∧ ((∀ e, (Sp.run s n .sum d σ) = .live e → Sp.tokCl s e ≠ .bad) → wd = bz ((Sp.run s n .sum d σ).word s))) := fun hl => tok_live hi tc hl
  have HP1 : Hid (PS b c cap len s d (Sp.run s n .sum d σ) w1) := hp1
  have HK1 : Hid (Kept b w w1) := hk1
  have HI1 : Hid (IsIf v1) := hi1
  have HR1 : Hid ((Sp.run s n .sum d σ).isLive = true → Rp w1 (Sp.tr s n .sum d .nil σ) w.heap.size w1.heap.size v1) := hr1
  have HPK : Hid (∀ w', w' = w1 → Calls Tryz.prog 75 #[.pointer (some ⟨b, 0, none⟩)] w' fun r w'' => r = .returned (.agg #[.int .i64 (kn (Sp.tokCl s (pos s i))), .int .i64 (Sp.tokAt s (pos s i) : Nat), .string wd]) ∧ Below w1.heap.size w1 w'') := fun w' e => by subst e; exact PK
  clear hp1 hk1 hi1 hr1 hi tc PK HPA
  generalize kn (Sp.tokCl s (pos s i)) = kk at HPK
  generalize Sp.tokAt s (pos s i) = aa at *
  generalize hσ : Sp.run s n .sum d σ = σ1 at *
  have hv1 := HI1.out.cells
  unfold Value.cells at hv1
  go_wp2_with fail
  refine (HPK.out _ rfl).mono ?_
  rintro r w2 ⟨rfl, hb2⟩
  have HB2 : Hid (Below w1.heap.size w1 w2) := hb2
  clear hb2 HPK
  have HP3 : Hid (PS b c cap len s d σ1 (w2.alloc (.cells #[.int .i64 kk, .int .i64 (aa : Int), .string wd] 155))) := (HP1.out.below HB2.out).alloc _
  have HK3 : Hid (Kept b w1 (w2.alloc (.cells #[.int .i64 kk, .int .i64 (aa : Int), .string wd] 155))) := (Kept.below HB2.out).alloc _
  have HX3 : Hid (Bk (w2.alloc (.cells #[.int .i64 kk, .int .i64 (aa : Int), .string wd] 155)) w2.heap.size [.int .i64 kk, .int .i64 (aa : Int), .string wd]) := Bk.new _ _ _
  have hz2 : w1.heap.size ≤ w2.heap.size := HB2.out.size
  have hz1 : w.heap.size ≤ w1.heap.size := HK1.out.size
  clear HB2 HP1
  go_wp2_with fail
  refine (accept6q HP3.out _ (by simp)).mono ?_
  rintro r w4 ⟨rfl, hp, hk⟩
  rw [h6] at hp
  rw [h6]
  have HP4 : Hid (PS b c cap len s d σ1 w4) := hp
  have HK4 : Hid (Kept b w1 w4) := HK3.out.trans hk
  have HX4 : Hid (Bk w4 w2.heap.size [.int .i64 kk, .int .i64 (aa : Int), .string wd]) := HX3.out.kept hk (by omega)
  clear hp hk HP3 HK3 HX3
  go_wp2_with fail
  refine (accept1 HP4.out [105, 115] (by decide)).mono ?_
  rintro r w5 ⟨rfl, hp, hk⟩
  rw [take_yes his] at hp
  rw [his]
  have HP5 : Hid (PS b c cap len s d (σ1.step s) w5) := hp
  have HK5 : Hid (Kept b w1 w5) := HK4.out.trans hk
  have HX5 : Hid (Bk w5 w2.heap.size [.int .i64 kk, .int .i64 (aa : Int), .string wd]) := HX4.out.kept hk (by omega)
  clear hp hk HP4 HK4 HX4
  have hx := HX5.out.lt
  have x0 := HX5.out.c 0 (by simp)
  have x1 := HX5.out.c 1 (by simp)
  have x2 := HX5.out.c 2 (by simp)
  simp only [List.getElem_cons_zero, List.getElem_cons_succ] at x0 x1 x2
  have HT : Hid (aa = σ1.at_ s ∧ wd = bz (σ1.word s)) := ⟨(HTK.out HNB.out.1).1, (HTK.out HNB.out.1).2 HNB.out.2⟩
  have hz5 := HK5.out.size
  go_wp2_with fail
  refine (operation_any _ _ _ _ _ _ _).mono ?_
  rintro e w6 ⟨rfl, rfl⟩
  have HR6 : Hid (Rp (((w5.alloc (.cells #[v1] 242)).alloc (.cells #[.int .i64 kk, .int .i64 (aa : Int), .string wd] 155)).alloc (.cells #[.string wd, .int .i64 (aa : Int), .slice (some ⟨w5.heap.size, 0, none⟩) 1 1] 379)) (.op (σ1.word s) (σ1.at_ s) (.cons (Sp.tr s n .sum d .nil σ) .nil)) w.heap.size (w5.heap.size + 3) (.iface 363 (.pointer (some ⟨w5.heap.size + 1 + 1, 0, none⟩)))) := by
    obtain ⟨e1, e2⟩ := HT.out
    subst e1 e2
    have hK : ∀ x y z : Obj, Kept b w5 (((w5.alloc x).alloc y).alloc z) := fun x y z => (((Kept.refl b w5).alloc x).alloc y).alloc z
    refine Rp.op1 (((HR1.out HNB.out.1).keptN HI1.out.noSl HK5.out hbw (Nat.le_refl _)).keptN HI1.out.noSl (hK _ _ _) hbw (by omega)) HI1.out.noSl (Nat.le_refl _) (by omega) (by omega) (by omega) (((Bk.new w5 _ _).alloc _).alloc _).at_ ?_
    have := (Bk.new ((w5.alloc (.cells #[v1] 242)).alloc (.cells #[.int .i64 kk, .int .i64 (Sp.St.at_ s σ1 : Nat), .string (bz (Sp.St.word s σ1))] 155)) #[.string (bz (Sp.St.word s σ1)), .int .i64 (Sp.St.at_ s σ1 : Nat), .slice (some ⟨w5.heap.size, 0, none⟩) 1 1] 379).at_
    simpa using this
  go_wp2_with fail
  refine (isNull_any (((HP5.out.alloc _).alloc _).alloc _) _ (Or.inr ⟨_, _, rfl⟩) _ w.heap.size hbw (fun _ => by have := HR6.out; simpa using this) (by simp; omega)).mono ?_
  rintro r w7 ⟨v7, rfl, hp7, hk7, hi7, hr7⟩
  have HP7 : Hid (PS b c cap len s d (((σ1.step s).take s [110, 111, 116]).must s [110, 117, 108, 108]) w7) := hp7
  have HK7 : Hid (Kept b w w7) := HK1.out.trans ((((HK5.out.alloc _).alloc _).alloc _).trans hk7)
  have HI7 : Hid (IsIf v7) := hi7
  have HR7 : Hid (_) := hr7
  clear hp7 hk7 hi7 hr7
  go_wp2_with fail
  go_ret
  exact ⟨_, rfl, by rw [HV.out]; exact HP7.out, HK7.out, HI7.out, by rw [HV.out, HVT.out]; exact HR7.out⟩

set_option maxHeartbeats 2000000 in
theorem compare_in {b c cap len : Nat} {s : Sp.Bs} {n d : Nat} {σ : Sp.St} {w : World} (IH : Hid (∀ m, m ≤ n → All b c cap len s m)) (hd : d + (n + 1) ≤ 1000000) (hm : 32 * Sp.rem s σ + 6 ≤ n + 1) (hp : PS b c cap len s d σ w) (h6 : (Sp.run s n .sum d σ).isCmp s = false) (his : (Sp.run s n .sum d σ).is s [105, 115] = false) (hnot : (Sp.run s n .sum d σ).is s [110, 111, 116] = false) (hin : (Sp.run s n .sum d σ).is s [105, 110] = true) :
    Calls Tryz.prog 283 #[.pointer (some ⟨b, 0, none⟩)] w (PostV b c cap len s d (Sp.run s (n + 1) .compare d σ) w IsIf fun w' v => Rp w' (Sp.tr s (n + 1) .compare d .nil σ) w.heap.size w'.heap.size v) := by
  have hbw := hp.lb
  have hcw := hp.lc
  have hr := Sp.rem_run s n .sum d σ
  have HPA : Hid (PS b c cap len s d σ w) := hp
  clear hp
  have h1 := Sp.rem_step_lt hin
  have h3 := Sp.rem_opened s [40] d (Sp.St.step s (Sp.run s n .sum d σ))
  have HNB : Hid ((Sp.run s n .sum d σ).isLive = true ∧ ∀ e, (Sp.run s n .sum d σ) = .live e → Sp.tokCl s e ≠ .bad) := ⟨Sp.live_is hin, not_bad_is hin⟩
  have HV : Hid (Sp.run s (n + 1) .compare d σ = Sp.St.must s [41] (Sp.run s n .query (d + 1) (Sp.St.opened s [40] d (Sp.St.step s (Sp.run s n .sum d σ))))) := by show _ = _; rw [Sp.run]; simp only [h6, his, hnot, hin, if_true, if_false, Bool.false_eq_true]
  have HVT : Hid (Sp.tr s (n + 1) .compare d .nil σ = Sp.Nd.within (Sp.St.word s (Sp.run s n .sum d σ)) (Sp.St.at_ s (Sp.run s n .sum d σ)) (.cons (Sp.tr s n .sum d .nil σ) .nil) (Sp.tr s n .query (d + 1) .nil (Sp.St.opened s [40] d (Sp.St.step s (Sp.run s n .sum d σ))))) := by show _ = _; rw [Sp.tr]; simp only [h6, his, hnot, hin, if_true, if_false, Bool.false_eq_true]
  go_enter Tryz.func283, Tryz.ntmps283
  go_wp2_with fail
  refine ((IH.out n (Nat.le_refl _)).sum d σ _ (by omega) (by show 32 * Sp.rem s σ + 5 ≤ n; omega) HPA.out).mono ?_
  rintro r w1 ⟨v1, rfl, hp1, hk1, hi1, hr1⟩
  obtain ⟨i, wd, hi, tc, PK⟩ := peek_any hp1
  have HTK : Hid ((Sp.run s n .sum d σ).isLive = true → Sp.tokAt s (pos s i) = (Sp.run s n .sum d σ).at_ s ∧ ((∀ e, (Sp.run s n .sum d σ) = .live e → Sp.tokCl s e ≠ .bad) → wd = bz ((Sp.run s n .sum d σ).word s))) := fun hl => tok_live hi tc hl
  have HP1 : Hid (PS b c cap len s d (Sp.run s n .sum d σ) w1) := hp1
  have HK1 : Hid (Kept b w w1) := hk1
  have HI1 : Hid (IsIf v1) := hi1
  have HR1 : Hid ((Sp.run s n .sum d σ).isLive = true → Rp w1 (Sp.tr s n .sum d .nil σ) w.heap.size w1.heap.size v1) := hr1
  have HPK : Hid (∀ w', w' = w1 → Calls Tryz.prog 75 #[.pointer (some ⟨b, 0, none⟩)] w' fun r w'' => r = .returned (.agg #[.int .i64 (kn (Sp.tokCl s (pos s i))), .int .i64 (Sp.tokAt s (pos s i) : Nat), .string wd]) ∧ Below w1.heap.size w1 w'') := fun w' e => by subst e; exact PK
  clear hp1 hk1 hi1 hr1 hi tc PK HPA
  generalize kn (Sp.tokCl s (pos s i)) = kk at HPK
  generalize Sp.tokAt s (pos s i) = aa at *
  generalize hσ : Sp.run s n .sum d σ = σ1 at *
  have hv1 := HI1.out.cells
  unfold Value.cells at hv1
  go_wp2_with fail
  refine (HPK.out _ rfl).mono ?_
  rintro r w2 ⟨rfl, hb2⟩
  have HB2 : Hid (Below w1.heap.size w1 w2) := hb2
  clear hb2 HPK
  have HP3 : Hid (PS b c cap len s d σ1 (w2.alloc (.cells #[.int .i64 kk, .int .i64 (aa : Int), .string wd] 155))) := (HP1.out.below HB2.out).alloc _
  have HK3 : Hid (Kept b w1 (w2.alloc (.cells #[.int .i64 kk, .int .i64 (aa : Int), .string wd] 155))) := (Kept.below HB2.out).alloc _
  have HX3 : Hid (Bk (w2.alloc (.cells #[.int .i64 kk, .int .i64 (aa : Int), .string wd] 155)) w2.heap.size [.int .i64 kk, .int .i64 (aa : Int), .string wd]) := Bk.new _ _ _
  have hz2 : w1.heap.size ≤ w2.heap.size := HB2.out.size
  have hz1 : w.heap.size ≤ w1.heap.size := HK1.out.size
  clear HB2 HP1
  go_wp2_with fail
  refine (accept6q HP3.out _ (by simp)).mono ?_
  rintro r w4 ⟨rfl, hp, hk⟩
  rw [h6] at hp
  rw [h6]
  have HP4 : Hid (PS b c cap len s d σ1 w4) := hp
  have HK4 : Hid (Kept b w1 w4) := HK3.out.trans hk
  have HX4 : Hid (Bk w4 w2.heap.size [.int .i64 kk, .int .i64 (aa : Int), .string wd]) := HX3.out.kept hk (by omega)
  clear hp hk HP3 HK3 HX3
  go_wp2_with fail
  refine (accept1 HP4.out [105, 115] (by decide)).mono ?_
  rintro r w5 ⟨rfl, hp, hk⟩
  rw [take_no his] at hp
  rw [his]
  have HP5 : Hid (PS b c cap len s d σ1 w5) := hp
  have HK5 : Hid (Kept b w1 w5) := HK4.out.trans hk
  have HX5 : Hid (Bk w5 w2.heap.size [.int .i64 kk, .int .i64 (aa : Int), .string wd]) := HX4.out.kept hk (by omega)
  clear hp hk HP4 HK4 HX4
  go_wp2_with fail
  refine (accept1 HP5.out [110, 111, 116] (by decide)).mono ?_
  rintro r w6 ⟨rfl, hp, hk⟩
  rw [take_no hnot] at hp
  rw [hnot]
  have HP6 : Hid (PS b c cap len s d σ1 w6) := hp
  have HK6 : Hid (Kept b w1 w6) := HK5.out.trans hk
  have HX6 : Hid (Bk w6 w2.heap.size [.int .i64 kk, .int .i64 (aa : Int), .string wd]) := HX5.out.kept hk (by omega)
  clear hp hk HP5 HK5 HX5
  go_wp2_with fail
  refine (accept1 HP6.out [105, 110] (by decide)).mono ?_
  rintro r w7 ⟨rfl, hp, hk⟩
  rw [take_yes hin] at hp
  rw [hin]
  have HP7 : Hid (PS b c cap len s d (σ1.step s) w7) := hp
  have HK7 : Hid (Kept b w1 w7) := HK6.out.trans hk
  have HX7 : Hid (Bk w7 w2.heap.size [.int .i64 kk, .int .i64 (aa : Int), .string wd]) := HX6.out.kept hk (by omega)
  clear hp hk HP6 HK6 HX6
  have hx := HX7.out.lt
  have x0 := HX7.out.c 0 (by simp)
  have x1 := HX7.out.c 1 (by simp)
  have x2 := HX7.out.c 2 (by simp)
  simp only [List.getElem_cons_zero, List.getElem_cons_succ] at x0 x1 x2
  have HT : Hid (aa = σ1.at_ s ∧ wd = bz (σ1.word s)) := ⟨(HTK.out HNB.out.1).1, (HTK.out HNB.out.1).2 HNB.out.2⟩
  have hz7 := HK7.out.size
  go_wp2_with fail
  refine (within_any (HP7.out.alloc _) (by omega) _ _ _ _ _ _ (Sp.run s n .query (d + 1) (Sp.St.opened s [40] d (σ1.step s))) (Sp.tr s n .query (d + 1) .nil (Sp.St.opened s [40] d (σ1.step s))) (fun w' hp' => ((IH.out n (Nat.le_refl _)).query (d + 1) _ _ (by omega) (by show 32 * Sp.rem s _ + 15 ≤ n; omega) hp').mono fun _ _ h => h.rq)).mono ?_
  rintro r w8 ⟨qv, bb, rfl, hp8, hk8, ha8, hi8, hb8, hr8⟩
  have HP8 : Hid (PS b c cap len s d _ w8) := hp8
  have HK78 : Hid (Kept b (w7.alloc (.cells #[v1] 242)) w8) := hk8
  have HA8 : Hid (At w8 bb [.string wd, .int .i64 (aa : Int), .slice (some ⟨w7.heap.size, 0, none⟩) 1 1, qv]) := ha8
  have HI8 : Hid (IsIf qv) := hi8
  have HB8 : w7.heap.size + 1 ≤ bb := by simpa using hb8
  have HR8 : Hid (_) := hr8
  clear hp8 hk8 ha8 hi8 hb8 hr8 x0 x1 x2 hv1
  go_wp2_with fail
  go_ret
  refine ⟨_, rfl, by rw [HV.out]; exact HP8.out, HK1.out.trans ((HK7.out.alloc _).trans HK78.out), Or.inr ⟨_, _, rfl⟩, fun hl => ?_⟩
  rw [HV.out] at hl
  rw [HVT.out]
  obtain ⟨e1, e2⟩ := HT.out
  subst e1 e2
  have r8 := HR8.out hl
  have k7 : Kept b w7 w8 := ((Kept.refl b w7).alloc _).trans HK78.out
  exact Rp.within1 (((HR1.out HNB.out.1).keptN HI1.out.noSl HK7.out hbw (Nat.le_refl _)).keptN HI1.out.noSl k7 hbw (by omega)) HI1.out.noSl r8 HI8.out.noSl (Nat.le_refl _) (by omega) (by simp) HA8.out.1 (((Bk.new w7 _ _).kept HK78.out (by omega)).at_) HA8.out

set_option maxHeartbeats 2000000 in
theorem compare_not {b c cap len : Nat} {s : Sp.Bs} {n d : Nat} {σ : Sp.St} {w : World} (IH : Hid (∀ m, m ≤ n → All b c cap len s m)) (hd : d + (n + 1) ≤ 1000000) (hm : 32 * Sp.rem s σ + 6 ≤ n + 1) (hp : PS b c cap len s d σ w) (h6 : (Sp.run s n .sum d σ).isCmp s = false) (his : (Sp.run s n .sum d σ).is s [105, 115] = false) (hnot : (Sp.run s n .sum d σ).is s [110, 111, 116] = true) :
    Calls Tryz.prog 283 #[.pointer (some ⟨b, 0, none⟩)] w (PostV b c cap len s d (Sp.run s (n + 1) .compare d σ) w IsIf fun w' v => Rp w' (Sp.tr s (n + 1) .compare d .nil σ) w.heap.size w'.heap.size v) := by
  have hbw := hp.lb
  have hcw := hp.lc
  have hr := Sp.rem_run s n .sum d σ
  have HPA : Hid (PS b c cap len s d σ w) := hp
  clear hp
  have h1 := Sp.rem_step_lt hnot
  have h2 := Sp.rem_must s [105, 110] (Sp.St.step s (Sp.run s n .sum d σ))
  have h3 := Sp.rem_opened s [40] d (Sp.St.must s [105, 110] (Sp.St.step s (Sp.run s n .sum d σ)))
  have HNB : Hid ((Sp.run s n .sum d σ).isLive = true ∧ ∀ e, (Sp.run s n .sum d σ) = .live e → Sp.tokCl s e ≠ .bad) := ⟨Sp.live_is hnot, not_bad_is hnot⟩
  have HV : Hid (Sp.run s (n + 1) .compare d σ = Sp.St.must s [41] (Sp.run s n .query (d + 1) (Sp.St.opened s [40] d (Sp.St.must s [105, 110] (Sp.St.step s (Sp.run s n .sum d σ)))))) := by show _ = _; rw [Sp.run]; simp only [h6, his, hnot, if_true, if_false, Bool.false_eq_true]
  have HVT : Hid (Sp.tr s (n + 1) .compare d .nil σ = Sp.Nd.op (Sp.St.word s (Sp.run s n .sum d σ)) (Sp.St.at_ s (Sp.run s n .sum d σ)) (.cons (.within (Sp.St.word s (Sp.St.step s (Sp.run s n .sum d σ))) (Sp.St.at_ s (Sp.St.step s (Sp.run s n .sum d σ))) (.cons (Sp.tr s n .sum d .nil σ) .nil) (Sp.tr s n .query (d + 1) .nil (Sp.St.opened s [40] d (Sp.St.must s [105, 110] (Sp.St.step s (Sp.run s n .sum d σ)))))) .nil)) := by show _ = _; rw [Sp.tr]; simp only [h6, his, hnot, if_true, if_false, Bool.false_eq_true]
  go_enter Tryz.func283, Tryz.ntmps283
  go_wp2_with fail
  refine ((IH.out n (Nat.le_refl _)).sum d σ _ (by omega) (by show 32 * Sp.rem s σ + 5 ≤ n; omega) HPA.out).mono ?_
  rintro r w1 ⟨v1, rfl, hp1, hk1, hi1, hr1⟩
  obtain ⟨i, wd, hi, tc, PK⟩ := peek_any hp1
  have HTK : Hid ((Sp.run s n .sum d σ).isLive = true → Sp.tokAt s (pos s i) = (Sp.run s n .sum d σ).at_ s ∧ ((∀ e, (Sp.run s n .sum d σ) = .live e → Sp.tokCl s e ≠ .bad) → wd = bz ((Sp.run s n .sum d σ).word s))) := fun hl => tok_live hi tc hl
  have HP1 : Hid (PS b c cap len s d (Sp.run s n .sum d σ) w1) := hp1
  have HK1 : Hid (Kept b w w1) := hk1
  have HI1 : Hid (IsIf v1) := hi1
  have HR1 : Hid ((Sp.run s n .sum d σ).isLive = true → Rp w1 (Sp.tr s n .sum d .nil σ) w.heap.size w1.heap.size v1) := hr1
  have HPK : Hid (∀ w', w' = w1 → Calls Tryz.prog 75 #[.pointer (some ⟨b, 0, none⟩)] w' fun r w'' => r = .returned (.agg #[.int .i64 (kn (Sp.tokCl s (pos s i))), .int .i64 (Sp.tokAt s (pos s i) : Nat), .string wd]) ∧ Below w1.heap.size w1 w'') := fun w' e => by subst e; exact PK
  clear hp1 hk1 hi1 hr1 hi tc PK HPA
  generalize kn (Sp.tokCl s (pos s i)) = kk at HPK
  generalize Sp.tokAt s (pos s i) = aa at *
  generalize hσ : Sp.run s n .sum d σ = σ1 at *
  have hv1 := HI1.out.cells
  unfold Value.cells at hv1
  go_wp2_with fail
  refine (HPK.out _ rfl).mono ?_
  rintro r w2 ⟨rfl, hb2⟩
  have HB2 : Hid (Below w1.heap.size w1 w2) := hb2
  clear hb2 HPK
  have HP3 : Hid (PS b c cap len s d σ1 (w2.alloc (.cells #[.int .i64 kk, .int .i64 (aa : Int), .string wd] 155))) := (HP1.out.below HB2.out).alloc _
  have HK3 : Hid (Kept b w1 (w2.alloc (.cells #[.int .i64 kk, .int .i64 (aa : Int), .string wd] 155))) := (Kept.below HB2.out).alloc _
  have HX3 : Hid (Bk (w2.alloc (.cells #[.int .i64 kk, .int .i64 (aa : Int), .string wd] 155)) w2.heap.size [.int .i64 kk, .int .i64 (aa : Int), .string wd]) := Bk.new _ _ _
  have hz2 : w1.heap.size ≤ w2.heap.size := HB2.out.size
  have hz1 : w.heap.size ≤ w1.heap.size := HK1.out.size
  clear HB2 HP1
  go_wp2_with fail
  refine (accept6q HP3.out _ (by simp)).mono ?_
  rintro r w4 ⟨rfl, hp, hk⟩
  rw [h6] at hp
  rw [h6]
  have HP4 : Hid (PS b c cap len s d σ1 w4) := hp
  have HK4 : Hid (Kept b w1 w4) := HK3.out.trans hk
  have HX4 : Hid (Bk w4 w2.heap.size [.int .i64 kk, .int .i64 (aa : Int), .string wd]) := HX3.out.kept hk (by omega)
  clear hp hk HP3 HK3 HX3
  go_wp2_with fail
  refine (accept1 HP4.out [105, 115] (by decide)).mono ?_
  rintro r w5 ⟨rfl, hp, hk⟩
  rw [take_no his] at hp
  rw [his]
  have HP5 : Hid (PS b c cap len s d σ1 w5) := hp
  have HK5 : Hid (Kept b w1 w5) := HK4.out.trans hk
  have HX5 : Hid (Bk w5 w2.heap.size [.int .i64 kk, .int .i64 (aa : Int), .string wd]) := HX4.out.kept hk (by omega)
  clear hp hk HP4 HK4 HX4
  go_wp2_with fail
  refine (accept1 HP5.out [110, 111, 116] (by decide)).mono ?_
  rintro r w6 ⟨rfl, hp, hk⟩
  rw [take_yes hnot] at hp
  rw [hnot]
  have HP6 : Hid (PS b c cap len s d (σ1.step s) w6) := hp
  have HK6 : Hid (Kept b w1 w6) := HK5.out.trans hk
  have HX6 : Hid (Bk w6 w2.heap.size [.int .i64 kk, .int .i64 (aa : Int), .string wd]) := HX5.out.kept hk (by omega)
  clear hp hk HP5 HK5 HX5
  have HT : Hid (aa = σ1.at_ s ∧ wd = bz (σ1.word s)) := ⟨(HTK.out HNB.out.1).1, (HTK.out HNB.out.1).2 HNB.out.2⟩
  obtain ⟨i2, wd2, hi2, tc2, PK2⟩ := peek_any HP6.out
  have HTK2 : Hid (((σ1.step s).must s [105, 110]).isLive = true → Sp.tokAt s (pos s i2) = (σ1.step s).at_ s ∧ wd2 = bz ((σ1.step s).word s)) := fun hl => by
    have hl' := Sp.live_must hl
    have hi : (σ1.step s).is s [105, 110] = true := by
      cases hx : (σ1.step s).is s [105, 110]
      · rw [Sp.St.must, hx] at hl; exact (Sp.live_fail hl).elim
      · rfl
    have := tok_live hi2 tc2 hl'
    exact ⟨this.1, this.2 (not_bad_is hi)⟩
  have HPK2 : Hid (∀ w', w' = w6 → Calls Tryz.prog 75 #[.pointer (some ⟨b, 0, none⟩)] w' fun r w'' => r = .returned (.agg #[.int .i64 (kn (Sp.tokCl s (pos s i2))), .int .i64 (Sp.tokAt s (pos s i2) : Nat), .string wd2]) ∧ Below w6.heap.size w6 w'') := fun w' e => by subst e; exact PK2
  clear hi2 tc2 PK2
  generalize kn (Sp.tokCl s (pos s i2)) = kk2 at HPK2
  generalize Sp.tokAt s (pos s i2) = aa2 at *
  go_wp2_with fail
  refine (HPK2.out _ rfl).mono ?_
  rintro r w7 ⟨rfl, hb7⟩
  have hz7 := hb7.size
  have HP8 : Hid (PS b c cap len s d (σ1.step s) (w7.alloc (.cells #[.int .i64 kk2, .int .i64 (aa2 : Int), .string wd2] 155))) := (HP6.out.below hb7).alloc _
  have HK8 : Hid (Kept b w6 (w7.alloc (.cells #[.int .i64 kk2, .int .i64 (aa2 : Int), .string wd2] 155))) := (Kept.below hb7).alloc _
  have HY8 : Hid (Bk (w7.alloc (.cells #[.int .i64 kk2, .int .i64 (aa2 : Int), .string wd2] 155)) w7.heap.size [.int .i64 kk2, .int .i64 (aa2 : Int), .string wd2]) := Bk.new _ _ _
  clear hb7 HPK2
  have hz6 := HK6.out.size
  have hx6 := HX6.out.lt
  go_wp2_with fail
  refine (expectq HP8.out [105, 110] (by decide) _ (by simp)).mono ?_
  rintro r w9 ⟨rfl, hp9, hk9⟩
  have HP9 : Hid (PS b c cap len s d ((σ1.step s).must s [105, 110]) w9) := hp9
  have HK9 : Hid (Kept b w1 w9) := HK6.out.trans (HK8.out.trans hk9)
  have HX9 : Hid (Bk w9 w2.heap.size [.int .i64 kk, .int .i64 (aa : Int), .string wd]) := HX6.out.kept (HK8.out.trans hk9) (by omega)
  have HY9 : Hid (Bk w9 w7.heap.size [.int .i64 kk2, .int .i64 (aa2 : Int), .string wd2]) := HY8.out.kept hk9 (by omega)
  clear hp9 hk9 HP8 HK8 HY8 HX6
  have hx := HX9.out.lt
  have x0 := HX9.out.c 0 (by simp)
  have x1 := HX9.out.c 1 (by simp)
  have x2 := HX9.out.c 2 (by simp)
  simp only [List.getElem_cons_zero, List.getElem_cons_succ] at x0 x1 x2
  have hy := HY9.out.lt
  have y0 := HY9.out.c 0 (by simp)
  have y1 := HY9.out.c 1 (by simp)
  have y2 := HY9.out.c 2 (by simp)
  simp only [List.getElem_cons_zero, List.getElem_cons_succ] at y0 y1 y2
  have hz9 := HK9.out.size
  go_wp2_with fail
  go_region_with (first | (go_at_call 311; refine (within_any (HP9.out.alloc _).drew (by omega) _ _ _ _ _ _ (Sp.run s n .query (d + 1) (Sp.St.opened s [40] d ((σ1.step s).must s [105, 110]))) (Sp.tr s n .query (d + 1) .nil (Sp.St.opened s [40] d ((σ1.step s).must s [105, 110]))) (fun w' hp' => ((IH.out n (Nat.le_refl _)).query (d + 1) _ _ (by omega) (by show 32 * Sp.rem s _ + 15 ≤ n; omega) hp').mono fun _ _ h => h.rq)).mono ?_; rintro r w10 ⟨qv, bb, rfl, hp10, hk10, ha10, hi10, hb10, hr10⟩; have hX10 := (HX9.out.alloc (.cells #[v1] 242)).kept (((Kept.refl b _).drew).trans hk10) (by omega); have hu := hX10.lt; have u0 := hX10.c 0 (by simp); have u1 := hX10.c 1 (by simp); have u2 := hX10.c 2 (by simp); simp only [List.getElem_cons_zero, List.getElem_cons_succ] at u0 u1 u2) | (go_at_call 252; refine (operation_any _ _ _ _ _ _ _).mono ?_; rintro e w11 ⟨rfl, rfl⟩))
  all_goals
    have HK10 : Hid (Kept b (w9.alloc (.cells #[v1] 242)) w10) := ((Kept.refl b _).drew).trans hk10
    have HP10 : Hid (PS b c cap len s d _ w10) := hp10
    have HA10 : Hid (At w10 bb [.string wd2, .int .i64 (aa2 : Int), .slice (some ⟨w9.heap.size, 0, none⟩) 1 1, qv]) := ha10
    have HI10 : Hid (IsIf qv) := hi10
    have HB10 : w9.heap.size + 1 ≤ bb := by have e : (w9.alloc (.cells #[v1] 242)).drew.heap.size = (w9.alloc (.cells #[v1] 242)).heap.size := rfl
                                            rw [e] at hb10; simpa using hb10
    have HR10 : Hid (_ → Rp w10 _ (w9.alloc (.cells #[v1] 242)).heap.size bb qv) := hr10
    clear hp10 hk10 ha10 hi10 hb10 hr10 x0 x1 x2 y0 y1 y2 hv1 hX10 u0 u1 u2
    go_wp2_with fail
    go_ret
    refine ⟨_, rfl, by rw [HV.out]; exact ((HP10.out.alloc _).alloc _).alloc _, HK1.out.trans (((((HK9.out.alloc _).trans HK10.out).alloc _).alloc _).alloc _), Or.inr ⟨_, _, rfl⟩, fun hl => ?_⟩
    rw [HV.out] at hl
    rw [HVT.out]
    have hl2 := Sp.live_opened (Sp.live_run (Sp.live_must hl))
    obtain ⟨e1, e2⟩ := HT.out
    subst e1 e2
    obtain ⟨e3, e4⟩ := HTK2.out hl2
    subst e3 e4
    have r10 := HR10.out hl
    have k9 : Kept b w9 w10 := ((Kept.refl b w9).alloc _).trans HK10.out
    have hz10 := k9.size
    have hK : ∀ x y z : Obj, Kept b w10 (((w10.alloc x).alloc y).alloc z) := fun x y z => (((Kept.refl b w10).alloc x).alloc y).alloc z
    have R := Rp.within1 (hi := w10.heap.size) (((HR1.out HNB.out.1).keptN HI1.out.noSl HK9.out hbw (Nat.le_refl _)).keptN HI1.out.noSl k9 hbw (by omega)) HI1.out.noSl r10 HI10.out.noSl (Nat.le_refl _) (by omega) (by simp) HA10.out.1 (((Bk.new w9 _ _).kept HK10.out (by omega)).at_) HA10.out
    refine Rp.op1 (R.keptN (NoSl.iface _ _) (hK _ _ _) hbw (Nat.le_refl _)) (NoSl.iface _ _) (Nat.le_refl _) (Nat.le_refl _) (by omega) (by simp) (((Bk.new w10 _ _).alloc _).alloc _).at_ ?_
    have := (Bk.new ((w10.alloc (.cells #[.iface 367 (.pointer (some ⟨bb, 0, none⟩))] 242)).alloc (.cells #[.int .i64 kk, .int .i64 (Sp.St.at_ s σ1 : Nat), .string (bz (Sp.St.word s σ1))] 155)) #[.string (bz (Sp.St.word s σ1)), .int .i64 (Sp.St.at_ s σ1 : Nat), .slice (some ⟨w10.heap.size, 0, none⟩) 1 1] 379).at_
    simpa using this

set_option maxHeartbeats 1000000 in
theorem compare_step {b c cap len : Nat} {s : Sp.Bs} {n : Nat} (IH : Hid (∀ m, m ≤ n → All b c cap len s m)) : Sd b c cap len s (n + 1) .compare IsIf 283 := by
  intro d σ w hd hm hp
  have hm' : 32 * Sp.rem s σ + 6 ≤ n + 1 := hm
  cases h6 : (Sp.run s n .sum d σ).isCmp s
  · cases his : (Sp.run s n .sum d σ).is s [105, 115]
    · cases hnot : (Sp.run s n .sum d σ).is s [110, 111, 116]
      · cases hin : (Sp.run s n .sum d σ).is s [105, 110]
        · exact compare_none IH hd hm' hp h6 his hnot hin
        · exact compare_in IH hd hm' hp h6 his hnot hin
      · exact compare_not IH hd hm' hp h6 his hnot
    · exact compare_is IH hd hm' hp h6 his
  · exact compare_cmp IH hd hm' hp h6

end Go.Proofs.YtgnncnhkgmhngaaGreatDoor
