import Derived.Test.YtpgeiieapkbjhaaGreatDoorP5
namespace Go.Proofs.YtpgeiieapkbjhaaGreatDoor
open Go.RowKit

/-- One thing more is open, or one less. -/
theorem PS.deep {b c cap len : Nat} {s : Sp.Bs} {d d' : Nat} {σ : Sp.St} {w : World} (h : PS b c cap len s d σ w) (q : Int) (hq : q = (d' : Int)) : PS b c cap len s d' σ (w.setCell ⟨b, 2, none⟩ (.int .i64 q)) := by
  subst hq
  obtain ⟨j, hj, h1⟩ := h.h1
  have h0 := h.h0
  have h2 := h.h2
  have h3 := h.h3
  have h4 := h.h4
  have FZ : Hid (∀ o, w.frozen? ⟨b, o, none⟩ = false) := h.fz
  exact h.next ((Kept.refl b w).setCell 2 _) (by clear FZ; go_simp) j hj (by clear FZ h3 h4; go_simp) (by clear FZ h3 h4; go_simp) (by clear FZ h4; go_simp) (by clear FZ h3; go_simp) (fun o => by have := FZ.out o; clear FZ h3 h4; go_simp)

theorem opened_eq (s : Sp.Bs) (z : Sp.Bs) (d : Nat) (σ : Sp.St) (len i : Nat) (h : IX s len i σ) :
    (if 16 < d + 1 then failAt 3 (Sp.tokAt s (pos s i)) (σ.must s z) else σ.must s z) = σ.opened s z d := by
  unfold Sp.St.opened Sp.St.must Sp.St.openT
  cases σ with
  | live e =>
    rw [h.2]
    cases hs : Sp.St.is s z (.live e)
    · simp only [Bool.false_eq_true, if_false]
      split <;> rfl
    · simp only [if_true]
      split <;> rfl
  | dead x a =>
    simp only [Sp.St.is, Bool.false_eq_true, if_false, Sp.St.fail]
    split <;> rfl

set_option maxHeartbeats 2000000 in
theorem opened_no {b c cap len : Nat} {s : Sp.Bs} {d : Nat} {σ : Sp.St} {w : World} (h : PS b c cap len s d σ w) (z : Sp.Bs) (hf : z ∈ fixd) (hd : d ≤ 1000000) (F : Sp.St → Sp.St)
    (hin : ∀ w', Kept b w w' → PS b c cap len s (d + 1) (σ.opened s z d) w' → Calls Tryz.prog 126 #[.pointer (some ⟨b, 0, none⟩)] w' (Post b c cap len s (d + 1) (F (σ.opened s z d)) w')) :
    Calls Tryz.prog 137 #[.pointer (some ⟨b, 0, none⟩), .string ⟨z.toArray⟩, .func (.func 126) #[.pointer (some ⟨b, 0, none⟩)] #[]] w (Post b c cap len s d (F (σ.opened s z d)) w) := by
  have HIN : Hid (∀ w', Kept b w w' → PS b c cap len s (d + 1) (σ.opened s z d) w' → Calls Tryz.prog 126 #[.pointer (some ⟨b, 0, none⟩)] w' (Post b c cap len s (d + 1) (F (σ.opened s z d)) w')) := hin
  clear hin
  obtain ⟨i, hi, h1⟩ := h.h1
  have h0 := h.h0
  obtain ⟨wd, tc⟩ := h.tc i hi.lt
  have hil := hi.lt
  have ta := tc.a
  have lt := h.tk.top
  have OE := opened_eq s z d σ len i hi
  have HH : Hid (PS b c cap len s d σ w) := h
  clear h tc hi
  by_cases h16 : 16 < d + 1
  · have HO : Hid (failAt 3 (Sp.tokAt s (pos s i)) (σ.must s z) = σ.opened s z d) := by show _ = _; rw [← OE, if_pos h16]
    clear OE
    go_enter Tryz.func137, Tryz.ntmps137
    go_wp2_with fail
    go_quiet (fail)
    go_wp2_with fail
    refine (expect_any (HH.out.drewN _) z hf).mono ?_
    rintro r w1 ⟨rfl, hp1, hk1⟩
    have c2 := hp1.h2
    have f2 := hp1.fz 2
    have HP1 : Hid (PS b c cap len s d (σ.must s z) w1) := hp1
    have HK1 : Hid (Kept b w w1) := ((Kept.refl b w).drewN _).trans hk1
    clear hp1 hk1
    go_wp2_with fail
    refine (pfail_any (HP1.out.deep (d' := d + 1) _ rfl) 3 _ (by decide)).mono ?_
    rintro r w2 ⟨rfl, hp2, hk2⟩
    rw [HO.out] at hp2
    have HP2 : Hid (PS b c cap len s (d + 1) (σ.opened s z d) w2) := hp2
    have HK2 : Hid (Kept b w w2) := (HK1.out.setCell 2 _).trans hk2
    clear hp2 hk2 c2 f2
    go_wp2_with fail
    refine (HIN.out _ HK2.out HP2.out).mono ?_
    rintro r w3 ⟨rfl, hp3, hk3⟩
    have c2 := hp3.h2
    have f2 := hp3.fz 2
    have HP3 : Hid (PS b c cap len s (d + 1) (F (σ.opened s z d)) w3) := hp3
    have HK3 : Hid (Kept b w w3) := HK2.out.trans hk3
    clear hp3 hk3
    go_wp2_with fail
    go_end0
    exact ⟨rfl, HP3.out.deep (d' := d) _ (by omega), HK3.out.setCell 2 _⟩
  · have HO : Hid (σ.must s z = σ.opened s z d) := by show _ = _; rw [← OE, if_neg h16]
    clear OE
    go_enter Tryz.func137, Tryz.ntmps137
    go_wp2_with fail
    go_quiet (fail)
    go_wp2_with fail
    refine (expect_any (HH.out.drewN _) z hf).mono ?_
    rintro r w1 ⟨rfl, hp1, hk1⟩
    have c2 := hp1.h2
    have f2 := hp1.fz 2
    rw [HO.out] at hp1
    have HP1 : Hid (PS b c cap len s d (σ.opened s z d) w1) := hp1
    have HK1 : Hid (Kept b w w1) := ((Kept.refl b w).drewN _).trans hk1
    clear hp1 hk1
    go_wp2_with fail
    refine (HIN.out _ (HK1.out.setCell 2 _) (HP1.out.deep (d' := d + 1) _ rfl)).mono ?_
    rintro r w3 ⟨rfl, hp3, hk3⟩
    clear c2 f2
    have c2 := hp3.h2
    have f2 := hp3.fz 2
    have HP3 : Hid (PS b c cap len s (d + 1) (F (σ.opened s z d)) w3) := hp3
    have HK3 : Hid (Kept b w w3) := (HK1.out.setCell 2 _).trans hk3
    clear hp3 hk3
    go_wp2_with fail
    go_end0
    exact ⟨rfl, HP3.out.deep (d' := d) _ (by omega), HK3.out.setCell 2 _⟩

set_option maxHeartbeats 2000000 in
theorem opened_unary {b c cap len : Nat} {s : Sp.Bs} {d : Nat} {σ : Sp.St} {w : World} (h : PS b c cap len s d σ w) (z : Sp.Bs) (hf : z ∈ fixd) (hd : d ≤ 1000000) (F : Sp.St → Sp.St)
    (hin : ∀ w', Kept b w w' → PS b c cap len s (d + 1) (σ.opened s z d) w' → Calls Tryz.prog 153 #[.pointer (some ⟨b, 0, none⟩)] w' (Post b c cap len s (d + 1) (F (σ.opened s z d)) w')) :
    Calls Tryz.prog 137 #[.pointer (some ⟨b, 0, none⟩), .string ⟨z.toArray⟩, .func (.func 153) #[.pointer (some ⟨b, 0, none⟩)] #[]] w (Post b c cap len s d (F (σ.opened s z d)) w) := by
  have HIN : Hid (∀ w', Kept b w w' → PS b c cap len s (d + 1) (σ.opened s z d) w' → Calls Tryz.prog 153 #[.pointer (some ⟨b, 0, none⟩)] w' (Post b c cap len s (d + 1) (F (σ.opened s z d)) w')) := hin
  clear hin
  obtain ⟨i, hi, h1⟩ := h.h1
  have h0 := h.h0
  obtain ⟨wd, tc⟩ := h.tc i hi.lt
  have hil := hi.lt
  have ta := tc.a
  have lt := h.tk.top
  have OE := opened_eq s z d σ len i hi
  have HH : Hid (PS b c cap len s d σ w) := h
  clear h tc hi
  by_cases h16 : 16 < d + 1
  · have HO : Hid (failAt 3 (Sp.tokAt s (pos s i)) (σ.must s z) = σ.opened s z d) := by show _ = _; rw [← OE, if_pos h16]
    clear OE
    go_enter Tryz.func137, Tryz.ntmps137
    go_wp2_with fail
    go_quiet (fail)
    go_wp2_with fail
    refine (expect_any (HH.out.drewN _) z hf).mono ?_
    rintro r w1 ⟨rfl, hp1, hk1⟩
    have c2 := hp1.h2
    have f2 := hp1.fz 2
    have HP1 : Hid (PS b c cap len s d (σ.must s z) w1) := hp1
    have HK1 : Hid (Kept b w w1) := ((Kept.refl b w).drewN _).trans hk1
    clear hp1 hk1
    go_wp2_with fail
    refine (pfail_any (HP1.out.deep (d' := d + 1) _ rfl) 3 _ (by decide)).mono ?_
    rintro r w2 ⟨rfl, hp2, hk2⟩
    rw [HO.out] at hp2
    have HP2 : Hid (PS b c cap len s (d + 1) (σ.opened s z d) w2) := hp2
    have HK2 : Hid (Kept b w w2) := (HK1.out.setCell 2 _).trans hk2
    clear hp2 hk2 c2 f2
    go_wp2_with fail
    refine (HIN.out _ HK2.out HP2.out).mono ?_
    rintro r w3 ⟨rfl, hp3, hk3⟩
    have c2 := hp3.h2
    have f2 := hp3.fz 2
    have HP3 : Hid (PS b c cap len s (d + 1) (F (σ.opened s z d)) w3) := hp3
    have HK3 : Hid (Kept b w w3) := HK2.out.trans hk3
    clear hp3 hk3
    go_wp2_with fail
    go_end0
    exact ⟨rfl, HP3.out.deep (d' := d) _ (by omega), HK3.out.setCell 2 _⟩
  · have HO : Hid (σ.must s z = σ.opened s z d) := by show _ = _; rw [← OE, if_neg h16]
    clear OE
    go_enter Tryz.func137, Tryz.ntmps137
    go_wp2_with fail
    go_quiet (fail)
    go_wp2_with fail
    refine (expect_any (HH.out.drewN _) z hf).mono ?_
    rintro r w1 ⟨rfl, hp1, hk1⟩
    have c2 := hp1.h2
    have f2 := hp1.fz 2
    rw [HO.out] at hp1
    have HP1 : Hid (PS b c cap len s d (σ.opened s z d) w1) := hp1
    have HK1 : Hid (Kept b w w1) := ((Kept.refl b w).drewN _).trans hk1
    clear hp1 hk1
    go_wp2_with fail
    refine (HIN.out _ (HK1.out.setCell 2 _) (HP1.out.deep (d' := d + 1) _ rfl)).mono ?_
    rintro r w3 ⟨rfl, hp3, hk3⟩
    clear c2 f2
    have c2 := hp3.h2
    have f2 := hp3.fz 2
    have HP3 : Hid (PS b c cap len s (d + 1) (F (σ.opened s z d)) w3) := hp3
    have HK3 : Hid (Kept b w w3) := (HK1.out.setCell 2 _).trans hk3
    clear hp3 hk3
    go_wp2_with fail
    go_end0
    exact ⟨rfl, HP3.out.deep (d' := d) _ (by omega), HK3.out.setCell 2 _⟩

set_option maxHeartbeats 2000000 in
theorem opened_arms {b c cap len : Nat} {s : Sp.Bs} {d : Nat} {σ : Sp.St} {w : World} (h : PS b c cap len s d σ w) (z : Sp.Bs) (hf : z ∈ fixd) (hd : d ≤ 1000000) (F : Sp.St → Sp.St)
    (hin : ∀ w', Kept b w w' → PS b c cap len s (d + 1) (σ.opened s z d) w' → Calls Tryz.prog 168 #[.pointer (some ⟨b, 0, none⟩)] w' (Post b c cap len s (d + 1) (F (σ.opened s z d)) w')) :
    Calls Tryz.prog 137 #[.pointer (some ⟨b, 0, none⟩), .string ⟨z.toArray⟩, .func (.func 168) #[.pointer (some ⟨b, 0, none⟩)] #[]] w (Post b c cap len s d (F (σ.opened s z d)) w) := by
  have HIN : Hid (∀ w', Kept b w w' → PS b c cap len s (d + 1) (σ.opened s z d) w' → Calls Tryz.prog 168 #[.pointer (some ⟨b, 0, none⟩)] w' (Post b c cap len s (d + 1) (F (σ.opened s z d)) w')) := hin
  clear hin
  obtain ⟨i, hi, h1⟩ := h.h1
  have h0 := h.h0
  obtain ⟨wd, tc⟩ := h.tc i hi.lt
  have hil := hi.lt
  have ta := tc.a
  have lt := h.tk.top
  have OE := opened_eq s z d σ len i hi
  have HH : Hid (PS b c cap len s d σ w) := h
  clear h tc hi
  by_cases h16 : 16 < d + 1
  · have HO : Hid (failAt 3 (Sp.tokAt s (pos s i)) (σ.must s z) = σ.opened s z d) := by show _ = _; rw [← OE, if_pos h16]
    clear OE
    go_enter Tryz.func137, Tryz.ntmps137
    go_wp2_with fail
    go_quiet (fail)
    go_wp2_with fail
    refine (expect_any (HH.out.drewN _) z hf).mono ?_
    rintro r w1 ⟨rfl, hp1, hk1⟩
    have c2 := hp1.h2
    have f2 := hp1.fz 2
    have HP1 : Hid (PS b c cap len s d (σ.must s z) w1) := hp1
    have HK1 : Hid (Kept b w w1) := ((Kept.refl b w).drewN _).trans hk1
    clear hp1 hk1
    go_wp2_with fail
    refine (pfail_any (HP1.out.deep (d' := d + 1) _ rfl) 3 _ (by decide)).mono ?_
    rintro r w2 ⟨rfl, hp2, hk2⟩
    rw [HO.out] at hp2
    have HP2 : Hid (PS b c cap len s (d + 1) (σ.opened s z d) w2) := hp2
    have HK2 : Hid (Kept b w w2) := (HK1.out.setCell 2 _).trans hk2
    clear hp2 hk2 c2 f2
    go_wp2_with fail
    refine (HIN.out _ HK2.out HP2.out).mono ?_
    rintro r w3 ⟨rfl, hp3, hk3⟩
    have c2 := hp3.h2
    have f2 := hp3.fz 2
    have HP3 : Hid (PS b c cap len s (d + 1) (F (σ.opened s z d)) w3) := hp3
    have HK3 : Hid (Kept b w w3) := HK2.out.trans hk3
    clear hp3 hk3
    go_wp2_with fail
    go_end0
    exact ⟨rfl, HP3.out.deep (d' := d) _ (by omega), HK3.out.setCell 2 _⟩
  · have HO : Hid (σ.must s z = σ.opened s z d) := by show _ = _; rw [← OE, if_neg h16]
    clear OE
    go_enter Tryz.func137, Tryz.ntmps137
    go_wp2_with fail
    go_quiet (fail)
    go_wp2_with fail
    refine (expect_any (HH.out.drewN _) z hf).mono ?_
    rintro r w1 ⟨rfl, hp1, hk1⟩
    have c2 := hp1.h2
    have f2 := hp1.fz 2
    rw [HO.out] at hp1
    have HP1 : Hid (PS b c cap len s d (σ.opened s z d) w1) := hp1
    have HK1 : Hid (Kept b w w1) := ((Kept.refl b w).drewN _).trans hk1
    clear hp1 hk1
    go_wp2_with fail
    refine (HIN.out _ (HK1.out.setCell 2 _) (HP1.out.deep (d' := d + 1) _ rfl)).mono ?_
    rintro r w3 ⟨rfl, hp3, hk3⟩
    clear c2 f2
    have c2 := hp3.h2
    have f2 := hp3.fz 2
    have HP3 : Hid (PS b c cap len s (d + 1) (F (σ.opened s z d)) w3) := hp3
    have HK3 : Hid (Kept b w w3) := (HK1.out.setCell 2 _).trans hk3
    clear hp3 hk3
    go_wp2_with fail
    go_end0
    exact ⟨rfl, HP3.out.deep (d' := d) _ (by omega), HK3.out.setCell 2 _⟩

set_option maxHeartbeats 2000000 in
theorem opened_encl {b c cap len : Nat} {s : Sp.Bs} {d : Nat} {σ : Sp.St} {w : World} (h : PS b c cap len s d σ w) (z : Sp.Bs) (hf : z ∈ fixd) (hd : d ≤ 1000000) (qi qp : Nat) (F : Sp.St → Sp.St)
    (hin : ∀ w', Kept b w w' → PS b c cap len s (d + 1) (σ.opened s z d) w' → Calls Tryz.prog 139 #[.pointer (some ⟨qi, 0, none⟩), .pointer (some ⟨qp, 0, none⟩)] w' (Post b c cap len s (d + 1) (F (σ.opened s z d)) w')) :
    Calls Tryz.prog 137 #[.pointer (some ⟨b, 0, none⟩), .string ⟨z.toArray⟩, .func (.func 139) #[] #[.pointer (some ⟨qi, 0, none⟩), .pointer (some ⟨qp, 0, none⟩)]] w (Post b c cap len s d (F (σ.opened s z d)) w) := by
  have HIN : Hid (∀ w', Kept b w w' → PS b c cap len s (d + 1) (σ.opened s z d) w' → Calls Tryz.prog 139 #[.pointer (some ⟨qi, 0, none⟩), .pointer (some ⟨qp, 0, none⟩)] w' (Post b c cap len s (d + 1) (F (σ.opened s z d)) w')) := hin
  clear hin
  obtain ⟨i, hi, h1⟩ := h.h1
  have h0 := h.h0
  obtain ⟨wd, tc⟩ := h.tc i hi.lt
  have hil := hi.lt
  have ta := tc.a
  have lt := h.tk.top
  have OE := opened_eq s z d σ len i hi
  have HH : Hid (PS b c cap len s d σ w) := h
  clear h tc hi
  by_cases h16 : 16 < d + 1
  · have HO : Hid (failAt 3 (Sp.tokAt s (pos s i)) (σ.must s z) = σ.opened s z d) := by show _ = _; rw [← OE, if_pos h16]
    clear OE
    go_enter Tryz.func137, Tryz.ntmps137
    go_wp2_with fail
    go_quiet (fail)
    go_wp2_with fail
    refine (expect_any (HH.out.drewN _) z hf).mono ?_
    rintro r w1 ⟨rfl, hp1, hk1⟩
    have c2 := hp1.h2
    have f2 := hp1.fz 2
    have HP1 : Hid (PS b c cap len s d (σ.must s z) w1) := hp1
    have HK1 : Hid (Kept b w w1) := ((Kept.refl b w).drewN _).trans hk1
    clear hp1 hk1
    go_wp2_with fail
    refine (pfail_any (HP1.out.deep (d' := d + 1) _ rfl) 3 _ (by decide)).mono ?_
    rintro r w2 ⟨rfl, hp2, hk2⟩
    rw [HO.out] at hp2
    have HP2 : Hid (PS b c cap len s (d + 1) (σ.opened s z d) w2) := hp2
    have HK2 : Hid (Kept b w w2) := (HK1.out.setCell 2 _).trans hk2
    clear hp2 hk2 c2 f2
    go_wp2_with fail
    refine (HIN.out _ HK2.out HP2.out).mono ?_
    rintro r w3 ⟨rfl, hp3, hk3⟩
    have c2 := hp3.h2
    have f2 := hp3.fz 2
    have HP3 : Hid (PS b c cap len s (d + 1) (F (σ.opened s z d)) w3) := hp3
    have HK3 : Hid (Kept b w w3) := HK2.out.trans hk3
    clear hp3 hk3
    go_wp2_with fail
    go_end0
    exact ⟨rfl, HP3.out.deep (d' := d) _ (by omega), HK3.out.setCell 2 _⟩
  · have HO : Hid (σ.must s z = σ.opened s z d) := by show _ = _; rw [← OE, if_neg h16]
    clear OE
    go_enter Tryz.func137, Tryz.ntmps137
    go_wp2_with fail
    go_quiet (fail)
    go_wp2_with fail
    refine (expect_any (HH.out.drewN _) z hf).mono ?_
    rintro r w1 ⟨rfl, hp1, hk1⟩
    have c2 := hp1.h2
    have f2 := hp1.fz 2
    rw [HO.out] at hp1
    have HP1 : Hid (PS b c cap len s d (σ.opened s z d) w1) := hp1
    have HK1 : Hid (Kept b w w1) := ((Kept.refl b w).drewN _).trans hk1
    clear hp1 hk1
    go_wp2_with fail
    refine (HIN.out _ (HK1.out.setCell 2 _) (HP1.out.deep (d' := d + 1) _ rfl)).mono ?_
    rintro r w3 ⟨rfl, hp3, hk3⟩
    clear c2 f2
    have c2 := hp3.h2
    have f2 := hp3.fz 2
    have HP3 : Hid (PS b c cap len s (d + 1) (F (σ.opened s z d)) w3) := hp3
    have HK3 : Hid (Kept b w w3) := (HK1.out.setCell 2 _).trans hk3
    clear hp3 hk3
    go_wp2_with fail
    go_end0
    exact ⟨rfl, HP3.out.deep (d' := d) _ (by omega), HK3.out.setCell 2 _⟩

end Go.Proofs.YtpgeiieapkbjhaaGreatDoor
