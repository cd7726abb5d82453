import Derived.Test.YtgnncnhkgmhngaaGreatDoorQ2
namespace Go.Proofs.YtgnncnhkgmhngaaGreatDoor
open Go.RowKit

/-- A node, with the block of its slice. -/
def Rq (w : World) (nd : Sp.Nd) (lo hi : Nat) (v : Value) : Prop := Rp w nd lo hi v ∧ SIn lo hi v
theorem Rp.rq {w : World} {nd : Sp.Nd} {lo hi : Nat} {v : Value} (h : Rp w nd lo hi v) (n : NoSl v) : Rq w nd lo hi v := ⟨h, n.sin _ _⟩
theorem Rq.kept {b : Nat} {w w' : World} {nd : Sp.Nd} {lo hi : Nat} {x : Value} (h : Rq w nd lo hi x) (k : Kept b w w') (hb : b < lo) (hhi : hi ≤ w.heap.size) : Rq w' nd lo hi x := ⟨h.1.kept k hb hhi h.2, h.2⟩
theorem Rq.wide {w : World} {nd : Sp.Nd} {lo hi lo' hi' : Nat} {x : Value} (h : Rq w nd lo hi x) (a : lo' ≤ lo) (b : hi ≤ hi') : Rq w nd lo' hi' x := ⟨Rp.wide _ _ _ _ _ _ h.1 a b, h.2.wide a b⟩

/-- One thing more is open, or one less. -/
theorem PS.deep {b c cap len : Nat} {s : Sp.Bs} {d d' : Nat} {σ : Sp.St} {w : World} (h : PS b c cap len s d σ w) (q : Int) (hq : q = (d' : Int)) : PS b c cap len s d' σ (w.setCell ⟨b, 2, none⟩ (.int .i64 q)) := by
  subst hq
  obtain ⟨j, hj, h1⟩ := h.h1
  have h0 := h.h0
  have h2 := h.h2
  have h3 := h.h3
  have h4 := h.h4
  have FZ : Hid (∀ o, w.frozen? ⟨b, o, none⟩ = false) := h.fz
  exact h.next ((Kept.refl b w).setCell 2 _) (by clear FZ; go_simp) j hj (by clear FZ h3 h4; go_simp) (by clear FZ h3 h4; go_simp) (by clear FZ h4; go_simp) (by clear FZ h3; go_simp) (fun o => by have := FZ.out o; clear FZ h3 h4; go_simp)

theorem opened_eq (s : Sp.Bs) (z : Sp.Bs) (d : Nat) (σ : Sp.St) (len i : Nat) (h : IX s len i σ) :
    (if 16 < d + 1 then failAt 3 (Sp.tokAt s (pos s i)) (σ.must s z) else σ.must s z) = σ.opened s z d := by
  unfold Sp.St.opened Sp.St.must Sp.St.openT
  cases σ with
  | live e =>
    rw [h.2]
    cases hs : Sp.St.is s z (.live e)
    · simp only [Bool.false_eq_true, if_false]
      split <;> rfl
    · simp only [if_true]
      split <;> rfl
  | dead x a =>
    simp only [Sp.St.is, Bool.false_eq_true, if_false, Sp.St.fail]
    split <;> rfl

set_option maxHeartbeats 2000000 in
theorem opened_no {b c cap len : Nat} {s : Sp.Bs} {d : Nat} {σ : Sp.St} {w : World} (h : PS b c cap len s d σ w) (z : Sp.Bs) (hf : z ∈ fixd) (hd : d ≤ 1000000) (τ : Sp.St) (nd : Sp.Nd)
    (hin : ∀ w', Kept b w w' → PS b c cap len s (d + 1) (σ.opened s z d) w' → Calls Tryz.prog 253 #[.pointer (some ⟨b, 0, none⟩)] w' (PostV b c cap len s (d + 1) τ w' IsIf fun w'' v => Rq w'' nd w'.heap.size w''.heap.size v)) :
    Calls Tryz.prog 308 #[.pointer (some ⟨b, 0, none⟩), .string ⟨z.toArray⟩, .func (.func 253) #[.pointer (some ⟨b, 0, none⟩)] #[]] w (PostV b c cap len s d τ w IsIf fun w'' v => Rq w'' nd w.heap.size w''.heap.size v) := by
  have HIN : Hid (∀ w', Kept b w w' → PS b c cap len s (d + 1) (σ.opened s z d) w' → Calls Tryz.prog 253 #[.pointer (some ⟨b, 0, none⟩)] w' (PostV b c cap len s (d + 1) τ w' IsIf fun w'' v => Rq w'' nd w'.heap.size w''.heap.size v)) := hin
  clear hin
  have hbw := h.lb
  obtain ⟨i, wd, hi, tc, P⟩ := peek_any h
  have OE := opened_eq s z d σ len i hi
  have HH : Hid (PS b c cap len s d σ w) := h
  have HPK : Hid (∀ w', w' = w → Calls Tryz.prog 75 #[.pointer (some ⟨b, 0, none⟩)] w' fun r w'' => r = .returned (.agg #[.int .i64 (kn (Sp.tokCl s (pos s i))), .int .i64 (Sp.tokAt s (pos s i) : Nat), .string wd]) ∧ Below w.heap.size w w'') := fun w' e => by subst e; exact P
  clear h tc hi P
  generalize kn (Sp.tokCl s (pos s i)) = kk at *
  generalize Sp.tokAt s (pos s i) = aa at *
  have hfd := tokF1
  by_cases h16 : 16 < d + 1
  · have HO : Hid (failAt 3 aa (σ.must s z) = σ.opened s z d) := by show _ = _; rw [← OE, if_pos h16]
    clear OE
    go_enter Tryz.func308, Tryz.ntmps308
    go_wp2_with fail
    refine (HPK.out _ rfl).mono ?_
    rintro r w0 ⟨rfl, hb0⟩
    have HP0 : Hid (PS b c cap len s d σ w0) := HH.out.below hb0
    have HK0 : Hid (Kept b w w0) := Kept.below hb0
    clear hb0
    go_wp2_with fail
    refine (expect_any HP0.out z hf).mono ?_
    rintro r w1 ⟨rfl, hp1, hk1⟩
    have c2 := hp1.h2
    have f2 := hp1.fz 2
    have HP1 : Hid (PS b c cap len s d (σ.must s z) w1) := hp1
    have HK1 : Hid (Kept b w w1) := HK0.out.trans hk1
    clear hp1 hk1
    go_wp2_with fail
    refine (pfail_any (HP1.out.deep (d' := d + 1) _ rfl) 3 _ (by decide)).mono ?_
    rintro r w2 ⟨rfl, hp2, hk2⟩
    rw [HO.out] at hp2
    have HP2 : Hid (PS b c cap len s (d + 1) (σ.opened s z d) w2) := hp2
    have HK2 : Hid (Kept b w w2) := (HK1.out.setCell 2 _).trans hk2
    clear hp2 hk2 c2 f2
    go_wp2_with fail
    refine (HIN.out _ HK2.out HP2.out).mono ?_
    rintro r w3 ⟨v3, rfl, hp3, hk3, hi3, hr3⟩
    have c2 := hp3.h2
    have f2 := hp3.fz 2
    have HP3 : Hid (PS b c cap len s (d + 1) τ w3) := hp3
    have HK3 : Hid (Kept b w w3) := HK2.out.trans hk3
    have HI3 : Hid (IsIf v3) := hi3
    have HR3 : Hid (τ.isLive = true → Rq w3 nd w2.heap.size w3.heap.size v3) := hr3
    have hz := HK2.out.size
    clear hp3 hk3 hi3 hr3
    go_wp2_with fail
    go_ret
    exact ⟨_, rfl, HP3.out.deep (d' := d) _ (by omega), HK3.out.setCell 2 _, HI3.out, fun hl => ((HR3.out hl).kept ((Kept.refl b w3).setCell 2 _) (by omega) (Nat.le_refl _)).wide (by omega) (by simp [World.setCell])⟩
  · have HO : Hid (σ.must s z = σ.opened s z d) := by show _ = _; rw [← OE, if_neg h16]
    clear OE
    go_enter Tryz.func308, Tryz.ntmps308
    go_wp2_with fail
    refine (HPK.out _ rfl).mono ?_
    rintro r w0 ⟨rfl, hb0⟩
    have HP0 : Hid (PS b c cap len s d σ w0) := HH.out.below hb0
    have HK0 : Hid (Kept b w w0) := Kept.below hb0
    clear hb0
    go_wp2_with fail
    refine (expect_any HP0.out z hf).mono ?_
    rintro r w1 ⟨rfl, hp1, hk1⟩
    have c2 := hp1.h2
    have f2 := hp1.fz 2
    rw [HO.out] at hp1
    have HP1 : Hid (PS b c cap len s d (σ.opened s z d) w1) := hp1
    have HK1 : Hid (Kept b w w1) := HK0.out.trans hk1
    clear hp1 hk1
    go_wp2_with fail
    refine (HIN.out _ (HK1.out.setCell 2 _) (HP1.out.deep (d' := d + 1) _ rfl)).mono ?_
    rintro r w3 ⟨v3, rfl, hp3, hk3, hi3, hr3⟩
    clear c2 f2
    have c2 := hp3.h2
    have f2 := hp3.fz 2
    have hz : w.heap.size ≤ w1.heap.size := HK1.out.size
    have HP3 : Hid (PS b c cap len s (d + 1) τ w3) := hp3
    have HK3 : Hid (Kept b w w3) := (HK1.out.setCell 2 _).trans hk3
    have HI3 : Hid (IsIf v3) := hi3
    have HR3 : Hid (τ.isLive = true → Rq w3 nd w1.heap.size w3.heap.size v3) := fun hl => by have := hr3 hl; simpa [World.setCell] using this
    clear hp3 hk3 hi3 hr3
    go_wp2_with fail
    go_ret
    exact ⟨_, rfl, HP3.out.deep (d' := d) _ (by omega), HK3.out.setCell 2 _, HI3.out, fun hl => ((HR3.out hl).kept ((Kept.refl b w3).setCell 2 _) (by omega) (Nat.le_refl _)).wide (by omega) (by simp [World.setCell])⟩

set_option maxHeartbeats 2000000 in
theorem opened_unary {b c cap len : Nat} {s : Sp.Bs} {d : Nat} {σ : Sp.St} {w : World} (h : PS b c cap len s d σ w) (z : Sp.Bs) (hf : z ∈ fixd) (hd : d ≤ 1000000) (τ : Sp.St) (nd : Sp.Nd)
    (hin : ∀ w', Kept b w w' → PS b c cap len s (d + 1) (σ.opened s z d) w' → Calls Tryz.prog 331 #[.pointer (some ⟨b, 0, none⟩)] w' (PostV b c cap len s (d + 1) τ w' IsIf fun w'' v => Rq w'' nd w'.heap.size w''.heap.size v)) :
    Calls Tryz.prog 308 #[.pointer (some ⟨b, 0, none⟩), .string ⟨z.toArray⟩, .func (.func 331) #[.pointer (some ⟨b, 0, none⟩)] #[]] w (PostV b c cap len s d τ w IsIf fun w'' v => Rq w'' nd w.heap.size w''.heap.size v) := by
  have HIN : Hid (∀ w', Kept b w w' → PS b c cap len s (d + 1) (σ.opened s z d) w' → Calls Tryz.prog 331 #[.pointer (some ⟨b, 0, none⟩)] w' (PostV b c cap len s (d + 1) τ w' IsIf fun w'' v => Rq w'' nd w'.heap.size w''.heap.size v)) := hin
  clear hin
  have hbw := h.lb
  obtain ⟨i, wd, hi, tc, P⟩ := peek_any h
  have OE := opened_eq s z d σ len i hi
  have HH : Hid (PS b c cap len s d σ w) := h
  have HPK : Hid (∀ w', w' = w → Calls Tryz.prog 75 #[.pointer (some ⟨b, 0, none⟩)] w' fun r w'' => r = .returned (.agg #[.int .i64 (kn (Sp.tokCl s (pos s i))), .int .i64 (Sp.tokAt s (pos s i) : Nat), .string wd]) ∧ Below w.heap.size w w'') := fun w' e => by subst e; exact P
  clear h tc hi P
  generalize kn (Sp.tokCl s (pos s i)) = kk at *
  generalize Sp.tokAt s (pos s i) = aa at *
  have hfd := tokF1
  by_cases h16 : 16 < d + 1
  · have HO : Hid (failAt 3 aa (σ.must s z) = σ.opened s z d) := by show _ = _; rw [← OE, if_pos h16]
    clear OE
    go_enter Tryz.func308, Tryz.ntmps308
    go_wp2_with fail
    refine (HPK.out _ rfl).mono ?_
    rintro r w0 ⟨rfl, hb0⟩
    have HP0 : Hid (PS b c cap len s d σ w0) := HH.out.below hb0
    have HK0 : Hid (Kept b w w0) := Kept.below hb0
    clear hb0
    go_wp2_with fail
    refine (expect_any HP0.out z hf).mono ?_
    rintro r w1 ⟨rfl, hp1, hk1⟩
    have c2 := hp1.h2
    have f2 := hp1.fz 2
    have HP1 : Hid (PS b c cap len s d (σ.must s z) w1) := hp1
    have HK1 : Hid (Kept b w w1) := HK0.out.trans hk1
    clear hp1 hk1
    go_wp2_with fail
    refine (pfail_any (HP1.out.deep (d' := d + 1) _ rfl) 3 _ (by decide)).mono ?_
    rintro r w2 ⟨rfl, hp2, hk2⟩
    rw [HO.out] at hp2
    have HP2 : Hid (PS b c cap len s (d + 1) (σ.opened s z d) w2) := hp2
    have HK2 : Hid (Kept b w w2) := (HK1.out.setCell 2 _).trans hk2
    clear hp2 hk2 c2 f2
    go_wp2_with fail
    refine (HIN.out _ HK2.out HP2.out).mono ?_
    rintro r w3 ⟨v3, rfl, hp3, hk3, hi3, hr3⟩
    have c2 := hp3.h2
    have f2 := hp3.fz 2
    have HP3 : Hid (PS b c cap len s (d + 1) τ w3) := hp3
    have HK3 : Hid (Kept b w w3) := HK2.out.trans hk3
    have HI3 : Hid (IsIf v3) := hi3
    have HR3 : Hid (τ.isLive = true → Rq w3 nd w2.heap.size w3.heap.size v3) := hr3
    have hz := HK2.out.size
    clear hp3 hk3 hi3 hr3
    go_wp2_with fail
    go_ret
    exact ⟨_, rfl, HP3.out.deep (d' := d) _ (by omega), HK3.out.setCell 2 _, HI3.out, fun hl => ((HR3.out hl).kept ((Kept.refl b w3).setCell 2 _) (by omega) (Nat.le_refl _)).wide (by omega) (by simp [World.setCell])⟩
  · have HO : Hid (σ.must s z = σ.opened s z d) := by show _ = _; rw [← OE, if_neg h16]
    clear OE
    go_enter Tryz.func308, Tryz.ntmps308
    go_wp2_with fail
    refine (HPK.out _ rfl).mono ?_
    rintro r w0 ⟨rfl, hb0⟩
    have HP0 : Hid (PS b c cap len s d σ w0) := HH.out.below hb0
    have HK0 : Hid (Kept b w w0) := Kept.below hb0
    clear hb0
    go_wp2_with fail
    refine (expect_any HP0.out z hf).mono ?_
    rintro r w1 ⟨rfl, hp1, hk1⟩
    have c2 := hp1.h2
    have f2 := hp1.fz 2
    rw [HO.out] at hp1
    have HP1 : Hid (PS b c cap len s d (σ.opened s z d) w1) := hp1
    have HK1 : Hid (Kept b w w1) := HK0.out.trans hk1
    clear hp1 hk1
    go_wp2_with fail
    refine (HIN.out _ (HK1.out.setCell 2 _) (HP1.out.deep (d' := d + 1) _ rfl)).mono ?_
    rintro r w3 ⟨v3, rfl, hp3, hk3, hi3, hr3⟩
    clear c2 f2
    have c2 := hp3.h2
    have f2 := hp3.fz 2
    have hz : w.heap.size ≤ w1.heap.size := HK1.out.size
    have HP3 : Hid (PS b c cap len s (d + 1) τ w3) := hp3
    have HK3 : Hid (Kept b w w3) := (HK1.out.setCell 2 _).trans hk3
    have HI3 : Hid (IsIf v3) := hi3
    have HR3 : Hid (τ.isLive = true → Rq w3 nd w1.heap.size w3.heap.size v3) := fun hl => by have := hr3 hl; simpa [World.setCell] using this
    clear hp3 hk3 hi3 hr3
    go_wp2_with fail
    go_ret
    exact ⟨_, rfl, HP3.out.deep (d' := d) _ (by omega), HK3.out.setCell 2 _, HI3.out, fun hl => ((HR3.out hl).kept ((Kept.refl b w3).setCell 2 _) (by omega) (Nat.le_refl _)).wide (by omega) (by simp [World.setCell])⟩

set_option maxHeartbeats 2000000 in
theorem opened_arms {b c cap len : Nat} {s : Sp.Bs} {d : Nat} {σ : Sp.St} {w : World} (h : PS b c cap len s d σ w) (z : Sp.Bs) (hf : z ∈ fixd) (hd : d ≤ 1000000) (τ : Sp.St) (nd : Sp.Nd)
    (hin : ∀ w', Kept b w w' → PS b c cap len s (d + 1) (σ.opened s z d) w' → Calls Tryz.prog 347 #[.pointer (some ⟨b, 0, none⟩)] w' (PostV b c cap len s (d + 1) τ w' IsIf fun w'' v => Rq w'' nd w'.heap.size w''.heap.size v)) :
    Calls Tryz.prog 308 #[.pointer (some ⟨b, 0, none⟩), .string ⟨z.toArray⟩, .func (.func 347) #[.pointer (some ⟨b, 0, none⟩)] #[]] w (PostV b c cap len s d τ w IsIf fun w'' v => Rq w'' nd w.heap.size w''.heap.size v) := by
  have HIN : Hid (∀ w', Kept b w w' → PS b c cap len s (d + 1) (σ.opened s z d) w' → Calls Tryz.prog 347 #[.pointer (some ⟨b, 0, none⟩)] w' (PostV b c cap len s (d + 1) τ w' IsIf fun w'' v => Rq w'' nd w'.heap.size w''.heap.size v)) := hin
  clear hin
  have hbw := h.lb
  obtain ⟨i, wd, hi, tc, P⟩ := peek_any h
  have OE := opened_eq s z d σ len i hi
  have HH : Hid (PS b c cap len s d σ w) := h
  have HPK : Hid (∀ w', w' = w → Calls Tryz.prog 75 #[.pointer (some ⟨b, 0, none⟩)] w' fun r w'' => r = .returned (.agg #[.int .i64 (kn (Sp.tokCl s (pos s i))), .int .i64 (Sp.tokAt s (pos s i) : Nat), .string wd]) ∧ Below w.heap.size w w'') := fun w' e => by subst e; exact P
  clear h tc hi P
  generalize kn (Sp.tokCl s (pos s i)) = kk at *
  generalize Sp.tokAt s (pos s i) = aa at *
  have hfd := tokF1
  by_cases h16 : 16 < d + 1
  · have HO : Hid (failAt 3 aa (σ.must s z) = σ.opened s z d) := by show _ = _; rw [← OE, if_pos h16]
    clear OE
    go_enter Tryz.func308, Tryz.ntmps308
    go_wp2_with fail
    refine (HPK.out _ rfl).mono ?_
    rintro r w0 ⟨rfl, hb0⟩
    have HP0 : Hid (PS b c cap len s d σ w0) := HH.out.below hb0
    have HK0 : Hid (Kept b w w0) := Kept.below hb0
    clear hb0
    go_wp2_with fail
    refine (expect_any HP0.out z hf).mono ?_
    rintro r w1 ⟨rfl, hp1, hk1⟩
    have c2 := hp1.h2
    have f2 := hp1.fz 2
    have HP1 : Hid (PS b c cap len s d (σ.must s z) w1) := hp1
    have HK1 : Hid (Kept b w w1) := HK0.out.trans hk1
    clear hp1 hk1
    go_wp2_with fail
    refine (pfail_any (HP1.out.deep (d' := d + 1) _ rfl) 3 _ (by decide)).mono ?_
    rintro r w2 ⟨rfl, hp2, hk2⟩
    rw [HO.out] at hp2
    have HP2 : Hid (PS b c cap len s (d + 1) (σ.opened s z d) w2) := hp2
    have HK2 : Hid (Kept b w w2) := (HK1.out.setCell 2 _).trans hk2
    clear hp2 hk2 c2 f2
    go_wp2_with fail
    refine (HIN.out _ HK2.out HP2.out).mono ?_
    rintro r w3 ⟨v3, rfl, hp3, hk3, hi3, hr3⟩
    have c2 := hp3.h2
    have f2 := hp3.fz 2
    have HP3 : Hid (PS b c cap len s (d + 1) τ w3) := hp3
    have HK3 : Hid (Kept b w w3) := HK2.out.trans hk3
    have HI3 : Hid (IsIf v3) := hi3
    have HR3 : Hid (τ.isLive = true → Rq w3 nd w2.heap.size w3.heap.size v3) := hr3
    have hz := HK2.out.size
    clear hp3 hk3 hi3 hr3
    go_wp2_with fail
    go_ret
    exact ⟨_, rfl, HP3.out.deep (d' := d) _ (by omega), HK3.out.setCell 2 _, HI3.out, fun hl => ((HR3.out hl).kept ((Kept.refl b w3).setCell 2 _) (by omega) (Nat.le_refl _)).wide (by omega) (by simp [World.setCell])⟩
  · have HO : Hid (σ.must s z = σ.opened s z d) := by show _ = _; rw [← OE, if_neg h16]
    clear OE
    go_enter Tryz.func308, Tryz.ntmps308
    go_wp2_with fail
    refine (HPK.out _ rfl).mono ?_
    rintro r w0 ⟨rfl, hb0⟩
    have HP0 : Hid (PS b c cap len s d σ w0) := HH.out.below hb0
    have HK0 : Hid (Kept b w w0) := Kept.below hb0
    clear hb0
    go_wp2_with fail
    refine (expect_any HP0.out z hf).mono ?_
    rintro r w1 ⟨rfl, hp1, hk1⟩
    have c2 := hp1.h2
    have f2 := hp1.fz 2
    rw [HO.out] at hp1
    have HP1 : Hid (PS b c cap len s d (σ.opened s z d) w1) := hp1
    have HK1 : Hid (Kept b w w1) := HK0.out.trans hk1
    clear hp1 hk1
    go_wp2_with fail
    refine (HIN.out _ (HK1.out.setCell 2 _) (HP1.out.deep (d' := d + 1) _ rfl)).mono ?_
    rintro r w3 ⟨v3, rfl, hp3, hk3, hi3, hr3⟩
    clear c2 f2
    have c2 := hp3.h2
    have f2 := hp3.fz 2
    have hz : w.heap.size ≤ w1.heap.size := HK1.out.size
    have HP3 : Hid (PS b c cap len s (d + 1) τ w3) := hp3
    have HK3 : Hid (Kept b w w3) := (HK1.out.setCell 2 _).trans hk3
    have HI3 : Hid (IsIf v3) := hi3
    have HR3 : Hid (τ.isLive = true → Rq w3 nd w1.heap.size w3.heap.size v3) := fun hl => by have := hr3 hl; simpa [World.setCell] using this
    clear hp3 hk3 hi3 hr3
    go_wp2_with fail
    go_ret
    exact ⟨_, rfl, HP3.out.deep (d' := d) _ (by omega), HK3.out.setCell 2 _, HI3.out, fun hl => ((HR3.out hl).kept ((Kept.refl b w3).setCell 2 _) (by omega) (Nat.le_refl _)).wide (by omega) (by simp [World.setCell])⟩

set_option maxHeartbeats 2000000 in
theorem opened_enclE {b c cap len : Nat} {s : Sp.Bs} {d : Nat} {σ : Sp.St} {w : World} (h : PS b c cap len s d σ w) (z : Sp.Bs) (hf : z ∈ fixd) (hd : d ≤ 1000000) (qi qp : Nat) (τ : Sp.St) (nd : Sp.Nd)
    (hin : ∀ w', Kept b w w' → PS b c cap len s (d + 1) (σ.opened s z d) w' → Calls Tryz.prog 350 #[.pointer (some ⟨qi, 0, none⟩), .pointer (some ⟨qp, 0, none⟩)] w' (PostV b c cap len s (d + 1) τ w' IsIf fun w'' v => Rq w'' nd w'.heap.size w''.heap.size v)) :
    Calls Tryz.prog 308 #[.pointer (some ⟨b, 0, none⟩), .string ⟨z.toArray⟩, .func (.func 350) #[] #[.pointer (some ⟨qi, 0, none⟩), .pointer (some ⟨qp, 0, none⟩)]] w (PostV b c cap len s d τ w IsIf fun w'' v => Rq w'' nd w.heap.size w''.heap.size v) := by
  have HIN : Hid (∀ w', Kept b w w' → PS b c cap len s (d + 1) (σ.opened s z d) w' → Calls Tryz.prog 350 #[.pointer (some ⟨qi, 0, none⟩), .pointer (some ⟨qp, 0, none⟩)] w' (PostV b c cap len s (d + 1) τ w' IsIf fun w'' v => Rq w'' nd w'.heap.size w''.heap.size v)) := hin
  clear hin
  have hbw := h.lb
  obtain ⟨i, wd, hi, tc, P⟩ := peek_any h
  have OE := opened_eq s z d σ len i hi
  have HH : Hid (PS b c cap len s d σ w) := h
  have HPK : Hid (∀ w', w' = w → Calls Tryz.prog 75 #[.pointer (some ⟨b, 0, none⟩)] w' fun r w'' => r = .returned (.agg #[.int .i64 (kn (Sp.tokCl s (pos s i))), .int .i64 (Sp.tokAt s (pos s i) : Nat), .string wd]) ∧ Below w.heap.size w w'') := fun w' e => by subst e; exact P
  clear h tc hi P
  generalize kn (Sp.tokCl s (pos s i)) = kk at *
  generalize Sp.tokAt s (pos s i) = aa at *
  have hfd := tokF1
  by_cases h16 : 16 < d + 1
  · have HO : Hid (failAt 3 aa (σ.must s z) = σ.opened s z d) := by show _ = _; rw [← OE, if_pos h16]
    clear OE
    go_enter Tryz.func308, Tryz.ntmps308
    go_wp2_with fail
    refine (HPK.out _ rfl).mono ?_
    rintro r w0 ⟨rfl, hb0⟩
    have HP0 : Hid (PS b c cap len s d σ w0) := HH.out.below hb0
    have HK0 : Hid (Kept b w w0) := Kept.below hb0
    clear hb0
    go_wp2_with fail
    refine (expect_any HP0.out z hf).mono ?_
    rintro r w1 ⟨rfl, hp1, hk1⟩
    have c2 := hp1.h2
    have f2 := hp1.fz 2
    have HP1 : Hid (PS b c cap len s d (σ.must s z) w1) := hp1
    have HK1 : Hid (Kept b w w1) := HK0.out.trans hk1
    clear hp1 hk1
    go_wp2_with fail
    refine (pfail_any (HP1.out.deep (d' := d + 1) _ rfl) 3 _ (by decide)).mono ?_
    rintro r w2 ⟨rfl, hp2, hk2⟩
    rw [HO.out] at hp2
    have HP2 : Hid (PS b c cap len s (d + 1) (σ.opened s z d) w2) := hp2
    have HK2 : Hid (Kept b w w2) := (HK1.out.setCell 2 _).trans hk2
    clear hp2 hk2 c2 f2
    go_wp2_with fail
    refine (HIN.out _ HK2.out HP2.out).mono ?_
    rintro r w3 ⟨v3, rfl, hp3, hk3, hi3, hr3⟩
    have c2 := hp3.h2
    have f2 := hp3.fz 2
    have HP3 : Hid (PS b c cap len s (d + 1) τ w3) := hp3
    have HK3 : Hid (Kept b w w3) := HK2.out.trans hk3
    have HI3 : Hid (IsIf v3) := hi3
    have HR3 : Hid (τ.isLive = true → Rq w3 nd w2.heap.size w3.heap.size v3) := hr3
    have hz := HK2.out.size
    clear hp3 hk3 hi3 hr3
    go_wp2_with fail
    go_ret
    exact ⟨_, rfl, HP3.out.deep (d' := d) _ (by omega), HK3.out.setCell 2 _, HI3.out, fun hl => ((HR3.out hl).kept ((Kept.refl b w3).setCell 2 _) (by omega) (Nat.le_refl _)).wide (by omega) (by simp [World.setCell])⟩
  · have HO : Hid (σ.must s z = σ.opened s z d) := by show _ = _; rw [← OE, if_neg h16]
    clear OE
    go_enter Tryz.func308, Tryz.ntmps308
    go_wp2_with fail
    refine (HPK.out _ rfl).mono ?_
    rintro r w0 ⟨rfl, hb0⟩
    have HP0 : Hid (PS b c cap len s d σ w0) := HH.out.below hb0
    have HK0 : Hid (Kept b w w0) := Kept.below hb0
    clear hb0
    go_wp2_with fail
    refine (expect_any HP0.out z hf).mono ?_
    rintro r w1 ⟨rfl, hp1, hk1⟩
    have c2 := hp1.h2
    have f2 := hp1.fz 2
    rw [HO.out] at hp1
    have HP1 : Hid (PS b c cap len s d (σ.opened s z d) w1) := hp1
    have HK1 : Hid (Kept b w w1) := HK0.out.trans hk1
    clear hp1 hk1
    go_wp2_with fail
    refine (HIN.out _ (HK1.out.setCell 2 _) (HP1.out.deep (d' := d + 1) _ rfl)).mono ?_
    rintro r w3 ⟨v3, rfl, hp3, hk3, hi3, hr3⟩
    clear c2 f2
    have c2 := hp3.h2
    have f2 := hp3.fz 2
    have hz : w.heap.size ≤ w1.heap.size := HK1.out.size
    have HP3 : Hid (PS b c cap len s (d + 1) τ w3) := hp3
    have HK3 : Hid (Kept b w w3) := (HK1.out.setCell 2 _).trans hk3
    have HI3 : Hid (IsIf v3) := hi3
    have HR3 : Hid (τ.isLive = true → Rq w3 nd w1.heap.size w3.heap.size v3) := fun hl => by have := hr3 hl; simpa [World.setCell] using this
    clear hp3 hk3 hi3 hr3
    go_wp2_with fail
    go_ret
    exact ⟨_, rfl, HP3.out.deep (d' := d) _ (by omega), HK3.out.setCell 2 _, HI3.out, fun hl => ((HR3.out hl).kept ((Kept.refl b w3).setCell 2 _) (by omega) (Nat.le_refl _)).wide (by omega) (by simp [World.setCell])⟩

set_option maxHeartbeats 2000000 in
theorem opened_enclL {b c cap len : Nat} {s : Sp.Bs} {d : Nat} {σ : Sp.St} {w : World} (h : PS b c cap len s d σ w) (z : Sp.Bs) (hf : z ∈ fixd) (hd : d ≤ 1000000) (qi qp : Nat) (τ : Sp.St) (nd : Sp.Nd)
    (hin : ∀ w', Kept b w w' → PS b c cap len s (d + 1) (σ.opened s z d) w' → Calls Tryz.prog 352 #[.pointer (some ⟨qi, 0, none⟩), .pointer (some ⟨qp, 0, none⟩)] w' (PostV b c cap len s (d + 1) τ w' IsSl fun w'' v => Rq w'' nd w'.heap.size w''.heap.size v)) :
    Calls Tryz.prog 351 #[.pointer (some ⟨b, 0, none⟩), .string ⟨z.toArray⟩, .func (.func 352) #[] #[.pointer (some ⟨qi, 0, none⟩), .pointer (some ⟨qp, 0, none⟩)]] w (PostV b c cap len s d τ w IsSl fun w'' v => Rq w'' nd w.heap.size w''.heap.size v) := by
  have HIN : Hid (∀ w', Kept b w w' → PS b c cap len s (d + 1) (σ.opened s z d) w' → Calls Tryz.prog 352 #[.pointer (some ⟨qi, 0, none⟩), .pointer (some ⟨qp, 0, none⟩)] w' (PostV b c cap len s (d + 1) τ w' IsSl fun w'' v => Rq w'' nd w'.heap.size w''.heap.size v)) := hin
  clear hin
  have hbw := h.lb
  obtain ⟨i, wd, hi, tc, P⟩ := peek_any h
  have OE := opened_eq s z d σ len i hi
  have HH : Hid (PS b c cap len s d σ w) := h
  have HPK : Hid (∀ w', w' = w → Calls Tryz.prog 75 #[.pointer (some ⟨b, 0, none⟩)] w' fun r w'' => r = .returned (.agg #[.int .i64 (kn (Sp.tokCl s (pos s i))), .int .i64 (Sp.tokAt s (pos s i) : Nat), .string wd]) ∧ Below w.heap.size w w'') := fun w' e => by subst e; exact P
  clear h tc hi P
  generalize kn (Sp.tokCl s (pos s i)) = kk at *
  generalize Sp.tokAt s (pos s i) = aa at *
  have hfd := tokF1
  by_cases h16 : 16 < d + 1
  · have HO : Hid (failAt 3 aa (σ.must s z) = σ.opened s z d) := by show _ = _; rw [← OE, if_pos h16]
    clear OE
    go_enter Tryz.func351, Tryz.ntmps351
    go_wp2_with fail
    refine (HPK.out _ rfl).mono ?_
    rintro r w0 ⟨rfl, hb0⟩
    have HP0 : Hid (PS b c cap len s d σ w0) := HH.out.below hb0
    have HK0 : Hid (Kept b w w0) := Kept.below hb0
    clear hb0
    go_wp2_with fail
    refine (expect_any HP0.out z hf).mono ?_
    rintro r w1 ⟨rfl, hp1, hk1⟩
    have c2 := hp1.h2
    have f2 := hp1.fz 2
    have HP1 : Hid (PS b c cap len s d (σ.must s z) w1) := hp1
    have HK1 : Hid (Kept b w w1) := HK0.out.trans hk1
    clear hp1 hk1
    go_wp2_with fail
    refine (pfail_any (HP1.out.deep (d' := d + 1) _ rfl) 3 _ (by decide)).mono ?_
    rintro r w2 ⟨rfl, hp2, hk2⟩
    rw [HO.out] at hp2
    have HP2 : Hid (PS b c cap len s (d + 1) (σ.opened s z d) w2) := hp2
    have HK2 : Hid (Kept b w w2) := (HK1.out.setCell 2 _).trans hk2
    clear hp2 hk2 c2 f2
    go_wp2_with fail
    refine (HIN.out _ HK2.out HP2.out).mono ?_
    rintro r w3 ⟨v3, rfl, hp3, hk3, hi3, hr3⟩
    have c2 := hp3.h2
    have f2 := hp3.fz 2
    have HP3 : Hid (PS b c cap len s (d + 1) τ w3) := hp3
    have HK3 : Hid (Kept b w w3) := HK2.out.trans hk3
    have HI3 : Hid (IsSl v3) := hi3
    have HR3 : Hid (τ.isLive = true → Rq w3 nd w2.heap.size w3.heap.size v3) := hr3
    have hz := HK2.out.size
    clear hp3 hk3 hi3 hr3
    go_wp2_with fail
    go_ret
    exact ⟨_, rfl, HP3.out.deep (d' := d) _ (by omega), HK3.out.setCell 2 _, HI3.out, fun hl => ((HR3.out hl).kept ((Kept.refl b w3).setCell 2 _) (by omega) (Nat.le_refl _)).wide (by omega) (by simp [World.setCell])⟩
  · have HO : Hid (σ.must s z = σ.opened s z d) := by show _ = _; rw [← OE, if_neg h16]
    clear OE
    go_enter Tryz.func351, Tryz.ntmps351
    go_wp2_with fail
    refine (HPK.out _ rfl).mono ?_
    rintro r w0 ⟨rfl, hb0⟩
    have HP0 : Hid (PS b c cap len s d σ w0) := HH.out.below hb0
    have HK0 : Hid (Kept b w w0) := Kept.below hb0
    clear hb0
    go_wp2_with fail
    refine (expect_any HP0.out z hf).mono ?_
    rintro r w1 ⟨rfl, hp1, hk1⟩
    have c2 := hp1.h2
    have f2 := hp1.fz 2
    rw [HO.out] at hp1
    have HP1 : Hid (PS b c cap len s d (σ.opened s z d) w1) := hp1
    have HK1 : Hid (Kept b w w1) := HK0.out.trans hk1
    clear hp1 hk1
    go_wp2_with fail
    refine (HIN.out _ (HK1.out.setCell 2 _) (HP1.out.deep (d' := d + 1) _ rfl)).mono ?_
    rintro r w3 ⟨v3, rfl, hp3, hk3, hi3, hr3⟩
    clear c2 f2
    have c2 := hp3.h2
    have f2 := hp3.fz 2
    have hz : w.heap.size ≤ w1.heap.size := HK1.out.size
    have HP3 : Hid (PS b c cap len s (d + 1) τ w3) := hp3
    have HK3 : Hid (Kept b w w3) := (HK1.out.setCell 2 _).trans hk3
    have HI3 : Hid (IsSl v3) := hi3
    have HR3 : Hid (τ.isLive = true → Rq w3 nd w1.heap.size w3.heap.size v3) := fun hl => by have := hr3 hl; simpa [World.setCell] using this
    clear hp3 hk3 hi3 hr3
    go_wp2_with fail
    go_ret
    exact ⟨_, rfl, HP3.out.deep (d' := d) _ (by omega), HK3.out.setCell 2 _, HI3.out, fun hl => ((HR3.out hl).kept ((Kept.refl b w3).setCell 2 _) (by omega) (Nat.le_refl _)).wide (by omega) (by simp [World.setCell])⟩

set_option maxHeartbeats 2000000 in
theorem opened_enclQ {b c cap len : Nat} {s : Sp.Bs} {d : Nat} {σ : Sp.St} {w : World} (h : PS b c cap len s d σ w) (z : Sp.Bs) (hf : z ∈ fixd) (hd : d ≤ 1000000) (qi qp : Nat) (τ : Sp.St) (nd : Sp.Nd)
    (hin : ∀ w', Kept b w w' → PS b c cap len s (d + 1) (σ.opened s z d) w' → Calls Tryz.prog 255 #[.pointer (some ⟨qi, 0, none⟩), .pointer (some ⟨qp, 0, none⟩)] w' (PostV b c cap len s (d + 1) τ w' IsIf fun w'' v => Rq w'' nd w'.heap.size w''.heap.size v)) :
    Calls Tryz.prog 254 #[.pointer (some ⟨b, 0, none⟩), .string ⟨z.toArray⟩, .func (.func 255) #[] #[.pointer (some ⟨qi, 0, none⟩), .pointer (some ⟨qp, 0, none⟩)]] w (PostV b c cap len s d τ w IsIf fun w'' v => Rq w'' nd w.heap.size w''.heap.size v) := by
  have HIN : Hid (∀ w', Kept b w w' → PS b c cap len s (d + 1) (σ.opened s z d) w' → Calls Tryz.prog 255 #[.pointer (some ⟨qi, 0, none⟩), .pointer (some ⟨qp, 0, none⟩)] w' (PostV b c cap len s (d + 1) τ w' IsIf fun w'' v => Rq w'' nd w'.heap.size w''.heap.size v)) := hin
  clear hin
  have hbw := h.lb
  obtain ⟨i, wd, hi, tc, P⟩ := peek_any h
  have OE := opened_eq s z d σ len i hi
  have HH : Hid (PS b c cap len s d σ w) := h
  have HPK : Hid (∀ w', w' = w → Calls Tryz.prog 75 #[.pointer (some ⟨b, 0, none⟩)] w' fun r w'' => r = .returned (.agg #[.int .i64 (kn (Sp.tokCl s (pos s i))), .int .i64 (Sp.tokAt s (pos s i) : Nat), .string wd]) ∧ Below w.heap.size w w'') := fun w' e => by subst e; exact P
  clear h tc hi P
  generalize kn (Sp.tokCl s (pos s i)) = kk at *
  generalize Sp.tokAt s (pos s i) = aa at *
  have hfd := tokF1
  by_cases h16 : 16 < d + 1
  · have HO : Hid (failAt 3 aa (σ.must s z) = σ.opened s z d) := by show _ = _; rw [← OE, if_pos h16]
    clear OE
    go_enter Tryz.func254, Tryz.ntmps254
    go_wp2_with fail
    refine (HPK.out _ rfl).mono ?_
    rintro r w0 ⟨rfl, hb0⟩
    have HP0 : Hid (PS b c cap len s d σ w0) := HH.out.below hb0
    have HK0 : Hid (Kept b w w0) := Kept.below hb0
    clear hb0
    go_wp2_with fail
    refine (expect_any HP0.out z hf).mono ?_
    rintro r w1 ⟨rfl, hp1, hk1⟩
    have c2 := hp1.h2
    have f2 := hp1.fz 2
    have HP1 : Hid (PS b c cap len s d (σ.must s z) w1) := hp1
    have HK1 : Hid (Kept b w w1) := HK0.out.trans hk1
    clear hp1 hk1
    go_wp2_with fail
    refine (pfail_any (HP1.out.deep (d' := d + 1) _ rfl) 3 _ (by decide)).mono ?_
    rintro r w2 ⟨rfl, hp2, hk2⟩
    rw [HO.out] at hp2
    have HP2 : Hid (PS b c cap len s (d + 1) (σ.opened s z d) w2) := hp2
    have HK2 : Hid (Kept b w w2) := (HK1.out.setCell 2 _).trans hk2
    clear hp2 hk2 c2 f2
    go_wp2_with fail
    refine (HIN.out _ HK2.out HP2.out).mono ?_
    rintro r w3 ⟨v3, rfl, hp3, hk3, hi3, hr3⟩
    have c2 := hp3.h2
    have f2 := hp3.fz 2
    have HP3 : Hid (PS b c cap len s (d + 1) τ w3) := hp3
    have HK3 : Hid (Kept b w w3) := HK2.out.trans hk3
    have HI3 : Hid (IsIf v3) := hi3
    have HR3 : Hid (τ.isLive = true → Rq w3 nd w2.heap.size w3.heap.size v3) := hr3
    have hz := HK2.out.size
    clear hp3 hk3 hi3 hr3
    go_wp2_with fail
    go_ret
    exact ⟨_, rfl, HP3.out.deep (d' := d) _ (by omega), HK3.out.setCell 2 _, HI3.out, fun hl => ((HR3.out hl).kept ((Kept.refl b w3).setCell 2 _) (by omega) (Nat.le_refl _)).wide (by omega) (by simp [World.setCell])⟩
  · have HO : Hid (σ.must s z = σ.opened s z d) := by show _ = _; rw [← OE, if_neg h16]
    clear OE
    go_enter Tryz.func254, Tryz.ntmps254
    go_wp2_with fail
    refine (HPK.out _ rfl).mono ?_
    rintro r w0 ⟨rfl, hb0⟩
    have HP0 : Hid (PS b c cap len s d σ w0) := HH.out.below hb0
    have HK0 : Hid (Kept b w w0) := Kept.below hb0
    clear hb0
    go_wp2_with fail
    refine (expect_any HP0.out z hf).mono ?_
    rintro r w1 ⟨rfl, hp1, hk1⟩
    have c2 := hp1.h2
    have f2 := hp1.fz 2
    rw [HO.out] at hp1
    have HP1 : Hid (PS b c cap len s d (σ.opened s z d) w1) := hp1
    have HK1 : Hid (Kept b w w1) := HK0.out.trans hk1
    clear hp1 hk1
    go_wp2_with fail
    refine (HIN.out _ (HK1.out.setCell 2 _) (HP1.out.deep (d' := d + 1) _ rfl)).mono ?_
    rintro r w3 ⟨v3, rfl, hp3, hk3, hi3, hr3⟩
    clear c2 f2
    have c2 := hp3.h2
    have f2 := hp3.fz 2
    have hz : w.heap.size ≤ w1.heap.size := HK1.out.size
    have HP3 : Hid (PS b c cap len s (d + 1) τ w3) := hp3
    have HK3 : Hid (Kept b w w3) := (HK1.out.setCell 2 _).trans hk3
    have HI3 : Hid (IsIf v3) := hi3
    have HR3 : Hid (τ.isLive = true → Rq w3 nd w1.heap.size w3.heap.size v3) := fun hl => by have := hr3 hl; simpa [World.setCell] using this
    clear hp3 hk3 hi3 hr3
    go_wp2_with fail
    go_ret
    exact ⟨_, rfl, HP3.out.deep (d' := d) _ (by omega), HK3.out.setCell 2 _, HI3.out, fun hl => ((HR3.out hl).kept ((Kept.refl b w3).setCell 2 _) (by omega) (Nat.le_refl _)).wide (by omega) (by simp [World.setCell])⟩

end Go.Proofs.YtgnncnhkgmhngaaGreatDoor
