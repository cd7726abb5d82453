import Derived.Test.YtgnncnhkgmhngaaGreatDoorQ3
namespace Go.Proofs.YtgnncnhkgmhngaaGreatDoor
open Go.RowKit

set_option maxHeartbeats 2000000 in
theorem encl1_expr {b c cap len : Nat} {s : Sp.Bs} {d : Nat} {σ : Sp.St} {w : World} (h : PS b c cap len s d σ w) (qi qp : Nat) (hi : w.cell? ⟨qi, 0, none⟩ = some (.func (.func 175) #[.pointer (some ⟨b, 0, none⟩)] #[])) (hq : w.cell? ⟨qp, 0, none⟩ = some (.pointer (some ⟨b, 0, none⟩))) (lq : qp < w.heap.size) (ne : qp ≠ b) (τ : Sp.St) (nd : Sp.Nd)
    (hin : Calls Tryz.prog 175 #[.pointer (some ⟨b, 0, none⟩)] w (PostV b c cap len s d τ w IsIf fun w'' v => Rq w'' nd w.heap.size w''.heap.size v)) :
    Calls Tryz.prog 350 #[.pointer (some ⟨qi, 0, none⟩), .pointer (some ⟨qp, 0, none⟩)] w (PostV b c cap len s d (τ.must s [41]) w IsIf fun w'' v => Rq w'' nd w.heap.size w''.heap.size v) := by
  have hbw := h.lb
  have HIN : Hid (∀ w', w' = w → Calls Tryz.prog 175 #[.pointer (some ⟨b, 0, none⟩)] w' (PostV b c cap len s d τ w IsIf fun w'' v => Rq w'' nd w.heap.size w''.heap.size v)) := fun w' e => by subst e; exact hin
  have HQ : Hid (∀ w', Kept b w w' → w'.cell? ⟨qp, 0, none⟩ = some (.pointer (some ⟨b, 0, none⟩))) := fun w' k => (k.cell (p := ⟨qp, 0, none⟩) lq ne).trans hq
  clear hin h hq
  go_enter Tryz.func350, Tryz.ntmps350
  go_wp2_with fail
  refine (HIN.out _ rfl).mono ?_
  rintro r w1 ⟨v1, rfl, hp1, hk1, hi1, hr1⟩
  have hq1 := HQ.out w1 hk1
  have HP1 : Hid (PS b c cap len s d τ w1) := hp1
  have HK1 : Hid (Kept b w w1) := hk1
  have HI1 : Hid (IsIf v1) := hi1
  have HR1 : Hid (τ.isLive = true → Rq w1 nd w.heap.size w1.heap.size v1) := hr1
  clear hp1 hk1 hi1 hr1
  go_wp2_with fail
  refine (expect_any HP1.out [41] (by decide)).mono ?_
  rintro r w2 ⟨rfl, hp2, hk2⟩
  have HP2 : Hid (PS b c cap len s d (τ.must s [41]) w2) := hp2
  have HK2 : Hid (Kept b w1 w2) := hk2
  clear hp2 hk2
  go_wp2_with fail
  go_ret
  exact ⟨_, rfl, HP2.out, HK1.out.trans HK2.out, HI1.out, fun hl => ((HR1.out (Sp.live_must hl)).kept HK2.out hbw (Nat.le_refl _)).wide (Nat.le_refl _) HK2.out.size⟩

set_option maxHeartbeats 2000000 in
theorem enclosed_expr {b c cap len : Nat} {s : Sp.Bs} {d : Nat} {σ : Sp.St} {w : World} (h : PS b c cap len s d σ w) (hd : d ≤ 1000000) (τ : Sp.St) (nd : Sp.Nd)
    (hin : ∀ w', PS b c cap len s (d + 1) (σ.opened s [40] d) w' → Calls Tryz.prog 175 #[.pointer (some ⟨b, 0, none⟩)] w' (PostV b c cap len s (d + 1) τ w' IsIf fun w'' v => Rq w'' nd w'.heap.size w''.heap.size v)) :
    Calls Tryz.prog 345 #[.pointer (some ⟨b, 0, none⟩), .func (.func 175) #[.pointer (some ⟨b, 0, none⟩)] #[]] w (PostV b c cap len s d (τ.must s [41]) w IsIf fun w'' v => Rq w'' nd w.heap.size w''.heap.size v) := by
  have hbw := h.lb
  have O : ∀ w0, w0 = ((w.alloc (.cells #[.pointer (some ⟨b, 0, none⟩)] 157)).alloc (.cells #[.func (.func 175) #[.pointer (some ⟨b, 0, none⟩)] #[]] 308)) → Calls Tryz.prog 308 #[.pointer (some ⟨b, 0, none⟩), .string ⟨#[40]⟩, .func (.func 350) #[] #[.pointer (some ⟨w.heap.size + 1, 0, none⟩), .pointer (some ⟨w.heap.size, 0, none⟩)]] w0 (PostV b c cap len s d (τ.must s [41]) w0 IsIf fun w'' v => Rq w'' nd w0.heap.size w''.heap.size v) := by
    intro w0 e0
    subst e0
    have hb := h.lb
    refine opened_enclE ((h.alloc _).alloc _) [40] (by decide) hd (w.heap.size + 1) w.heap.size _ nd ?_
    intro w' k hp
    refine encl1_expr hp _ _ ?_ ?_ ?_ (by omega) τ nd (hin w' hp)
    · refine (k.cell (p := ⟨w.heap.size + 1, 0, none⟩) (by simp) (by simp; omega)).trans ?_
      have e : w.heap.size + 1 = (w.alloc (.cells #[.pointer (some ⟨b, 0, none⟩)] 157)).heap.size := by simp
      rw [e, World.cell?_alloc_new]; rfl
    · refine (k.cell (p := ⟨w.heap.size, 0, none⟩) (by simp; omega) (by simp; omega)).trans ?_
      rw [World.cell?_alloc_lt _ _ _ (by simp), World.cell?_alloc_new]; rfl
    · exact Nat.lt_of_lt_of_le (by simp; omega) k.size
  have HO : Hid (∀ w0, w0 = ((w.alloc (.cells #[.pointer (some ⟨b, 0, none⟩)] 157)).alloc (.cells #[.func (.func 175) #[.pointer (some ⟨b, 0, none⟩)] #[]] 308)) → Calls Tryz.prog 308 #[.pointer (some ⟨b, 0, none⟩), .string ⟨#[40]⟩, .func (.func 350) #[] #[.pointer (some ⟨w.heap.size + 1, 0, none⟩), .pointer (some ⟨w.heap.size, 0, none⟩)]] w0 (PostV b c cap len s d (τ.must s [41]) w0 IsIf fun w'' v => Rq w'' nd w0.heap.size w''.heap.size v)) := O
  clear O hin h
  have hmf : ∀ (fn : Fn) (first cap : Array Value) (w : World), (Instr.makeFunc fn first cap).run Tryz.prog w = .ok (.func fn first cap) w := fun _ _ _ _ => rfl
  go_enter Tryz.func345, Tryz.ntmps345
  go_wp2_with fail
  refine (HO.out _ rfl).mono ?_
  rintro r w1 ⟨v1, rfl, hp1, hk1, hi1, hr1⟩
  have HP1 : Hid (PS b c cap len s d (τ.must s [41]) w1) := hp1
  have HK1 : Hid (Kept b w w1) := (((Kept.refl b w).alloc _).alloc _).trans hk1
  have HI1 : Hid (IsIf v1) := hi1
  have HR1 : Hid ((τ.must s [41]).isLive = true → Rq w1 nd w.heap.size w1.heap.size v1) := fun hl => (hr1 hl).wide (by simp; omega) (Nat.le_refl _)
  clear hp1 hk1 hi1 hr1
  go_wp2_with fail
  go_ret
  exact ⟨_, rfl, HP1.out, HK1.out, HI1.out, HR1.out⟩

set_option maxHeartbeats 2000000 in
theorem encl1_exprs {b c cap len : Nat} {s : Sp.Bs} {d : Nat} {σ : Sp.St} {w : World} (h : PS b c cap len s d σ w) (qi qp : Nat) (hi : w.cell? ⟨qi, 0, none⟩ = some (.func (.func 174) #[.pointer (some ⟨b, 0, none⟩)] #[])) (hq : w.cell? ⟨qp, 0, none⟩ = some (.pointer (some ⟨b, 0, none⟩))) (lq : qp < w.heap.size) (ne : qp ≠ b) (τ : Sp.St) (nd : Sp.Nd)
    (hin : Calls Tryz.prog 174 #[.pointer (some ⟨b, 0, none⟩)] w (PostV b c cap len s d τ w IsSl fun w'' v => Rq w'' nd w.heap.size w''.heap.size v)) :
    Calls Tryz.prog 352 #[.pointer (some ⟨qi, 0, none⟩), .pointer (some ⟨qp, 0, none⟩)] w (PostV b c cap len s d (τ.must s [41]) w IsSl fun w'' v => Rq w'' nd w.heap.size w''.heap.size v) := by
  have hbw := h.lb
  have HIN : Hid (∀ w', w' = w → Calls Tryz.prog 174 #[.pointer (some ⟨b, 0, none⟩)] w' (PostV b c cap len s d τ w IsSl fun w'' v => Rq w'' nd w.heap.size w''.heap.size v)) := fun w' e => by subst e; exact hin
  have HQ : Hid (∀ w', Kept b w w' → w'.cell? ⟨qp, 0, none⟩ = some (.pointer (some ⟨b, 0, none⟩))) := fun w' k => (k.cell (p := ⟨qp, 0, none⟩) lq ne).trans hq
  clear hin h hq
  go_enter Tryz.func352, Tryz.ntmps352
  go_wp2_with fail
  refine (HIN.out _ rfl).mono ?_
  rintro r w1 ⟨v1, rfl, hp1, hk1, hi1, hr1⟩
  have hq1 := HQ.out w1 hk1
  have HP1 : Hid (PS b c cap len s d τ w1) := hp1
  have HK1 : Hid (Kept b w w1) := hk1
  have HI1 : Hid (IsSl v1) := hi1
  have HR1 : Hid (τ.isLive = true → Rq w1 nd w.heap.size w1.heap.size v1) := hr1
  clear hp1 hk1 hi1 hr1
  go_wp2_with fail
  refine (expect_any HP1.out [41] (by decide)).mono ?_
  rintro r w2 ⟨rfl, hp2, hk2⟩
  have HP2 : Hid (PS b c cap len s d (τ.must s [41]) w2) := hp2
  have HK2 : Hid (Kept b w1 w2) := hk2
  clear hp2 hk2
  go_wp2_with fail
  go_ret
  exact ⟨_, rfl, HP2.out, HK1.out.trans HK2.out, HI1.out, fun hl => ((HR1.out (Sp.live_must hl)).kept HK2.out hbw (Nat.le_refl _)).wide (Nat.le_refl _) HK2.out.size⟩

set_option maxHeartbeats 2000000 in
theorem enclosed_exprs {b c cap len : Nat} {s : Sp.Bs} {d : Nat} {σ : Sp.St} {w : World} (h : PS b c cap len s d σ w) (hd : d ≤ 1000000) (τ : Sp.St) (nd : Sp.Nd)
    (hin : ∀ w', PS b c cap len s (d + 1) (σ.opened s [40] d) w' → Calls Tryz.prog 174 #[.pointer (some ⟨b, 0, none⟩)] w' (PostV b c cap len s (d + 1) τ w' IsSl fun w'' v => Rq w'' nd w'.heap.size w''.heap.size v)) :
    Calls Tryz.prog 346 #[.pointer (some ⟨b, 0, none⟩), .func (.func 174) #[.pointer (some ⟨b, 0, none⟩)] #[]] w (PostV b c cap len s d (τ.must s [41]) w IsSl fun w'' v => Rq w'' nd w.heap.size w''.heap.size v) := by
  have hbw := h.lb
  have O : ∀ w0, w0 = ((w.alloc (.cells #[.pointer (some ⟨b, 0, none⟩)] 157)).alloc (.cells #[.func (.func 174) #[.pointer (some ⟨b, 0, none⟩)] #[]] 307)) → Calls Tryz.prog 351 #[.pointer (some ⟨b, 0, none⟩), .string ⟨#[40]⟩, .func (.func 352) #[] #[.pointer (some ⟨w.heap.size + 1, 0, none⟩), .pointer (some ⟨w.heap.size, 0, none⟩)]] w0 (PostV b c cap len s d (τ.must s [41]) w0 IsSl fun w'' v => Rq w'' nd w0.heap.size w''.heap.size v) := by
    intro w0 e0
    subst e0
    have hb := h.lb
    refine opened_enclL ((h.alloc _).alloc _) [40] (by decide) hd (w.heap.size + 1) w.heap.size _ nd ?_
    intro w' k hp
    refine encl1_exprs hp _ _ ?_ ?_ ?_ (by omega) τ nd (hin w' hp)
    · refine (k.cell (p := ⟨w.heap.size + 1, 0, none⟩) (by simp) (by simp; omega)).trans ?_
      have e : w.heap.size + 1 = (w.alloc (.cells #[.pointer (some ⟨b, 0, none⟩)] 157)).heap.size := by simp
      rw [e, World.cell?_alloc_new]; rfl
    · refine (k.cell (p := ⟨w.heap.size, 0, none⟩) (by simp; omega) (by simp; omega)).trans ?_
      rw [World.cell?_alloc_lt _ _ _ (by simp), World.cell?_alloc_new]; rfl
    · exact Nat.lt_of_lt_of_le (by simp; omega) k.size
  have HO : Hid (∀ w0, w0 = ((w.alloc (.cells #[.pointer (some ⟨b, 0, none⟩)] 157)).alloc (.cells #[.func (.func 174) #[.pointer (some ⟨b, 0, none⟩)] #[]] 307)) → Calls Tryz.prog 351 #[.pointer (some ⟨b, 0, none⟩), .string ⟨#[40]⟩, .func (.func 352) #[] #[.pointer (some ⟨w.heap.size + 1, 0, none⟩), .pointer (some ⟨w.heap.size, 0, none⟩)]] w0 (PostV b c cap len s d (τ.must s [41]) w0 IsSl fun w'' v => Rq w'' nd w0.heap.size w''.heap.size v)) := O
  clear O hin h
  have hmf : ∀ (fn : Fn) (first cap : Array Value) (w : World), (Instr.makeFunc fn first cap).run Tryz.prog w = .ok (.func fn first cap) w := fun _ _ _ _ => rfl
  go_enter Tryz.func346, Tryz.ntmps346
  go_wp2_with fail
  refine (HO.out _ rfl).mono ?_
  rintro r w1 ⟨v1, rfl, hp1, hk1, hi1, hr1⟩
  have HP1 : Hid (PS b c cap len s d (τ.must s [41]) w1) := hp1
  have HK1 : Hid (Kept b w w1) := (((Kept.refl b w).alloc _).alloc _).trans hk1
  have HI1 : Hid (IsSl v1) := hi1
  have HR1 : Hid ((τ.must s [41]).isLive = true → Rq w1 nd w.heap.size w1.heap.size v1) := fun hl => (hr1 hl).wide (by simp; omega) (Nat.le_refl _)
  clear hp1 hk1 hi1 hr1
  go_wp2_with fail
  go_ret
  exact ⟨_, rfl, HP1.out, HK1.out, HI1.out, HR1.out⟩

set_option maxHeartbeats 2000000 in
theorem encl1_query {b c cap len : Nat} {s : Sp.Bs} {d : Nat} {σ : Sp.St} {w : World} (h : PS b c cap len s d σ w) (qi qp : Nat) (hi : w.cell? ⟨qi, 0, none⟩ = some (.func (.func 83) #[.pointer (some ⟨b, 0, none⟩)] #[])) (hq : w.cell? ⟨qp, 0, none⟩ = some (.pointer (some ⟨b, 0, none⟩))) (lq : qp < w.heap.size) (ne : qp ≠ b) (τ : Sp.St) (nd : Sp.Nd)
    (hin : Calls Tryz.prog 83 #[.pointer (some ⟨b, 0, none⟩)] w (PostV b c cap len s d τ w IsIf fun w'' v => Rq w'' nd w.heap.size w''.heap.size v)) :
    Calls Tryz.prog 255 #[.pointer (some ⟨qi, 0, none⟩), .pointer (some ⟨qp, 0, none⟩)] w (PostV b c cap len s d (τ.must s [41]) w IsIf fun w'' v => Rq w'' nd w.heap.size w''.heap.size v) := by
  have hbw := h.lb
  have HIN : Hid (∀ w', w' = w → Calls Tryz.prog 83 #[.pointer (some ⟨b, 0, none⟩)] w' (PostV b c cap len s d τ w IsIf fun w'' v => Rq w'' nd w.heap.size w''.heap.size v)) := fun w' e => by subst e; exact hin
  have HQ : Hid (∀ w', Kept b w w' → w'.cell? ⟨qp, 0, none⟩ = some (.pointer (some ⟨b, 0, none⟩))) := fun w' k => (k.cell (p := ⟨qp, 0, none⟩) lq ne).trans hq
  clear hin h hq
  go_enter Tryz.func255, Tryz.ntmps255
  go_wp2_with fail
  refine (HIN.out _ rfl).mono ?_
  rintro r w1 ⟨v1, rfl, hp1, hk1, hi1, hr1⟩
  have hq1 := HQ.out w1 hk1
  have HP1 : Hid (PS b c cap len s d τ w1) := hp1
  have HK1 : Hid (Kept b w w1) := hk1
  have HI1 : Hid (IsIf v1) := hi1
  have HR1 : Hid (τ.isLive = true → Rq w1 nd w.heap.size w1.heap.size v1) := hr1
  clear hp1 hk1 hi1 hr1
  go_wp2_with fail
  refine (expect_any HP1.out [41] (by decide)).mono ?_
  rintro r w2 ⟨rfl, hp2, hk2⟩
  have HP2 : Hid (PS b c cap len s d (τ.must s [41]) w2) := hp2
  have HK2 : Hid (Kept b w1 w2) := hk2
  clear hp2 hk2
  go_wp2_with fail
  go_ret
  exact ⟨_, rfl, HP2.out, HK1.out.trans HK2.out, HI1.out, fun hl => ((HR1.out (Sp.live_must hl)).kept HK2.out hbw (Nat.le_refl _)).wide (Nat.le_refl _) HK2.out.size⟩

set_option maxHeartbeats 2000000 in
theorem enclosed_query {b c cap len : Nat} {s : Sp.Bs} {d : Nat} {σ : Sp.St} {w : World} (h : PS b c cap len s d σ w) (hd : d ≤ 1000000) (τ : Sp.St) (nd : Sp.Nd)
    (hin : ∀ w', PS b c cap len s (d + 1) (σ.opened s [40] d) w' → Calls Tryz.prog 83 #[.pointer (some ⟨b, 0, none⟩)] w' (PostV b c cap len s (d + 1) τ w' IsIf fun w'' v => Rq w'' nd w'.heap.size w''.heap.size v)) :
    Calls Tryz.prog 215 #[.pointer (some ⟨b, 0, none⟩), .func (.func 83) #[.pointer (some ⟨b, 0, none⟩)] #[]] w (PostV b c cap len s d (τ.must s [41]) w IsIf fun w'' v => Rq w'' nd w.heap.size w''.heap.size v) := by
  have hbw := h.lb
  have O : ∀ w0, w0 = ((w.alloc (.cells #[.pointer (some ⟨b, 0, none⟩)] 157)).alloc (.cells #[.func (.func 83) #[.pointer (some ⟨b, 0, none⟩)] #[]] 180)) → Calls Tryz.prog 254 #[.pointer (some ⟨b, 0, none⟩), .string ⟨#[40]⟩, .func (.func 255) #[] #[.pointer (some ⟨w.heap.size + 1, 0, none⟩), .pointer (some ⟨w.heap.size, 0, none⟩)]] w0 (PostV b c cap len s d (τ.must s [41]) w0 IsIf fun w'' v => Rq w'' nd w0.heap.size w''.heap.size v) := by
    intro w0 e0
    subst e0
    have hb := h.lb
    refine opened_enclQ ((h.alloc _).alloc _) [40] (by decide) hd (w.heap.size + 1) w.heap.size _ nd ?_
    intro w' k hp
    refine encl1_query hp _ _ ?_ ?_ ?_ (by omega) τ nd (hin w' hp)
    · refine (k.cell (p := ⟨w.heap.size + 1, 0, none⟩) (by simp) (by simp; omega)).trans ?_
      have e : w.heap.size + 1 = (w.alloc (.cells #[.pointer (some ⟨b, 0, none⟩)] 157)).heap.size := by simp
      rw [e, World.cell?_alloc_new]; rfl
    · refine (k.cell (p := ⟨w.heap.size, 0, none⟩) (by simp; omega) (by simp; omega)).trans ?_
      rw [World.cell?_alloc_lt _ _ _ (by simp), World.cell?_alloc_new]; rfl
    · exact Nat.lt_of_lt_of_le (by simp; omega) k.size
  have HO : Hid (∀ w0, w0 = ((w.alloc (.cells #[.pointer (some ⟨b, 0, none⟩)] 157)).alloc (.cells #[.func (.func 83) #[.pointer (some ⟨b, 0, none⟩)] #[]] 180)) → Calls Tryz.prog 254 #[.pointer (some ⟨b, 0, none⟩), .string ⟨#[40]⟩, .func (.func 255) #[] #[.pointer (some ⟨w.heap.size + 1, 0, none⟩), .pointer (some ⟨w.heap.size, 0, none⟩)]] w0 (PostV b c cap len s d (τ.must s [41]) w0 IsIf fun w'' v => Rq w'' nd w0.heap.size w''.heap.size v)) := O
  clear O hin h
  have hmf : ∀ (fn : Fn) (first cap : Array Value) (w : World), (Instr.makeFunc fn first cap).run Tryz.prog w = .ok (.func fn first cap) w := fun _ _ _ _ => rfl
  go_enter Tryz.func215, Tryz.ntmps215
  go_wp2_with fail
  refine (HO.out _ rfl).mono ?_
  rintro r w1 ⟨v1, rfl, hp1, hk1, hi1, hr1⟩
  have HP1 : Hid (PS b c cap len s d (τ.must s [41]) w1) := hp1
  have HK1 : Hid (Kept b w w1) := (((Kept.refl b w).alloc _).alloc _).trans hk1
  have HI1 : Hid (IsIf v1) := hi1
  have HR1 : Hid ((τ.must s [41]).isLive = true → Rq w1 nd w.heap.size w1.heap.size v1) := fun hl => (hr1 hl).wide (by simp; omega) (Nat.le_refl _)
  clear hp1 hk1 hi1 hr1
  go_wp2_with fail
  go_ret
  exact ⟨_, rfl, HP1.out, HK1.out, HI1.out, HR1.out⟩

end Go.Proofs.YtgnncnhkgmhngaaGreatDoor

namespace Go.Proofs.YtgnncnhkgmhngaaGreatDoor
open Go.RowKit

theorem two_is (s : Sp.Bs) (y z : Sp.Bs) (σ : Sp.St) : seesOne s [y, z] σ = (σ.is s y || σ.is s z) := by simp [seesOne]

/-- The contract of a list of exprs. -/
def SdQ (b c cap len : Nat) (s : Sp.Bs) (n : Nat) (nt : Sp.Nt) (Sh : Value → Prop) (f : FuncId) : Prop :=
  ∀ (d : Nat) (σ : Sp.St) (w : World), d + n ≤ 1000000 → 32 * Sp.rem s σ + Sp.lev nt ≤ n → PS b c cap len s d σ w →
    Calls Tryz.prog f #[.pointer (some ⟨b, 0, none⟩)] w (PostV b c cap len s d (Sp.run s n nt d σ) w Sh fun w' v => Rq w' (Sp.tr s n nt d .nil σ) w.heap.size w'.heap.size v)

structure All (b c cap len : Nat) (s : Sp.Bs) (n : Nat) : Prop where
  expr : Sd b c cap len s n .expr IsIf 175
  both : Sd b c cap len s n .both IsIf 214
  no : Sd b c cap len s n .no IsIf 253
  compare : Sd b c cap len s n .compare IsIf 283
  sum : Sd b c cap len s n .sum IsIf 309
  product : Sd b c cap len s n .product IsIf 324
  unary : Sd b c cap len s n .unary IsIf 331
  atom : Sd b c cap len s n .atom IsIf 337
  list : SdQ b c cap len s n .list IsSl 174
  query : Sd b c cap len s n .query IsIf 83
  term : Sd b c cap len s n .term IsIf 133
  factor : Sd b c cap len s n .factor IsIf 176

theorem PostV.rq {b c cap len : Nat} {s : Sp.Bs} {d : Nat} {τ : Sp.St} {w : World} {nd : Sp.Nd} {lo : Nat} {r : Ending} {w' : World} (h : PostV b c cap len s d τ w IsIf (fun w'' v => Rp w'' nd lo w''.heap.size v) r w') : PostV b c cap len s d τ w IsIf (fun w'' v => Rq w'' nd lo w''.heap.size v) r w' := by
  obtain ⟨v, e, hp, hk, hi, hr⟩ := h
  exact ⟨v, e, hp, hk, hi, fun hl => (hr hl).rq hi.noSl⟩

set_option maxHeartbeats 1000000 in
theorem expr_step {b c cap len : Nat} {s : Sp.Bs} {n : Nat} (IH : Hid (∀ m, m ≤ n → All b c cap len s m)) : Sd b c cap len s (n + 1) .expr IsIf 175 := by
  intro d σ w hd hm hp
  have hbw := hp.lb
  have hm' : 32 * Sp.rem s σ + Sp.lev .expr ≤ n + 1 := hm
  have hm1 : 32 * Sp.rem s σ + Sp.lev .both ≤ n := by simp only [Sp.lev] at hm' ⊢; omega
  have hm2 : 32 * Sp.rem s σ + 1 ≤ n := by simp only [Sp.lev] at hm'; omega
  clear hm hm'
  have C : ∀ w0, w0 = w.alloc (.cells #[.string ⟨#[111, 114]⟩] 9) → Calls Tryz.prog 213 #[.pointer (some ⟨b, 0, none⟩), .func (.func 214) #[.pointer (some ⟨b, 0, none⟩)] #[], .slice (some ⟨w.heap.size, 0, none⟩) 1 1] w0 (PostV b c cap len s d (Sp.run s n .orL d (Sp.run s n .both d σ)) w0 IsIf fun w' v => Rp w' (Sp.tr s n .orL d (Sp.tr s n .both d .nil σ) (Sp.run s n .both d σ)) w0.heap.size w'.heap.size v) := by
    intro w0 e
    subst e
    refine chain_both .both .orL [[111, 114]] (by decide) (fun m hm => (IH.out m hm).both) ?_ ?_ d σ _ (by omega) hm1 hm2 (hp.alloc _) w.heap.size 1 (words_lit rfl (by decide) (by decide)) (by omega) rfl
    · intro m d σ; rw [Sp.run, one_is]
    · intro m d a σ; rw [Sp.tr, one_is]
  have HC : Hid (∀ w0, w0 = w.alloc (.cells #[.string ⟨#[111, 114]⟩] 9) → Calls Tryz.prog 213 #[.pointer (some ⟨b, 0, none⟩), .func (.func 214) #[.pointer (some ⟨b, 0, none⟩)] #[], .slice (some ⟨w.heap.size, 0, none⟩) 1 1] w0 (PostV b c cap len s d (Sp.run s n .orL d (Sp.run s n .both d σ)) w0 IsIf fun w' v => Rp w' (Sp.tr s n .orL d (Sp.tr s n .both d .nil σ) (Sp.run s n .both d σ)) w0.heap.size w'.heap.size v)) := C
  clear C hp
  have hmf : ∀ (fn : Fn) (first cap : Array Value) (w : World), (Instr.makeFunc fn first cap).run Tryz.prog w = .ok (.func fn first cap) w := fun _ _ _ _ => rfl
  go_enter Tryz.func175, Tryz.ntmps175
  go_wp2_with fail
  refine (HC.out _ rfl).mono ?_
  rintro r w1 ⟨v1, rfl, hp1, hk1, hi1, hr1⟩
  have HP1 : Hid (PS b c cap len s d (Sp.run s (n + 1) .expr d σ) w1) := hp1
  have HK1 : Hid (Kept b w w1) := ((Kept.refl b w).alloc _).trans hk1
  have HI1 : Hid (IsIf v1) := hi1
  have HR1 : Hid ((Sp.run s (n + 1) .expr d σ).isLive = true → Rp w1 (Sp.tr s (n + 1) .expr d .nil σ) w.heap.size w1.heap.size v1) := fun hl => Rp.wide _ _ _ _ _ _ (hr1 hl) (by simp) (Nat.le_refl _)
  clear hp1 hk1 hi1 hr1
  go_wp2_with fail
  go_ret
  exact ⟨_, rfl, HP1.out, HK1.out, HI1.out, HR1.out⟩

set_option maxHeartbeats 1000000 in
theorem both_step {b c cap len : Nat} {s : Sp.Bs} {n : Nat} (IH : Hid (∀ m, m ≤ n → All b c cap len s m)) : Sd b c cap len s (n + 1) .both IsIf 214 := by
  intro d σ w hd hm hp
  have hbw := hp.lb
  have hm' : 32 * Sp.rem s σ + Sp.lev .both ≤ n + 1 := hm
  have hm1 : 32 * Sp.rem s σ + Sp.lev .no ≤ n := by simp only [Sp.lev] at hm' ⊢; omega
  have hm2 : 32 * Sp.rem s σ + 1 ≤ n := by simp only [Sp.lev] at hm'; omega
  clear hm hm'
  have C : ∀ w0, w0 = w.alloc (.cells #[.string ⟨#[97, 110, 100]⟩] 9) → Calls Tryz.prog 213 #[.pointer (some ⟨b, 0, none⟩), .func (.func 253) #[.pointer (some ⟨b, 0, none⟩)] #[], .slice (some ⟨w.heap.size, 0, none⟩) 1 1] w0 (PostV b c cap len s d (Sp.run s n .andL d (Sp.run s n .no d σ)) w0 IsIf fun w' v => Rp w' (Sp.tr s n .andL d (Sp.tr s n .no d .nil σ) (Sp.run s n .no d σ)) w0.heap.size w'.heap.size v) := by
    intro w0 e
    subst e
    refine chain_no .no .andL [[97, 110, 100]] (by decide) (fun m hm => (IH.out m hm).no) ?_ ?_ d σ _ (by omega) hm1 hm2 (hp.alloc _) w.heap.size 1 (words_lit rfl (by decide) (by decide)) (by omega) rfl
    · intro m d σ; rw [Sp.run, one_is]
    · intro m d a σ; rw [Sp.tr, one_is]
  have HC : Hid (∀ w0, w0 = w.alloc (.cells #[.string ⟨#[97, 110, 100]⟩] 9) → Calls Tryz.prog 213 #[.pointer (some ⟨b, 0, none⟩), .func (.func 253) #[.pointer (some ⟨b, 0, none⟩)] #[], .slice (some ⟨w.heap.size, 0, none⟩) 1 1] w0 (PostV b c cap len s d (Sp.run s n .andL d (Sp.run s n .no d σ)) w0 IsIf fun w' v => Rp w' (Sp.tr s n .andL d (Sp.tr s n .no d .nil σ) (Sp.run s n .no d σ)) w0.heap.size w'.heap.size v)) := C
  clear C hp
  have hmf : ∀ (fn : Fn) (first cap : Array Value) (w : World), (Instr.makeFunc fn first cap).run Tryz.prog w = .ok (.func fn first cap) w := fun _ _ _ _ => rfl
  go_enter Tryz.func214, Tryz.ntmps214
  go_wp2_with fail
  refine (HC.out _ rfl).mono ?_
  rintro r w1 ⟨v1, rfl, hp1, hk1, hi1, hr1⟩
  have HP1 : Hid (PS b c cap len s d (Sp.run s (n + 1) .both d σ) w1) := hp1
  have HK1 : Hid (Kept b w w1) := ((Kept.refl b w).alloc _).trans hk1
  have HI1 : Hid (IsIf v1) := hi1
  have HR1 : Hid ((Sp.run s (n + 1) .both d σ).isLive = true → Rp w1 (Sp.tr s (n + 1) .both d .nil σ) w.heap.size w1.heap.size v1) := fun hl => Rp.wide _ _ _ _ _ _ (hr1 hl) (by simp) (Nat.le_refl _)
  clear hp1 hk1 hi1 hr1
  go_wp2_with fail
  go_ret
  exact ⟨_, rfl, HP1.out, HK1.out, HI1.out, HR1.out⟩

set_option maxHeartbeats 1000000 in
theorem sum_step {b c cap len : Nat} {s : Sp.Bs} {n : Nat} (IH : Hid (∀ m, m ≤ n → All b c cap len s m)) : Sd b c cap len s (n + 1) .sum IsIf 309 := by
  intro d σ w hd hm hp
  have hbw := hp.lb
  have hm' : 32 * Sp.rem s σ + Sp.lev .sum ≤ n + 1 := hm
  have hm1 : 32 * Sp.rem s σ + Sp.lev .product ≤ n := by simp only [Sp.lev] at hm' ⊢; omega
  have hm2 : 32 * Sp.rem s σ + 1 ≤ n := by simp only [Sp.lev] at hm'; omega
  clear hm hm'
  have C : ∀ w0, w0 = w.alloc (.cells #[.string ⟨#[43]⟩, .string ⟨#[45]⟩] 9) → Calls Tryz.prog 213 #[.pointer (some ⟨b, 0, none⟩), .func (.func 324) #[.pointer (some ⟨b, 0, none⟩)] #[], .slice (some ⟨w.heap.size, 0, none⟩) 2 2] w0 (PostV b c cap len s d (Sp.run s n .sumL d (Sp.run s n .product d σ)) w0 IsIf fun w' v => Rp w' (Sp.tr s n .sumL d (Sp.tr s n .product d .nil σ) (Sp.run s n .product d σ)) w0.heap.size w'.heap.size v) := by
    intro w0 e
    subst e
    refine chain_product .product .sumL [[43], [45]] (by decide) (fun m hm => (IH.out m hm).product) ?_ ?_ d σ _ (by omega) hm1 hm2 (hp.alloc _) w.heap.size 2 (words_lit rfl (by decide) (by decide)) (by omega) rfl
    · intro m d σ; rw [Sp.run, two_is]
    · intro m d a σ; rw [Sp.tr, two_is]
  have HC : Hid (∀ w0, w0 = w.alloc (.cells #[.string ⟨#[43]⟩, .string ⟨#[45]⟩] 9) → Calls Tryz.prog 213 #[.pointer (some ⟨b, 0, none⟩), .func (.func 324) #[.pointer (some ⟨b, 0, none⟩)] #[], .slice (some ⟨w.heap.size, 0, none⟩) 2 2] w0 (PostV b c cap len s d (Sp.run s n .sumL d (Sp.run s n .product d σ)) w0 IsIf fun w' v => Rp w' (Sp.tr s n .sumL d (Sp.tr s n .product d .nil σ) (Sp.run s n .product d σ)) w0.heap.size w'.heap.size v)) := C
  clear C hp
  have hmf : ∀ (fn : Fn) (first cap : Array Value) (w : World), (Instr.makeFunc fn first cap).run Tryz.prog w = .ok (.func fn first cap) w := fun _ _ _ _ => rfl
  go_enter Tryz.func309, Tryz.ntmps309
  go_wp2_with fail
  refine (HC.out _ rfl).mono ?_
  rintro r w1 ⟨v1, rfl, hp1, hk1, hi1, hr1⟩
  have HP1 : Hid (PS b c cap len s d (Sp.run s (n + 1) .sum d σ) w1) := hp1
  have HK1 : Hid (Kept b w w1) := ((Kept.refl b w).alloc _).trans hk1
  have HI1 : Hid (IsIf v1) := hi1
  have HR1 : Hid ((Sp.run s (n + 1) .sum d σ).isLive = true → Rp w1 (Sp.tr s (n + 1) .sum d .nil σ) w.heap.size w1.heap.size v1) := fun hl => Rp.wide _ _ _ _ _ _ (hr1 hl) (by simp) (Nat.le_refl _)
  clear hp1 hk1 hi1 hr1
  go_wp2_with fail
  go_ret
  exact ⟨_, rfl, HP1.out, HK1.out, HI1.out, HR1.out⟩

set_option maxHeartbeats 1000000 in
theorem product_step {b c cap len : Nat} {s : Sp.Bs} {n : Nat} (IH : Hid (∀ m, m ≤ n → All b c cap len s m)) : Sd b c cap len s (n + 1) .product IsIf 324 := by
  intro d σ w hd hm hp
  have hbw := hp.lb
  have hm' : 32 * Sp.rem s σ + Sp.lev .product ≤ n + 1 := hm
  have hm1 : 32 * Sp.rem s σ + Sp.lev .unary ≤ n := by simp only [Sp.lev] at hm' ⊢; omega
  have hm2 : 32 * Sp.rem s σ + 1 ≤ n := by simp only [Sp.lev] at hm'; omega
  clear hm hm'
  have C : ∀ w0, w0 = w.alloc (.cells #[.string ⟨#[42]⟩, .string ⟨#[47]⟩] 9) → Calls Tryz.prog 213 #[.pointer (some ⟨b, 0, none⟩), .func (.func 331) #[.pointer (some ⟨b, 0, none⟩)] #[], .slice (some ⟨w.heap.size, 0, none⟩) 2 2] w0 (PostV b c cap len s d (Sp.run s n .prodL d (Sp.run s n .unary d σ)) w0 IsIf fun w' v => Rp w' (Sp.tr s n .prodL d (Sp.tr s n .unary d .nil σ) (Sp.run s n .unary d σ)) w0.heap.size w'.heap.size v) := by
    intro w0 e
    subst e
    refine chain_unary .unary .prodL [[42], [47]] (by decide) (fun m hm => (IH.out m hm).unary) ?_ ?_ d σ _ (by omega) hm1 hm2 (hp.alloc _) w.heap.size 2 (words_lit rfl (by decide) (by decide)) (by omega) rfl
    · intro m d σ; rw [Sp.run, two_is]
    · intro m d a σ; rw [Sp.tr, two_is]
  have HC : Hid (∀ w0, w0 = w.alloc (.cells #[.string ⟨#[42]⟩, .string ⟨#[47]⟩] 9) → Calls Tryz.prog 213 #[.pointer (some ⟨b, 0, none⟩), .func (.func 331) #[.pointer (some ⟨b, 0, none⟩)] #[], .slice (some ⟨w.heap.size, 0, none⟩) 2 2] w0 (PostV b c cap len s d (Sp.run s n .prodL d (Sp.run s n .unary d σ)) w0 IsIf fun w' v => Rp w' (Sp.tr s n .prodL d (Sp.tr s n .unary d .nil σ) (Sp.run s n .unary d σ)) w0.heap.size w'.heap.size v)) := C
  clear C hp
  have hmf : ∀ (fn : Fn) (first cap : Array Value) (w : World), (Instr.makeFunc fn first cap).run Tryz.prog w = .ok (.func fn first cap) w := fun _ _ _ _ => rfl
  go_enter Tryz.func324, Tryz.ntmps324
  go_wp2_with fail
  refine (HC.out _ rfl).mono ?_
  rintro r w1 ⟨v1, rfl, hp1, hk1, hi1, hr1⟩
  have HP1 : Hid (PS b c cap len s d (Sp.run s (n + 1) .product d σ) w1) := hp1
  have HK1 : Hid (Kept b w w1) := ((Kept.refl b w).alloc _).trans hk1
  have HI1 : Hid (IsIf v1) := hi1
  have HR1 : Hid ((Sp.run s (n + 1) .product d σ).isLive = true → Rp w1 (Sp.tr s (n + 1) .product d .nil σ) w.heap.size w1.heap.size v1) := fun hl => Rp.wide _ _ _ _ _ _ (hr1 hl) (by simp) (Nat.le_refl _)
  clear hp1 hk1 hi1 hr1
  go_wp2_with fail
  go_ret
  exact ⟨_, rfl, HP1.out, HK1.out, HI1.out, HR1.out⟩

end Go.Proofs.YtgnncnhkgmhngaaGreatDoor
