import Derived.Test.YtgnncnhkgmhngaaGreatDoorQ13
import Derived.Test.YtgnncnhkgmhngaaGreatDoorQ5
namespace Go.Proofs.YtgnncnhkgmhngaaGreatDoor
open Go.RowKit

set_option maxHeartbeats 1000000 in
theorem query_step {b c cap len : Nat} {s : Sp.Bs} {n : Nat} (IH : Hid (∀ m, m ≤ n → All b c cap len s m)) : Sd b c cap len s (n + 1) .query IsIf 83 := by
  intro d σ w hd hm hp
  have hbw := hp.lb
  have hm' : 32 * Sp.rem s σ + Sp.lev .query ≤ n + 1 := hm
  have hm1 : 32 * Sp.rem s σ + Sp.lev .term ≤ n := by simp only [Sp.lev] at hm' ⊢; omega
  have hm2 : 32 * Sp.rem s σ + 1 ≤ n := by simp only [Sp.lev] at hm'; omega
  clear hm hm'
  have C : ∀ w0, w0 = w.alloc (.cells #[.string ⟨#[117, 110, 105, 111, 110]⟩, .string ⟨#[101, 120, 99, 101, 112, 116]⟩] 9) → Calls Tryz.prog 132 #[.pointer (some ⟨b, 0, none⟩), .func (.func 133) #[.pointer (some ⟨b, 0, none⟩)] #[], .slice (some ⟨w.heap.size, 0, none⟩) 2 2] w0 (PostV b c cap len s d (Sp.run s n .queryL d (Sp.run s n .term d σ)) w0 IsIf fun w' v => Rp w' (Sp.tr s n .queryL d (Sp.tr s n .term d .nil σ) (Sp.run s n .term d σ)) w0.heap.size w'.heap.size v) := by
    intro w0 e
    subst e
    refine combined_term .term .queryL [[117, 110, 105, 111, 110], [101, 120, 99, 101, 112, 116]] (by decide) (fun m hm => (IH.out m hm).term) ?_ ?_ d σ _ (by omega) hm1 hm2 (hp.alloc _) w.heap.size 2 (words_lit rfl (by decide) (by decide)) (by omega) rfl
    · intro m d σ; rw [Sp.run, two_is]
    · intro m d a σ; rw [Sp.tr, two_is]
  have HC : Hid (∀ w0, w0 = w.alloc (.cells #[.string ⟨#[117, 110, 105, 111, 110]⟩, .string ⟨#[101, 120, 99, 101, 112, 116]⟩] 9) → Calls Tryz.prog 132 #[.pointer (some ⟨b, 0, none⟩), .func (.func 133) #[.pointer (some ⟨b, 0, none⟩)] #[], .slice (some ⟨w.heap.size, 0, none⟩) 2 2] w0 (PostV b c cap len s d (Sp.run s n .queryL d (Sp.run s n .term d σ)) w0 IsIf fun w' v => Rp w' (Sp.tr s n .queryL d (Sp.tr s n .term d .nil σ) (Sp.run s n .term d σ)) w0.heap.size w'.heap.size v)) := C
  clear C hp
  have hmf : ∀ (fn : Fn) (first cap : Array Value) (w : World), (Instr.makeFunc fn first cap).run Tryz.prog w = .ok (.func fn first cap) w := fun _ _ _ _ => rfl
  go_enter Tryz.func83, Tryz.ntmps83
  go_wp2_with fail
  refine (HC.out _ rfl).mono ?_
  rintro r w1 ⟨v1, rfl, hp1, hk1, hi1, hr1⟩
  have HP1 : Hid (PS b c cap len s d (Sp.run s (n + 1) .query d σ) w1) := hp1
  have HK1 : Hid (Kept b w w1) := ((Kept.refl b w).alloc _).trans hk1
  have HI1 : Hid (IsIf v1) := hi1
  have HR1 : Hid ((Sp.run s (n + 1) .query d σ).isLive = true → Rp w1 (Sp.tr s (n + 1) .query d .nil σ) w.heap.size w1.heap.size v1) := fun hl => Rp.wide _ _ _ _ _ _ (hr1 hl) (by simp) (Nat.le_refl _)
  clear hp1 hk1 hi1 hr1
  go_wp2_with fail
  go_ret
  exact ⟨_, rfl, HP1.out, HK1.out, HI1.out, HR1.out⟩

set_option maxHeartbeats 1000000 in
theorem term_step {b c cap len : Nat} {s : Sp.Bs} {n : Nat} (IH : Hid (∀ m, m ≤ n → All b c cap len s m)) : Sd b c cap len s (n + 1) .term IsIf 133 := by
  intro d σ w hd hm hp
  have hbw := hp.lb
  have hm' : 32 * Sp.rem s σ + Sp.lev .term ≤ n + 1 := hm
  have hm1 : 32 * Sp.rem s σ + Sp.lev .factor ≤ n := by simp only [Sp.lev] at hm' ⊢; omega
  have hm2 : 32 * Sp.rem s σ + 1 ≤ n := by simp only [Sp.lev] at hm'; omega
  clear hm hm'
  have C : ∀ w0, w0 = w.alloc (.cells #[.string ⟨#[105, 110, 116, 101, 114, 115, 101, 99, 116]⟩] 9) → Calls Tryz.prog 132 #[.pointer (some ⟨b, 0, none⟩), .func (.func 176) #[.pointer (some ⟨b, 0, none⟩)] #[], .slice (some ⟨w.heap.size, 0, none⟩) 1 1] w0 (PostV b c cap len s d (Sp.run s n .termL d (Sp.run s n .factor d σ)) w0 IsIf fun w' v => Rp w' (Sp.tr s n .termL d (Sp.tr s n .factor d .nil σ) (Sp.run s n .factor d σ)) w0.heap.size w'.heap.size v) := by
    intro w0 e
    subst e
    refine combined_factor .factor .termL [[105, 110, 116, 101, 114, 115, 101, 99, 116]] (by decide) (fun m hm => (IH.out m hm).factor) ?_ ?_ d σ _ (by omega) hm1 hm2 (hp.alloc _) w.heap.size 1 (words_lit rfl (by decide) (by decide)) (by omega) rfl
    · intro m d σ; rw [Sp.run, one_is]
    · intro m d a σ; rw [Sp.tr, one_is]
  have HC : Hid (∀ w0, w0 = w.alloc (.cells #[.string ⟨#[105, 110, 116, 101, 114, 115, 101, 99, 116]⟩] 9) → Calls Tryz.prog 132 #[.pointer (some ⟨b, 0, none⟩), .func (.func 176) #[.pointer (some ⟨b, 0, none⟩)] #[], .slice (some ⟨w.heap.size, 0, none⟩) 1 1] w0 (PostV b c cap len s d (Sp.run s n .termL d (Sp.run s n .factor d σ)) w0 IsIf fun w' v => Rp w' (Sp.tr s n .termL d (Sp.tr s n .factor d .nil σ) (Sp.run s n .factor d σ)) w0.heap.size w'.heap.size v)) := C
  clear C hp
  have hmf : ∀ (fn : Fn) (first cap : Array Value) (w : World), (Instr.makeFunc fn first cap).run Tryz.prog w = .ok (.func fn first cap) w := fun _ _ _ _ => rfl
  go_enter Tryz.func133, Tryz.ntmps133
  go_wp2_with fail
  refine (HC.out _ rfl).mono ?_
  rintro r w1 ⟨v1, rfl, hp1, hk1, hi1, hr1⟩
  have HP1 : Hid (PS b c cap len s d (Sp.run s (n + 1) .term d σ) w1) := hp1
  have HK1 : Hid (Kept b w w1) := ((Kept.refl b w).alloc _).trans hk1
  have HI1 : Hid (IsIf v1) := hi1
  have HR1 : Hid ((Sp.run s (n + 1) .term d σ).isLive = true → Rp w1 (Sp.tr s (n + 1) .term d .nil σ) w.heap.size w1.heap.size v1) := fun hl => Rp.wide _ _ _ _ _ _ (hr1 hl) (by simp) (Nat.le_refl _)
  clear hp1 hk1 hi1 hr1
  go_wp2_with fail
  go_ret
  exact ⟨_, rfl, HP1.out, HK1.out, HI1.out, HR1.out⟩

end Go.Proofs.YtgnncnhkgmhngaaGreatDoor
