import Derived.Test.YtgnncnhkgmhngaaGreatDoorA2
import Derived.Test.YtgnncnhkgmhngaaGreatDoorA4
import Derived.Test.YtgnncnhkgmhngaaGreatDoorShelf
import Derived.Lib.AtoiErrMem
namespace Go.Proofs.YtgnncnhkgmhngaaGreatDoor
open Go.RowKit

def numF (a : Nat) (l : Sp.Bs) : Nat := l.foldl (fun a c => a * 10 + (c.toNat - 48)) a
theorem numF_ge : ∀ (l : Sp.Bs) (a : Nat), a ≤ numF a l
  | [], a => Nat.le_refl _
  | c :: r, a => by
    have := numF_ge r (a * 10 + (c.toNat - 48))
    simp only [numF, List.foldl_cons] at this ⊢
    omega

theorem dg_iff (c : UInt8) : Sp.isDg c = true ↔ 48 ≤ c.toNat ∧ c.toNat ≤ 57 := by
  simp [Sp.isDg, UInt8.le_iff_toNat_le]

theorem uintM (M : Nat) (hM : M = 18446744073709551615) : ∀ (l : Sp.Bs) (a : Nat), l.all Sp.isDg = true → a ≤ M → Lib.parseUintM M a l = if numF a l ≤ M then .ok (numF a l) else .range
  | [], a, _, ha => by simp [Lib.parseUintM, numF, ha]
  | c :: r, a, hd, ha => by
    simp only [List.all_cons, Bool.and_eq_true] at hd
    have hc := (dg_iff c).1 hd.1
    have hg := numF_ge r (a * 10 + (c.toNat - 48))
    have he : numF a (c :: r) = numF (a * 10 + (c.toNat - 48)) r := rfl
    rw [Lib.parseUintM, if_pos hc, he]
    by_cases h1 : 1844674407370955162 ≤ a
    · rw [if_pos h1, if_neg (by omega)]
    · rw [if_neg h1]
      by_cases h2 : M < a * 10 + (c.toNat - 48)
      · rw [if_pos h2, if_neg (by omega)]
      · rw [if_neg h2, uintM M hM r _ hd.2 (by omega)]

theorem uintB {l : Sp.Bs} (h : l ≠ []) (hd : l.all Sp.isDg = true) : Lib.parseUintB 64 l = if Sp.numVal l ≤ 18446744073709551615 then .ok (Sp.numVal l) else .range := by
  rw [Lib.parseUintB, if_neg h, uintM _ rfl l 0 hd (by omega)]; rfl

theorem intB_ok {l : Sp.Bs} (h : l ≠ []) (hd : l.all Sp.isDg = true) (hv : Sp.numVal l < 9223372036854775808) : Lib.parseIntB 64 l = .ok (Sp.numVal l : Int) := by
  cases l with
  | nil => exact absurd rfl h
  | cons c r =>
    have hc := (dg_iff c).1 (by simp only [List.all_cons, Bool.and_eq_true] at hd; exact hd.1)
    rw [Lib.parseIntB]
    simp only [show ¬ (c.toNat = 43) from by omega, show ¬ (c.toNat = 45) from by omega, or_self, if_false]
    rw [uintB h hd, if_pos (by omega)]
    simp only [not_false_eq_true, true_and, false_and, if_false]
    rw [if_neg (by omega)]

theorem intB_range {l : Sp.Bs} (h : l ≠ []) (hd : l.all Sp.isDg = true) (hv : ¬ Sp.numVal l < 9223372036854775808) : Lib.parseIntB 64 l = .range := by
  cases l with
  | nil => exact absurd rfl h
  | cons c r =>
    have hc := (dg_iff c).1 (by simp only [List.all_cons, Bool.and_eq_true] at hd; exact hd.1)
    rw [Lib.parseIntB]
    simp only [show ¬ (c.toNat = 43) from by omega, show ¬ (c.toNat = 45) from by omega, or_self, if_false]
    rw [uintB h hd]
    by_cases hu : Sp.numVal (c :: r) ≤ 18446744073709551615
    · rw [if_pos hu]
      simp only [not_false_eq_true, true_and, false_and, if_false]
      rw [if_pos (by omega)]
    · rw [if_neg hu]

/-- strconv.ErrRange holds an error. -/
def VR (w : World) : Prop := ∃ te pe, w.cell? ⟨1, 0, none⟩ = some (.iface te pe) ∧ 1 < w.heap.size

set_option maxHeartbeats 1000000 in
theorem numberKind_ok (s : ByteArray) (w : World) (hne : s.data.toList ≠ []) (hd : s.data.toList.all Sp.isDg = true) (hs : s.size ≤ 100000) (hv : Sp.numVal s.data.toList < 9223372036854775808) :
    Calls Tryz.prog 118 #[.string s] w fun e w' => e = .returned (.int .i64 (kn .num)) ∧ Below w.heap.size w w' := by
  have H : Hid (Lib.parseIntB 64 s.data.toList = .ok (Sp.numVal s.data.toList : Int)) := intB_ok hne hd hv
  clear hne hd hv
  go_enter Tryz.func118, Tryz.ntmps118
  go_wp2_with fail
  refine (Tryz.strconv_ParseInt_10_at64_ok s (by omega) _ H.out _).mono ?_
  rintro e w' ⟨rfl, hw⟩
  have HW : Hid (Below w.heap.size w w') := by
    rcases hw with rfl | ⟨t, rfl⟩
    · exact Below.refl _ _
    · exact Lib.bytesWorld_below _ _ _
  clear hw
  go_wp2_with fail
  go_ret
  exact ⟨rfl, HW.out⟩

set_option maxHeartbeats 1000000 in
theorem numberKind_bad (s : ByteArray) (w : World) (hne : s.data.toList ≠ []) (hd : s.data.toList.all Sp.isDg = true) (hs : s.size ≤ 100000) (hv : ¬ Sp.numVal s.data.toList < 9223372036854775808) (hr : VR w) :
    Calls Tryz.prog 118 #[.string s] w fun e w' => e = .returned (.int .i64 (kn .bad)) ∧ Below w.heap.size w w' := by
  have H : Hid (Lib.parseIntB 64 s.data.toList = .range) := intB_range hne hd hv
  clear hne hd hv
  obtain ⟨te, pe, hc, _⟩ := hr
  have HC : Hid (w.cell? ⟨1, 0, none⟩ = some (.iface te pe)) := hc
  clear hc
  go_enter Tryz.func118, Tryz.ntmps118
  go_wp2_with fail
  refine (Tryz.strconv_ParseInt_10_at64_range s (by omega) H.out (.iface te pe) _ HC.out (Or.inr ⟨te, pe, rfl⟩)).mono ?_
  rintro e w' ⟨N, rfl, _, _, hb⟩
  have HW : Hid (Below w.heap.size w w') := hb
  clear hb
  go_wp2_with fail
  go_ret
  exact ⟨rfl, HW.out⟩
end Go.Proofs.YtgnncnhkgmhngaaGreatDoor
