import Derived.Test.YtpgeiieapkbjhaaGreatDoorR0
namespace Go.Proofs.YtpgeiieapkbjhaaGreatDoor
open Go.RowKit

set_option maxHeartbeats 400000 in
theorem small_any (c : UInt8) (w : World) :
    Calls Tryz.prog 66 #[.int .u8 (c.toNat : Int)] w fun e w' => e = .returned (.bool (Sp.isLo c)) ∧ w' = w := by
  have E : Hid (Sp.isLo c = (decide (97 ≤ (c.toNat : Int)) && decide ((c.toNat : Int) ≤ 122))) := by
    show Sp.isLo c = _
    rw [Sp.isLo, Bool.eq_iff_iff]; simp [UInt8.le_iff_toNat_le]; omega
  go_enter Tryz.func66, Tryz.ntmps66
  go_wp2
  all_goals go_ret
  all_goals exact ⟨ret_bool (by rw [E.out]; first | (simp [*]; done) | (simp; omega)), rfl⟩

set_option maxHeartbeats 400000 in
theorem digit_any (c : UInt8) (w : World) :
    Calls Tryz.prog 67 #[.int .u8 (c.toNat : Int)] w fun e w' => e = .returned (.bool (Sp.isDg c)) ∧ w' = w := by
  have E : Hid (Sp.isDg c = (decide (48 ≤ (c.toNat : Int)) && decide ((c.toNat : Int) ≤ 57))) := by
    show Sp.isDg c = _
    rw [Sp.isDg, Bool.eq_iff_iff]; simp [UInt8.le_iff_toNat_le]; omega
  go_enter Tryz.func67, Tryz.ntmps67
  go_wp2
  all_goals go_ret
  all_goals exact ⟨ret_bool (by rw [E.out]; first | (simp [*]; done) | (simp; omega)), rfl⟩

/-- The reference's names of the kinds. -/
def kname : Sp.Cl → Sp.Bs | .fin => [101, 110, 100] | .bad => [98, 97, 100] | .key => [107, 101, 121] | .name => [110, 97, 109, 101] | .num => [110, 117, 109, 98, 101, 114] | .txt => [116, 101, 120, 116]

/-- What token hands back. -/
def TR (s : ByteArray) (a : Nat) (w : World) (e : Ending) (w' : World) : Prop :=
  ∃ (kd ts : ByteArray) (tn en : Int), e = .returned (.tuple #[.agg #[.string kd, .int .i64 (Sp.tokAt s.data.toList a : Nat), .string ts, .int .i64 tn], .int .i64 en]) ∧ kd.toList = kname (Sp.tokCl s.data.toList a) ∧ (Sp.tokCl s.data.toList a = .key → ts.toList = Sp.tokWord s.data.toList a) ∧ (Sp.tokCl s.data.toList a ≠ .bad → en = (Sp.tokEnd s.data.toList a : Nat)) ∧ Below w.heap.size w w'

theorem sp_true {s : ByteArray} {k : Nat} (h : k < s.size) (hc : Sp.isSp s[k] = true) : ((s[k].toNat : Int) == 32) = true ∨ (((s[k].toNat : Int) == 32) = false ∧ ((s[k].toNat : Int) == 10) = true) := by
  have e1 := u8_eq s[k] 32
  have e2 := u8_eq s[k] 10
  simp only [Sp.isSp, ← e1, ← e2, Bool.or_eq_true] at hc
  cases h1 : ((s[k].toNat : Int) == 32)
  · rcases hc with hc | hc
    · exact absurd (h1.symm.trans hc) (by decide)
    · exact Or.inr ⟨rfl, hc⟩
  · exact Or.inl rfl
theorem sp_false {s : ByteArray} {k : Nat} (h : k < s.size) (hc : Sp.isSp s[k] = false) : ((s[k].toNat : Int) == 32) = false ∧ ((s[k].toNat : Int) == 10) = false := by
  have e1 := u8_eq s[k] 32
  have e2 := u8_eq s[k] 10
  simp only [Sp.isSp, ← e1, ← e2, Bool.or_eq_false_iff] at hc
  exact hc

theorem data_cons_at (s : ByteArray) (k : Nat) (h : k < s.size) : s.data.toList.drop k = s[k] :: s.data.toList.drop (k + 1) := drop_cons s k h

theorem tok_nil {s : ByteArray} {a : Nat} (h : Sp.tokAt s.data.toList a = s.size) : Sp.tokCl s.data.toList a = .fin ∧ Sp.tokEnd s.data.toList a = s.size := by
  have e : s.data.toList.drop (Sp.tokAt s.data.toList a) = [] := List.drop_of_length_le (by rw [h, size_data]; exact Nat.le_refl _)
  unfold Sp.tokEnd Sp.tokLen Sp.tokCl
  rw [e]
  exact ⟨rfl, by rw [h]; rfl⟩


set_option maxRecDepth 100000 in
set_option maxHeartbeats 4000000 in
theorem token_end (s : ByteArray) (a : Nat) (w : World) (hs : s.size ≤ 2000) (ha : a ≤ s.size) (HA : Hid (Sp.tokAt s.data.toList a = s.size)) :
    Calls Tryz.prog 33 #[.string s, .int .i64 a] w (TR s a w) := by
  go_enter Tryz.func33, Tryz.ntmps33
  go_wp2_with fail
  go_loop [1] (fun x => ∃ k : Nat, a ≤ k ∧ k ≤ s.size ∧ x = .int .i64 k ∧ Hid (s.size = k + Sp.many Sp.isSp (s.data.toList.drop k))) (fun x => s.size - (intOf x).toNat)
  case atStart => exact ⟨a, Nat.le_refl _, ha, rfl, HA.out.symm⟩
  case round =>
    obtain ⟨k, hak, hk, rfl, HR⟩ := hrel
    by_cases hlt : k < s.size
    · cases hp : Sp.isSp s[k]
      · exfalso
        have := HR.out; rw [many_stop _ s k hlt hp] at this; omega
      · have HV : Hid (s.size = k + 1 + Sp.many Sp.isSp (s.data.toList.drop (k + 1))) := by show _ = _; have := HR.out; rw [many_step _ s k hlt hp] at this; omega
        clear HR
        rcases sp_true hlt hp with b1 | ⟨b1, b2⟩
        all_goals
          go_wp2_with fail
          go_round
          case rel => exact ⟨k + 1, by omega, by omega, by go_num, HV.out⟩
          case measure => simp [intOf]; omega
    · have hkb : ((k : Int) == (s.size : Int)) = true := by simp; omega
      have HKS : Hid (k = s.size) := by show _ = _; omega
      have HT : Hid (Sp.tokCl s.data.toList a = .fin ∧ Sp.tokEnd s.data.toList a = s.size) := tok_nil HA.out
      clear HR
      go_wp2_with fail
      exact bodyPost_ret (v := .tuple #[.agg #[.string ⟨#[101, 110, 100]⟩, .int .i64 k, .string ⟨#[]⟩, .int .i64 0], .int .i64 k]) (by simp [results, Tryz.results33, go_sem]) rfl ⟨_, _, _, _, by rw [HA.out, HKS.out], by rw [HT.out.1]; exact ByteArray.toList_mk _, fun h => absurd (HT.out.1.symm.trans h) (by decide), fun _ => by rw [HT.out.2], (Below.refl _ _).alloc (Nat.le_refl _) _⟩

theorem tok_of {s : Sp.Bs} {a A : Nat} (h : Sp.tokAt s a = A) : Sp.tokCl s a = (Sp.first (s.drop A)).1 ∧ Sp.tokEnd s a = A + (Sp.first (s.drop A)).2 ∧ Sp.tokWord s a = (s.drop A).take (Sp.first (s.drop A)).2 := by
  unfold Sp.tokEnd Sp.tokWord Sp.tokLen Sp.tokCl; rw [h]; exact ⟨rfl, rfl, rfl⟩

theorem ext_mid (s : ByteArray) (i j : Nat) : (s.extract i j).toList = (s.data.toList.drop i).take (j - i) := by rw [ByteArray.toList_eq, Lib.extract_data]

theorem wd_true {s : ByteArray} {k : Nat} (h : k < s.size) (hc : Sp.isWd s[k] = true) : Sp.isLo s[k] = true ∨ (Sp.isLo s[k] = false ∧ Sp.isDg s[k] = true) ∨ (Sp.isLo s[k] = false ∧ Sp.isDg s[k] = false ∧ ((s[k].toNat : Int) == 95) = true) := by
  have e1 := u8_eq s[k] 95
  simp only [Sp.isWd, ← e1, Bool.or_eq_true] at hc
  cases h1 : Sp.isLo s[k]
  · cases h2 : Sp.isDg s[k]
    · rw [h1, h2] at hc
      rcases hc with (hc | hc) | hc
      · cases hc
      · cases hc
      · exact Or.inr (Or.inr ⟨rfl, rfl, hc⟩)
    · exact Or.inr (Or.inl ⟨rfl, rfl⟩)
  · exact Or.inl rfl
theorem wd_false {s : ByteArray} {k : Nat} (h : k < s.size) (hc : Sp.isWd s[k] = false) : Sp.isLo s[k] = false ∧ Sp.isDg s[k] = false ∧ ((s[k].toNat : Int) == 95) = false := by
  have e1 := u8_eq s[k] 95
  simp only [Sp.isWd, ← e1, Bool.or_eq_false_iff] at hc
  exact ⟨hc.1.1, hc.1.2, hc.2⟩

end Go.Proofs.YtpgeiieapkbjhaaGreatDoor
