import Derived.Test.YtpgeiieapkbjhaaGreatDoorA2
namespace Go.Proofs.YtpgeiieapkbjhaaGreatDoor
open Go.RowKit

/-- textLength's answer. -/
def txl (l : Sp.Bs) : Nat := match Sp.txtLen l with | some n => n + 1 | none => 0

/-- What is left to be read of a text, at place k of s. -/
def txr (s : ByteArray) (k : Nat) : Nat := match Sp.txtLen (s.data.toList.drop k) with | some n => k + n | none => 0

theorem drop_cons (s : ByteArray) (k : Nat) (h : k < s.size) : s.data.toList.drop k = s[k] :: s.data.toList.drop (k + 1) := List.drop_eq_getElem_cons (by simpa using h)

theorem u8ne (c k : UInt8) : ((c.toNat : Int) != (k.toNat : Int)) = (c != k) := by simp only [bne, u8_eq]

theorem txtLen_other (c : UInt8) (r : Sp.Bs) (h : (c == 39) = false) : Sp.txtLen (c :: r) = (Sp.txtLen r).map (· + 1) := by cases r <;> simp [Sp.txtLen, h]

theorem txr_other (s : ByteArray) (k : Nat) (h : k < s.size) (hne : ((s[k].toNat : Int) != 39) = true) : txr s k = txr s (k + 1) := by
  have e : (s[k] == 39) = false := by
    have := u8ne s[k] 39
    rw [show ((39 : UInt8).toNat : Int) = 39 from rfl] at this
    rw [hne] at this; simpa [bne] using this.symm
  unfold txr
  rw [drop_cons s k h, txtLen_other _ _ e]
  cases Sp.txtLen (s.data.toList.drop (k + 1)) <;> simp; omega

theorem q_eq (s : ByteArray) (k : Nat) (h : k < s.size) (hne : ((s[k].toNat : Int) != 39) = false) : (s[k] == 39) = true := by
  have := u8ne s[k] 39
  rw [show ((39 : UInt8).toNat : Int) = 39 from rfl] at this
  rw [hne] at this; simpa [bne] using this.symm

theorem q_ne (s : ByteArray) (k : Nat) (h : k < s.size) (hne : ((s[k].toNat : Int) != 39) = true) : (s[k] == 39) = false := by
  have := u8ne s[k] 39
  rw [show ((39 : UInt8).toNat : Int) = 39 from rfl] at this
  rw [hne] at this; simpa [bne] using this.symm

theorem txr_last (s : ByteArray) (k : Nat) (h : k + 1 = s.size) (hne : ((s[k].toNat : Int) != 39) = false) : txr s k = k + 1 := by
  unfold txr
  rw [drop_cons s k (by omega), List.drop_of_length_le (by simp; omega), Sp.txtLen, q_eq s k (by omega) hne]; rfl

theorem txr_close (s : ByteArray) (k : Nat) (h : k + 1 < s.size) (hne : ((s[k].toNat : Int) != 39) = false) (hn : ((s[k + 1].toNat : Int) != 39) = true) : txr s k = k + 1 := by
  unfold txr
  rw [drop_cons s k (by omega), drop_cons s (k + 1) h, Sp.txtLen, q_eq s k (by omega) hne]
  simp [q_ne s (k + 1) h hn]

theorem txr_pair (s : ByteArray) (k : Nat) (h : k + 1 < s.size) (hne : ((s[k].toNat : Int) != 39) = false) (hn : ((s[k + 1].toNat : Int) != 39) = false) : txr s k = txr s (k + 2) := by
  unfold txr
  rw [drop_cons s k (by omega), drop_cons s (k + 1) h, Sp.txtLen, q_eq s k (by omega) hne]
  simp only [q_eq s (k + 1) h hn, if_true]
  cases Sp.txtLen (s.data.toList.drop (k + 1 + 1)) <;> simp; omega

theorem txr_end (s : ByteArray) (k : Nat) (h : s.size ≤ k) : txr s k = 0 := by
  unfold txr; rw [List.drop_of_length_le (by simpa using h)]; rfl

theorem txr_one (s : ByteArray) : txr s 1 = txl (s.data.toList.drop 1) := by
  unfold txr txl; cases Sp.txtLen (s.data.toList.drop 1) <;> simp; omega

theorem txtLen_le : ∀ (l : Sp.Bs) (n : Nat), Sp.txtLen l = some n → n ≤ l.length
  | [], n, h => by simp [Sp.txtLen] at h
  | c :: [], n, h => by
    simp only [Sp.txtLen] at h
    split at h
    · simp at h; simp; omega
    · simp at h
  | c :: c' :: r, n, h => by
    by_cases hc : (c == 39) = true
    · by_cases hc' : (c' == 39) = true
      · simp only [Sp.txtLen, hc, hc', if_true] at h
        cases hr : Sp.txtLen r with
        | none => rw [hr] at h; simp at h
        | some m =>
          rw [hr] at h
          have := txtLen_le r m hr
          simp at h; simp; omega
      · simp only [Sp.txtLen, hc, hc', if_true] at h
        simp at h; simp; omega
    · have hc'' : (c == 39) = false := by simpa using hc
      rw [txtLen_other c _ hc''] at h
      cases hr : Sp.txtLen (c' :: r) with
      | none => rw [hr] at h; simp at h
      | some m =>
        rw [hr] at h
        have := txtLen_le (c' :: r) m hr
        simp at h; simp at this ⊢; omega

theorem txr_le (s : ByteArray) (k : Nat) (hk : k ≤ s.size) : txr s k ≤ s.size := by
  unfold txr
  cases h : Sp.txtLen (s.data.toList.drop k) with
  | none => simp
  | some n =>
    have := txtLen_le _ _ h
    simp at this ⊢; omega

set_option maxHeartbeats 1000000 in
theorem textLength_any (s : ByteArray) (w : World) (h0 : 0 < s.size) (hs : s.size ≤ maxLen) :
    Calls Tryz.prog 92 #[.string s] w fun e w' => e = .returned (.int .i64 (txr s 1 : Nat)) ∧ w' = w := by
  unfold maxLen at hs
  go_enter Tryz.func92, Tryz.ntmps92
  go_wp2
  go_loop [3] (fun i => ∃ k : Nat, 1 ≤ k ∧ k ≤ s.size + 1 ∧ i = .int .i64 k ∧ Hid (txr s k = txr s 1)) (fun i => s.size + 2 - (intOf i).toNat)
  case atStart => exact ⟨1, Nat.le_refl _, by omega, rfl, rfl⟩
  case round =>
    obtain ⟨k, hk1, hk, rfl, HR⟩ := hrel
    by_cases hlt : k < s.size
    · cases hq : ((s[k].toNat : Int) != 39)
      · by_cases hl : k + 1 = s.size
        · have HV : Hid (txr s k = k + 1) := txr_last s k hl hq
          have hb : ((k : Int) + 1 == (s.size : Int)) = true := by simp; omega
          go_wp2
          go_ret
          exact ⟨ret_int (by rw [← HR.out, HV.out]; rfl), rfl⟩
        · have hl2 : k + 1 < s.size := by omega
          have hb : ((k : Int) + 1 == (s.size : Int)) = false := by simp; omega
          cases hq2 : ((s[k + 1].toNat : Int) != 39)
          · have HV : Hid (txr s k = txr s (k + 2)) := txr_pair s k hl2 hq hq2
            go_wp2
            go_round
            case rel => exact ⟨k + 2, by omega, by omega, by go_num, by show _ = _; rw [← HV.out, HR.out]⟩
            case measure => simp [intOf]; omega
          · have HV : Hid (txr s k = k + 1) := txr_close s k hl2 hq hq2
            go_wp2
            go_ret
            exact ⟨ret_int (by rw [← HR.out, HV.out]; rfl), rfl⟩
      · have HV : Hid (txr s k = txr s (k + 1)) := txr_other s k hlt hq
        go_wp2
        go_round
        case rel => exact ⟨k + 1, by omega, by omega, by go_num, by show _ = _; rw [← HV.out, HR.out]⟩
        case measure => simp [intOf]; omega
    · have HV : Hid (txr s k = 0) := txr_end s k (by omega)
      go_wp2
      go_ret
      exact ⟨ret_int (by rw [← HR.out, HV.out]; rfl), rfl⟩
end Go.Proofs.YtpgeiieapkbjhaaGreatDoor
