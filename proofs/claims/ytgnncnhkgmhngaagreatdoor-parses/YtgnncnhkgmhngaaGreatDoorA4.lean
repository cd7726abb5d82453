import Derived.Test.YtgnncnhkgmhngaaGreatDoorA2
import Derived.Lib.Strings
namespace Go.Proofs.YtgnncnhkgmhngaaGreatDoor
open Go.RowKit

theorem data_cons (s : ByteArray) (h0 : 0 < s.size) : s.data.toList = s[0] :: s.data.toList.drop 1 := by
  have hk : 0 < s.data.toList.length := by simpa using h0
  have := List.drop_eq_getElem_cons hk
  rw [List.drop_zero] at this
  exact this

theorem data_cons2 (s : ByteArray) (h0 : 1 < s.size) : s.data.toList = s[0] :: s[1] :: s.data.toList.drop 2 := by
  have hk : 0 < s.data.toList.length := by simp; omega
  have hk1 : 1 < s.data.toList.length := by simpa using h0
  have e := List.drop_eq_getElem_cons hk
  have e1 := List.drop_eq_getElem_cons hk1
  rw [List.drop_zero] at e
  rw [e, e1]; rfl

theorem ext2 (s : ByteArray) (h0 : 1 < s.size) : (s.extract 0 2).toList = [s[0], s[1]] := by
  rw [ByteArray.toList_eq, Lib.extract_data]
  conv => lhs; rw [data_cons2 s h0]
  rfl

theorem one_cases (s : ByteArray) (h0 : 0 < s.size) : (Sp.isOne s[0] = true ∧ ((s[0].toNat : Int) = 40 ∨ (s[0].toNat : Int) = 41 ∨ (s[0].toNat : Int) = 44 ∨ (s[0].toNat : Int) = 46 ∨ (s[0].toNat : Int) = 42 ∨ (s[0].toNat : Int) = 43 ∨ (s[0].toNat : Int) = 45 ∨ (s[0].toNat : Int) = 47 ∨ (s[0].toNat : Int) = 61 ∨ (s[0].toNat : Int) = 60 ∨ (s[0].toNat : Int) = 62)) ∨ (Sp.isOne s[0] = false ∧ ((((s[0].toNat : Int) == 40) = false) ∧ (((s[0].toNat : Int) == 41) = false) ∧ (((s[0].toNat : Int) == 44) = false) ∧ (((s[0].toNat : Int) == 46) = false) ∧ (((s[0].toNat : Int) == 42) = false) ∧ (((s[0].toNat : Int) == 43) = false) ∧ (((s[0].toNat : Int) == 45) = false) ∧ (((s[0].toNat : Int) == 47) = false) ∧ (((s[0].toNat : Int) == 61) = false) ∧ (((s[0].toNat : Int) == 60) = false) ∧ (((s[0].toNat : Int) == 62) = false))) := by
  have e : ∀ k : UInt8, ((s[0].toNat : Int) == (k.toNat : Int)) = (s[0] == k) := fun k => u8_eq _ k
  cases h : Sp.isOne s[0]
  · right
    refine ⟨rfl, ?_⟩
    simp only [Sp.isOne, Bool.or_eq_false_iff] at h
    obtain ⟨⟨⟨⟨⟨⟨⟨⟨⟨⟨a1, a2⟩, a3⟩, a4⟩, a5⟩, a6⟩, a7⟩, a8⟩, a9⟩, a10⟩, a11⟩ := h
    exact ⟨(e 40).trans a1, (e 41).trans a2, (e 44).trans a3, (e 46).trans a4, (e 42).trans a5, (e 43).trans a6, (e 45).trans a7, (e 47).trans a8, (e 61).trans a9, (e 60).trans a10, (e 62).trans a11⟩
  · left
    refine ⟨rfl, ?_⟩
    simp only [Sp.isOne, Bool.or_eq_true, beq_iff_eq] at h
    rcases h with ((((((((((h | h) | h) | h) | h) | h) | h) | h) | h) | h) | h) <;> rw [h] <;> decide

theorem sl_two (s : ByteArray) (h1 : 1 < s.size) {a b : UInt8} (h : ((s.extract 0 2).toList == [a, b]) = true) (hab : Sp.isTwo a b = true) : Sp.signLen s.data.toList = 2 := by
  rw [ext2 s h1] at h
  have := eq_of_beq h
  simp only [List.cons.injEq, and_true] at this
  rw [data_cons2 s h1, this.1, this.2, Sp.signLen, hab]; rfl

theorem sl_notwo (s : ByteArray) (h1 : 1 < s.size) (t1 : ((s.extract 0 2).toList == [60, 62]) = false) (t2 : ((s.extract 0 2).toList == [60, 61]) = false) (t3 : ((s.extract 0 2).toList == [62, 61]) = false) :
    Sp.signLen s.data.toList = if Sp.isOne s[0] then 1 else 0 := by
  rw [ext2 s h1] at t1 t2 t3
  have : Sp.isTwo s[0] s[1] = false := by
    simp only [Sp.isTwo]
    have z : (([] : List UInt8) == []) = true := rfl
    simp only [List.cons_beq_cons, z, Bool.and_true] at t1 t2 t3
    rw [t1, t2, t3]; rfl
  rw [data_cons2 s h1, Sp.signLen, this]; rfl

theorem sl_short (s : ByteArray) (h0 : 0 < s.size) (h1 : ¬ 1 < s.size) : Sp.signLen s.data.toList = if Sp.isOne s[0] then 1 else 0 := by
  have e := data_cons s h0
  have : s.data.toList.drop 1 = [] := List.drop_of_length_le (by simp; omega)
  rw [this] at e
  rw [e, Sp.signLen]

set_option maxHeartbeats 2000000 in
theorem signLength_any (s : ByteArray) (w : World) (h0 : 0 < s.size) (hs : s.size ≤ maxLen) :
    Calls Tryz.prog 121 #[.string s] w fun e w' => e = .returned (.int .i64 (Sp.signLen s.data.toList : Nat)) ∧ w' = w := by
  unfold maxLen at hs
  by_cases h1 : 1 < s.size
  · cases t1 : ((s.extract 0 2).toList == [60, 62])
    · cases t2 : ((s.extract 0 2).toList == [60, 61])
      · cases t3 : ((s.extract 0 2).toList == [62, 61])
        · have HL : Hid (Sp.signLen s.data.toList = if Sp.isOne s[0] then 1 else 0) := sl_notwo s h1 t1 t2 t3
          rcases one_cases s h0 with ⟨h, hd⟩ | ⟨h, g1, g2, g3, g4, g5, g6, g7, g8, g9, g10, g11⟩
          · have HV : Hid (Sp.signLen s.data.toList = 1) := by show _ = _; rw [HL.out, h]; rfl
            clear HL h
            rcases hd with hd | hd | hd | hd | hd | hd | hd | hd | hd | hd | hd
            all_goals
              go_enter Tryz.func121, Tryz.ntmps121
              go_wp2
              go_ret
              exact ⟨ret_int (by rw [HV.out]; rfl), rfl⟩
          · have HV : Hid (Sp.signLen s.data.toList = 0) := by show _ = _; rw [HL.out, h]; rfl
            clear HL h
            go_enter Tryz.func121, Tryz.ntmps121
            go_wp2
            go_ret
            exact ⟨ret_int (by rw [HV.out]; rfl), rfl⟩
        · have HV : Hid (Sp.signLen s.data.toList = 2) := sl_two s h1 t3 rfl
          go_enter Tryz.func121, Tryz.ntmps121
          go_wp2
          go_ret
          exact ⟨ret_int (by rw [HV.out]; rfl), rfl⟩
      · have HV : Hid (Sp.signLen s.data.toList = 2) := sl_two s h1 t2 rfl
        go_enter Tryz.func121, Tryz.ntmps121
        go_wp2
        go_ret
        exact ⟨ret_int (by rw [HV.out]; rfl), rfl⟩
    · have HV : Hid (Sp.signLen s.data.toList = 2) := sl_two s h1 t1 rfl
      go_enter Tryz.func121, Tryz.ntmps121
      go_wp2
      go_ret
      exact ⟨ret_int (by rw [HV.out]; rfl), rfl⟩
  · have HL : Hid (Sp.signLen s.data.toList = if Sp.isOne s[0] then 1 else 0) := sl_short s h0 h1
    rcases one_cases s h0 with ⟨h, hd⟩ | ⟨h, g1, g2, g3, g4, g5, g6, g7, g8, g9, g10, g11⟩
    · have HV : Hid (Sp.signLen s.data.toList = 1) := by show _ = _; rw [HL.out, h]; rfl
      clear HL h
      rcases hd with hd | hd | hd | hd | hd | hd | hd | hd | hd | hd | hd
      all_goals
        go_enter Tryz.func121, Tryz.ntmps121
        go_wp2
        go_ret
        exact ⟨ret_int (by rw [HV.out]; rfl), rfl⟩
    · have HV : Hid (Sp.signLen s.data.toList = 0) := by show _ = _; rw [HL.out, h]; rfl
      clear HL h
      go_enter Tryz.func121, Tryz.ntmps121
      go_wp2
      go_ret
      exact ⟨ret_int (by rw [HV.out]; rfl), rfl⟩
end Go.Proofs.YtgnncnhkgmhngaaGreatDoor

namespace Go.Proofs.YtgnncnhkgmhngaaGreatDoor
open Go.RowKit

/-- textLength's answer. -/
def txl (l : Sp.Bs) : Nat := match Sp.txtLen l with | some n => n + 1 | none => 0

/-- What is left to be read of a text, at place k of s. -/
def txr (s : ByteArray) (k : Nat) : Nat := match Sp.txtLen (s.data.toList.drop k) with | some n => k + n | none => 0

theorem drop_cons (s : ByteArray) (k : Nat) (h : k < s.size) : s.data.toList.drop k = s[k] :: s.data.toList.drop (k + 1) := List.drop_eq_getElem_cons (by simpa using h)

theorem u8ne (c k : UInt8) : ((c.toNat : Int) != (k.toNat : Int)) = (c != k) := by simp only [bne, u8_eq]

theorem txtLen_other (c : UInt8) (r : Sp.Bs) (h : (c == 39) = false) : Sp.txtLen (c :: r) = (Sp.txtLen r).map (· + 1) := by cases r <;> simp [Sp.txtLen, h]

theorem txr_other (s : ByteArray) (k : Nat) (h : k < s.size) (hne : ((s[k].toNat : Int) != 39) = true) : txr s k = txr s (k + 1) := by
  have e : (s[k] == 39) = false := by
    have := u8ne s[k] 39
    rw [show ((39 : UInt8).toNat : Int) = 39 from rfl] at this
    rw [hne] at this; simpa [bne] using this.symm
  unfold txr
  rw [drop_cons s k h, txtLen_other _ _ e]
  cases Sp.txtLen (s.data.toList.drop (k + 1)) <;> simp; omega

theorem q_eq (s : ByteArray) (k : Nat) (h : k < s.size) (hne : ((s[k].toNat : Int) != 39) = false) : (s[k] == 39) = true := by
  have := u8ne s[k] 39
  rw [show ((39 : UInt8).toNat : Int) = 39 from rfl] at this
  rw [hne] at this; simpa [bne] using this.symm

theorem q_ne (s : ByteArray) (k : Nat) (h : k < s.size) (hne : ((s[k].toNat : Int) != 39) = true) : (s[k] == 39) = false := by
  have := u8ne s[k] 39
  rw [show ((39 : UInt8).toNat : Int) = 39 from rfl] at this
  rw [hne] at this; simpa [bne] using this.symm

theorem txr_last (s : ByteArray) (k : Nat) (h : k + 1 = s.size) (hne : ((s[k].toNat : Int) != 39) = false) : txr s k = k + 1 := by
  unfold txr
  rw [drop_cons s k (by omega), List.drop_of_length_le (by simp; omega), Sp.txtLen, q_eq s k (by omega) hne]; rfl

theorem txr_close (s : ByteArray) (k : Nat) (h : k + 1 < s.size) (hne : ((s[k].toNat : Int) != 39) = false) (hn : ((s[k + 1].toNat : Int) != 39) = true) : txr s k = k + 1 := by
  unfold txr
  rw [drop_cons s k (by omega), drop_cons s (k + 1) h, Sp.txtLen, q_eq s k (by omega) hne]
  simp [q_ne s (k + 1) h hn]

theorem txr_pair (s : ByteArray) (k : Nat) (h : k + 1 < s.size) (hne : ((s[k].toNat : Int) != 39) = false) (hn : ((s[k + 1].toNat : Int) != 39) = false) : txr s k = txr s (k + 2) := by
  unfold txr
  rw [drop_cons s k (by omega), drop_cons s (k + 1) h, Sp.txtLen, q_eq s k (by omega) hne]
  simp only [q_eq s (k + 1) h hn, if_true]
  cases Sp.txtLen (s.data.toList.drop (k + 1 + 1)) <;> simp; omega

theorem txr_end (s : ByteArray) (k : Nat) (h : s.size ≤ k) : txr s k = 0 := by
  unfold txr; rw [List.drop_of_length_le (by simpa using h)]; rfl

theorem txr_one (s : ByteArray) : txr s 1 = txl (s.data.toList.drop 1) := by
  unfold txr txl; cases Sp.txtLen (s.data.toList.drop 1) <;> simp; omega

theorem txtLen_le : ∀ (l : Sp.Bs) (n : Nat), Sp.txtLen l = some n → n ≤ l.length
  | [], n, h => by simp [Sp.txtLen] at h
  | c :: [], n, h => by
    simp only [Sp.txtLen] at h
    split at h
    · simp at h; simp; omega
    · simp at h
  | c :: c' :: r, n, h => by
    by_cases hc : (c == 39) = true
    · by_cases hc' : (c' == 39) = true
      · simp only [Sp.txtLen, hc, hc', if_true] at h
        cases hr : Sp.txtLen r with
        | none => rw [hr] at h; simp at h
        | some m =>
          rw [hr] at h
          have := txtLen_le r m hr
          simp at h; simp; omega
      · simp only [Sp.txtLen, hc, hc', if_true] at h
        simp at h; simp; omega
    · have hc'' : (c == 39) = false := by simpa using hc
      rw [txtLen_other c _ hc''] at h
      cases hr : Sp.txtLen (c' :: r) with
      | none => rw [hr] at h; simp at h
      | some m =>
        rw [hr] at h
        have := txtLen_le (c' :: r) m hr
        simp at h; simp at this ⊢; omega

theorem txr_le (s : ByteArray) (k : Nat) (hk : k ≤ s.size) : txr s k ≤ s.size := by
  unfold txr
  cases h : Sp.txtLen (s.data.toList.drop k) with
  | none => simp
  | some n =>
    have := txtLen_le _ _ h
    simp at this ⊢; omega

set_option maxHeartbeats 1000000 in
theorem textLength_any (s : ByteArray) (w : World) (h0 : 0 < s.size) (hs : s.size ≤ maxLen) :
    Calls Tryz.prog 120 #[.string s] w fun e w' => e = .returned (.int .i64 (txr s 1 : Nat)) ∧ w' = w := by
  unfold maxLen at hs
  go_enter Tryz.func120, Tryz.ntmps120
  go_wp2
  go_loop [3] (fun i => ∃ k : Nat, 1 ≤ k ∧ k ≤ s.size + 1 ∧ i = .int .i64 k ∧ Hid (txr s k = txr s 1)) (fun i => s.size + 2 - (intOf i).toNat)
  case atStart => exact ⟨1, Nat.le_refl _, by omega, rfl, rfl⟩
  case round =>
    obtain ⟨k, hk1, hk, rfl, HR⟩ := hrel
    by_cases hlt : k < s.size
    · cases hq : ((s[k].toNat : Int) != 39)
      · by_cases hl : k + 1 = s.size
        · have HV : Hid (txr s k = k + 1) := txr_last s k hl hq
          have hb : ((k : Int) + 1 == (s.size : Int)) = true := by simp; omega
          go_wp2
          go_ret
          exact ⟨ret_int (by rw [← HR.out, HV.out]; rfl), rfl⟩
        · have hl2 : k + 1 < s.size := by omega
          have hb : ((k : Int) + 1 == (s.size : Int)) = false := by simp; omega
          cases hq2 : ((s[k + 1].toNat : Int) != 39)
          · have HV : Hid (txr s k = txr s (k + 2)) := txr_pair s k hl2 hq hq2
            go_wp2
            go_round
            case rel => exact ⟨k + 2, by omega, by omega, by go_num, by show _ = _; rw [← HV.out, HR.out]⟩
            case measure => simp [intOf]; omega
          · have HV : Hid (txr s k = k + 1) := txr_close s k hl2 hq hq2
            go_wp2
            go_ret
            exact ⟨ret_int (by rw [← HR.out, HV.out]; rfl), rfl⟩
      · have HV : Hid (txr s k = txr s (k + 1)) := txr_other s k hlt hq
        go_wp2
        go_round
        case rel => exact ⟨k + 1, by omega, by omega, by go_num, by show _ = _; rw [← HV.out, HR.out]⟩
        case measure => simp [intOf]; omega
    · have HV : Hid (txr s k = 0) := txr_end s k (by omega)
      go_wp2
      go_ret
      exact ⟨ret_int (by rw [← HR.out, HV.out]; rfl), rfl⟩
end Go.Proofs.YtgnncnhkgmhngaaGreatDoor
