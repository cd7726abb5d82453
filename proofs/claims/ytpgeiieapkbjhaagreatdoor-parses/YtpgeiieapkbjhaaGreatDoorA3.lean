import Derived.Test.YtpgeiieapkbjhaaGreatDoorA2
import Derived.Lib.Strings
namespace Go.Proofs.YtpgeiieapkbjhaaGreatDoor
open Go.RowKit

theorem data_cons (s : ByteArray) (h0 : 0 < s.size) : s.data.toList = s[0] :: s.data.toList.drop 1 := by
  have hk : 0 < s.data.toList.length := by simpa using h0
  have := List.drop_eq_getElem_cons hk
  rw [List.drop_zero] at this
  exact this

theorem data_cons2 (s : ByteArray) (h0 : 1 < s.size) : s.data.toList = s[0] :: s[1] :: s.data.toList.drop 2 := by
  have hk : 0 < s.data.toList.length := by simp; omega
  have hk1 : 1 < s.data.toList.length := by simpa using h0
  have e := List.drop_eq_getElem_cons hk
  have e1 := List.drop_eq_getElem_cons hk1
  rw [List.drop_zero] at e
  rw [e, e1]; rfl

theorem ext2 (s : ByteArray) (h0 : 1 < s.size) : (s.extract 0 2).toList = [s[0], s[1]] := by
  rw [ByteArray.toList_eq, Lib.extract_data]
  conv => lhs; rw [data_cons2 s h0]
  rfl

theorem one_cases (s : ByteArray) (h0 : 0 < s.size) : (Sp.isOne s[0] = true ∧ ((s[0].toNat : Int) = 40 ∨ (s[0].toNat : Int) = 41 ∨ (s[0].toNat : Int) = 44 ∨ (s[0].toNat : Int) = 46 ∨ (s[0].toNat : Int) = 42 ∨ (s[0].toNat : Int) = 43 ∨ (s[0].toNat : Int) = 45 ∨ (s[0].toNat : Int) = 47 ∨ (s[0].toNat : Int) = 61 ∨ (s[0].toNat : Int) = 60 ∨ (s[0].toNat : Int) = 62)) ∨ (Sp.isOne s[0] = false ∧ ((((s[0].toNat : Int) == 40) = false) ∧ (((s[0].toNat : Int) == 41) = false) ∧ (((s[0].toNat : Int) == 44) = false) ∧ (((s[0].toNat : Int) == 46) = false) ∧ (((s[0].toNat : Int) == 42) = false) ∧ (((s[0].toNat : Int) == 43) = false) ∧ (((s[0].toNat : Int) == 45) = false) ∧ (((s[0].toNat : Int) == 47) = false) ∧ (((s[0].toNat : Int) == 61) = false) ∧ (((s[0].toNat : Int) == 60) = false) ∧ (((s[0].toNat : Int) == 62) = false))) := by
  have e : ∀ k : UInt8, ((s[0].toNat : Int) == (k.toNat : Int)) = (s[0] == k) := fun k => u8_eq _ k
  cases h : Sp.isOne s[0]
  · right
    refine ⟨rfl, ?_⟩
    simp only [Sp.isOne, Bool.or_eq_false_iff] at h
    obtain ⟨⟨⟨⟨⟨⟨⟨⟨⟨⟨a1, a2⟩, a3⟩, a4⟩, a5⟩, a6⟩, a7⟩, a8⟩, a9⟩, a10⟩, a11⟩ := h
    exact ⟨(e 40).trans a1, (e 41).trans a2, (e 44).trans a3, (e 46).trans a4, (e 42).trans a5, (e 43).trans a6, (e 45).trans a7, (e 47).trans a8, (e 61).trans a9, (e 60).trans a10, (e 62).trans a11⟩
  · left
    refine ⟨rfl, ?_⟩
    simp only [Sp.isOne, Bool.or_eq_true, beq_iff_eq] at h
    rcases h with ((((((((((h | h) | h) | h) | h) | h) | h) | h) | h) | h) | h) <;> rw [h] <;> decide

theorem sl_two (s : ByteArray) (h1 : 1 < s.size) {a b : UInt8} (h : ((s.extract 0 2).toList == [a, b]) = true) (hab : Sp.isTwo a b = true) : Sp.signLen s.data.toList = 2 := by
  rw [ext2 s h1] at h
  have := eq_of_beq h
  simp only [List.cons.injEq, and_true] at this
  rw [data_cons2 s h1, this.1, this.2, Sp.signLen, hab]; rfl

theorem sl_notwo (s : ByteArray) (h1 : 1 < s.size) (t1 : ((s.extract 0 2).toList == [60, 62]) = false) (t2 : ((s.extract 0 2).toList == [60, 61]) = false) (t3 : ((s.extract 0 2).toList == [62, 61]) = false) :
    Sp.signLen s.data.toList = if Sp.isOne s[0] then 1 else 0 := by
  rw [ext2 s h1] at t1 t2 t3
  have : Sp.isTwo s[0] s[1] = false := by
    simp only [Sp.isTwo]
    have z : (([] : List UInt8) == []) = true := rfl
    simp only [List.cons_beq_cons, z, Bool.and_true] at t1 t2 t3
    rw [t1, t2, t3]; rfl
  rw [data_cons2 s h1, Sp.signLen, this]; rfl

theorem sl_short (s : ByteArray) (h0 : 0 < s.size) (h1 : ¬ 1 < s.size) : Sp.signLen s.data.toList = if Sp.isOne s[0] then 1 else 0 := by
  have e := data_cons s h0
  have : s.data.toList.drop 1 = [] := List.drop_of_length_le (by simp; omega)
  rw [this] at e
  rw [e, Sp.signLen]

set_option maxHeartbeats 2000000 in
theorem signLength_any (s : ByteArray) (w : World) (h0 : 0 < s.size) (hs : s.size ≤ maxLen) :
    Calls Tryz.prog 93 #[.string s] w fun e w' => e = .returned (.int .i64 (Sp.signLen s.data.toList : Nat)) ∧ w' = w := by
  unfold maxLen at hs
  by_cases h1 : 1 < s.size
  · cases t1 : ((s.extract 0 2).toList == [60, 62])
    · cases t2 : ((s.extract 0 2).toList == [60, 61])
      · cases t3 : ((s.extract 0 2).toList == [62, 61])
        · have HL : Hid (Sp.signLen s.data.toList = if Sp.isOne s[0] then 1 else 0) := sl_notwo s h1 t1 t2 t3
          rcases one_cases s h0 with ⟨h, hd⟩ | ⟨h, g1, g2, g3, g4, g5, g6, g7, g8, g9, g10, g11⟩
          · have HV : Hid (Sp.signLen s.data.toList = 1) := by show _ = _; rw [HL.out, h]; rfl
            clear HL h
            rcases hd with hd | hd | hd | hd | hd | hd | hd | hd | hd | hd | hd
            all_goals
              go_enter Tryz.func93, Tryz.ntmps93
              go_wp2
              go_ret
              exact ⟨ret_int (by rw [HV.out]; rfl), rfl⟩
          · have HV : Hid (Sp.signLen s.data.toList = 0) := by show _ = _; rw [HL.out, h]; rfl
            clear HL h
            go_enter Tryz.func93, Tryz.ntmps93
            go_wp2
            go_ret
            exact ⟨ret_int (by rw [HV.out]; rfl), rfl⟩
        · have HV : Hid (Sp.signLen s.data.toList = 2) := sl_two s h1 t3 rfl
          go_enter Tryz.func93, Tryz.ntmps93
          go_wp2
          go_ret
          exact ⟨ret_int (by rw [HV.out]; rfl), rfl⟩
      · have HV : Hid (Sp.signLen s.data.toList = 2) := sl_two s h1 t2 rfl
        go_enter Tryz.func93, Tryz.ntmps93
        go_wp2
        go_ret
        exact ⟨ret_int (by rw [HV.out]; rfl), rfl⟩
    · have HV : Hid (Sp.signLen s.data.toList = 2) := sl_two s h1 t1 rfl
      go_enter Tryz.func93, Tryz.ntmps93
      go_wp2
      go_ret
      exact ⟨ret_int (by rw [HV.out]; rfl), rfl⟩
  · have HL : Hid (Sp.signLen s.data.toList = if Sp.isOne s[0] then 1 else 0) := sl_short s h0 h1
    rcases one_cases s h0 with ⟨h, hd⟩ | ⟨h, g1, g2, g3, g4, g5, g6, g7, g8, g9, g10, g11⟩
    · have HV : Hid (Sp.signLen s.data.toList = 1) := by show _ = _; rw [HL.out, h]; rfl
      clear HL h
      rcases hd with hd | hd | hd | hd | hd | hd | hd | hd | hd | hd | hd
      all_goals
        go_enter Tryz.func93, Tryz.ntmps93
        go_wp2
        go_ret
        exact ⟨ret_int (by rw [HV.out]; rfl), rfl⟩
    · have HV : Hid (Sp.signLen s.data.toList = 0) := by show _ = _; rw [HL.out, h]; rfl
      clear HL h
      go_enter Tryz.func93, Tryz.ntmps93
      go_wp2
      go_ret
      exact ⟨ret_int (by rw [HV.out]; rfl), rfl⟩
end Go.Proofs.YtpgeiieapkbjhaaGreatDoor
