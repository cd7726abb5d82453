import Derived.Test.YtgnncnhkgmhngaaGreatDoorProg
import Derived.Test.YtgnncnhkgmhngaaGreatDoorT3
import Derived.WalkKit
import Derived.WalkSpells
import Derived.WalkLawsBesides
namespace Go.Proofs.YtgnncnhkgmhngaaGreatDoor
open Go.RowKit

theorem u8_eq (c : UInt8) (k : UInt8) : ((c.toNat : Int) == (k.toNat : Int)) = (c == k) := by
  rw [Bool.eq_iff_iff]; simp only [beq_iff_eq]
  constructor
  · intro h; exact UInt8.toNat_inj.1 (by omega)
  · intro h; rw [h]

theorem ret_bool {a b : Bool} (h : a = b) : Ending.returned (.bool a) = .returned (.bool b) := by rw [h]
theorem ret_int {k : IntKind} {a b : Int} (h : a = b) : Ending.returned (.int k a) = .returned (.int k b) := by rw [h]

set_option maxHeartbeats 400000 in
theorem isSpace_any (c : UInt8) (w : World) :
    Calls Tryz.prog 73 #[.int .u8 (c.toNat : Int)] w fun e w' => e = .returned (.bool (Sp.isSp c)) ∧ w' = w := by
  have e1 := u8_eq c 32
  have e2 := u8_eq c 10
  have E : Hid (Sp.isSp c = (((c.toNat : Int) == 32) || ((c.toNat : Int) == 10))) := by
    show Sp.isSp c = _
    rw [Sp.isSp, ← e1, ← e2]; rfl
  clear e1 e2
  go_enter Tryz.func73, Tryz.ntmps73
  go_wp2
  all_goals go_ret
  all_goals exact ⟨ret_bool (by rw [E.out]; first | done | (simp [*]; done)), rfl⟩

set_option maxHeartbeats 400000 in
theorem isLetter_any (c : UInt8) (w : World) :
    Calls Tryz.prog 114 #[.int .u8 (c.toNat : Int)] w fun e w' => e = .returned (.bool (Sp.isLo c)) ∧ w' = w := by
  have E : Hid (Sp.isLo c = (decide (97 ≤ (c.toNat : Int)) && decide ((c.toNat : Int) ≤ 122))) := by
    show Sp.isLo c = _
    rw [Sp.isLo, Bool.eq_iff_iff]; simp [UInt8.le_iff_toNat_le]; omega
  go_enter Tryz.func114, Tryz.ntmps114
  go_wp2
  all_goals go_ret
  all_goals exact ⟨ret_bool (by rw [E.out]; first | (simp [*]; done) | (simp; omega)), rfl⟩

set_option maxHeartbeats 400000 in
theorem isDigit_any (c : UInt8) (w : World) :
    Calls Tryz.prog 117 #[.int .u8 (c.toNat : Int)] w fun e w' => e = .returned (.bool (Sp.isDg c)) ∧ w' = w := by
  have E : Hid (Sp.isDg c = (decide (48 ≤ (c.toNat : Int)) && decide ((c.toNat : Int) ≤ 57))) := by
    show Sp.isDg c = _
    rw [Sp.isDg, Bool.eq_iff_iff]; simp [UInt8.le_iff_toNat_le]; omega
  go_enter Tryz.func117, Tryz.ntmps117
  go_wp2
  all_goals go_ret
  all_goals exact ⟨ret_bool (by rw [E.out]; first | (simp [*]; done) | (simp; omega)), rfl⟩

set_option maxHeartbeats 400000 in
theorem isWordByte_any (c : UInt8) (w : World) :
    Calls Tryz.prog 115 #[.int .u8 (c.toNat : Int)] w fun e w' => e = .returned (.bool (Sp.isWd c)) ∧ w' = w := by
  have e1 := u8_eq c 95
  have E : Hid (Sp.isWd c = (Sp.isLo c || Sp.isDg c || ((c.toNat : Int) == 95))) := by
    show Sp.isWd c = _
    rw [Sp.isWd, ← e1]; rfl
  clear e1
  go_enter Tryz.func115, Tryz.ntmps115
  go_wp2_with (first | (go_at_call 114; refine (isLetter_any _ _).mono ?_; rintro e w' ⟨rfl, rfl⟩) | (go_at_call 117; refine (isDigit_any _ _).mono ?_; rintro e w' ⟨rfl, rfl⟩))
  all_goals go_ret
  all_goals exact ⟨ret_bool (by rw [E.out]; first | done | (simp [*]; done)), rfl⟩


theorem many_le (p : UInt8 → Bool) : ∀ l : Sp.Bs, Sp.many p l ≤ l.length
  | [] => by simp [Sp.many]
  | c :: r => by have := many_le p r; simp only [Sp.many, List.length_cons]; split <;> omega

theorem many_step (p : UInt8 → Bool) (s : ByteArray) (k : Nat) (h : k < s.size) (hp : p s[k] = true) : Sp.many p (s.data.toList.drop k) = Sp.many p (s.data.toList.drop (k + 1)) + 1 := by
  have hk : k < s.data.toList.length := by simpa using h
  rw [List.drop_eq_getElem_cons hk, Sp.many]
  have : s.data.toList[k] = s[k] := rfl
  rw [this, hp]; rfl

theorem many_stop (p : UInt8 → Bool) (s : ByteArray) (k : Nat) (h : k < s.size) (hp : p s[k] = false) : Sp.many p (s.data.toList.drop k) = 0 := by
  have hk : k < s.data.toList.length := by simpa using h
  rw [List.drop_eq_getElem_cons hk, Sp.many]
  have : s.data.toList[k] = s[k] := rfl
  rw [this, hp]; rfl

theorem many_end (p : UInt8 → Bool) (s : ByteArray) (k : Nat) (h : s.size ≤ k) : Sp.many p (s.data.toList.drop k) = 0 := by
  rw [List.drop_of_length_le (by simpa using h)]; rfl

set_option maxHeartbeats 400000 in
theorem countSpace_any (s : ByteArray) (w : World) (hs : s.size ≤ maxLen) :
    Calls Tryz.prog 72 #[.string s, .func (.func 73) #[] #[]] w fun e w' => e = .returned (.int .i64 (Sp.many Sp.isSp s.data.toList : Nat)) ∧ w' = w := by
  unfold maxLen at hs
  go_enter Tryz.func72, Tryz.ntmps72
  go_wp2_with fail
  go_loop [5] (fun i => ∃ k : Nat, k ≤ s.size ∧ i = .int .i64 k ∧ Hid (Sp.many Sp.isSp s.data.toList = k + Sp.many Sp.isSp (s.data.toList.drop k))) (fun i => s.size - (intOf i).toNat)
  case atStart => exact ⟨0, Nat.zero_le _, rfl, by show _ = _; simp⟩
  case round =>
    obtain ⟨k, hk, rfl, HR⟩ := hrel
    by_cases hlt : k < s.size
    · cases hp : Sp.isSp s[k]
      · have H0 : Hid (Sp.many Sp.isSp (s.data.toList.drop k) = 0) := many_stop _ s k hlt hp
        go_wp2_with (go_at_call 73; refine (isSpace_any _ _).mono ?_; rintro e w' ⟨rfl, rfl⟩)
        go_ret
        exact ⟨ret_int (by have a := HR.out; have b := H0.out; omega), rfl⟩
      · have H0 : Hid (Sp.many Sp.isSp (s.data.toList.drop k) = Sp.many Sp.isSp (s.data.toList.drop (k + 1)) + 1) := many_step _ s k hlt hp
        go_wp2_with (go_at_call 73; refine (isSpace_any _ _).mono ?_; rintro e w' ⟨rfl, rfl⟩)
        go_round
        case rel => exact ⟨k + 1, by omega, by go_num, by have a := HR.out; have b := H0.out; show _ = _; omega⟩
        case measure => simp [intOf]; omega
    · have H0 : Hid (Sp.many Sp.isSp (s.data.toList.drop k) = 0) := many_end _ s k (by omega)
      go_wp2_with fail
      go_ret
      exact ⟨ret_int (by have a := HR.out; have b := H0.out; omega), rfl⟩

set_option maxHeartbeats 400000 in
theorem countWord_any (s : ByteArray) (w : World) (hs : s.size ≤ maxLen) :
    Calls Tryz.prog 72 #[.string s, .func (.func 115) #[] #[]] w fun e w' => e = .returned (.int .i64 (Sp.many Sp.isWd s.data.toList : Nat)) ∧ w' = w := by
  unfold maxLen at hs
  go_enter Tryz.func72, Tryz.ntmps72
  go_wp2_with fail
  go_loop [5] (fun i => ∃ k : Nat, k ≤ s.size ∧ i = .int .i64 k ∧ Hid (Sp.many Sp.isWd s.data.toList = k + Sp.many Sp.isWd (s.data.toList.drop k))) (fun i => s.size - (intOf i).toNat)
  case atStart => exact ⟨0, Nat.zero_le _, rfl, by show _ = _; simp⟩
  case round =>
    obtain ⟨k, hk, rfl, HR⟩ := hrel
    by_cases hlt : k < s.size
    · cases hp : Sp.isWd s[k]
      · have H0 : Hid (Sp.many Sp.isWd (s.data.toList.drop k) = 0) := many_stop _ s k hlt hp
        go_wp2_with (go_at_call 115; refine (isWordByte_any _ _).mono ?_; rintro e w' ⟨rfl, rfl⟩)
        go_ret
        exact ⟨ret_int (by have a := HR.out; have b := H0.out; omega), rfl⟩
      · have H0 : Hid (Sp.many Sp.isWd (s.data.toList.drop k) = Sp.many Sp.isWd (s.data.toList.drop (k + 1)) + 1) := many_step _ s k hlt hp
        go_wp2_with (go_at_call 115; refine (isWordByte_any _ _).mono ?_; rintro e w' ⟨rfl, rfl⟩)
        go_round
        case rel => exact ⟨k + 1, by omega, by go_num, by have a := HR.out; have b := H0.out; show _ = _; omega⟩
        case measure => simp [intOf]; omega
    · have H0 : Hid (Sp.many Sp.isWd (s.data.toList.drop k) = 0) := many_end _ s k (by omega)
      go_wp2_with fail
      go_ret
      exact ⟨ret_int (by have a := HR.out; have b := H0.out; omega), rfl⟩

set_option maxHeartbeats 400000 in
theorem countDigit_any (s : ByteArray) (w : World) (hs : s.size ≤ maxLen) :
    Calls Tryz.prog 72 #[.string s, .func (.func 117) #[] #[]] w fun e w' => e = .returned (.int .i64 (Sp.many Sp.isDg s.data.toList : Nat)) ∧ w' = w := by
  unfold maxLen at hs
  go_enter Tryz.func72, Tryz.ntmps72
  go_wp2_with fail
  go_loop [5] (fun i => ∃ k : Nat, k ≤ s.size ∧ i = .int .i64 k ∧ Hid (Sp.many Sp.isDg s.data.toList = k + Sp.many Sp.isDg (s.data.toList.drop k))) (fun i => s.size - (intOf i).toNat)
  case atStart => exact ⟨0, Nat.zero_le _, rfl, by show _ = _; simp⟩
  case round =>
    obtain ⟨k, hk, rfl, HR⟩ := hrel
    by_cases hlt : k < s.size
    · cases hp : Sp.isDg s[k]
      · have H0 : Hid (Sp.many Sp.isDg (s.data.toList.drop k) = 0) := many_stop _ s k hlt hp
        go_wp2_with (go_at_call 117; refine (isDigit_any _ _).mono ?_; rintro e w' ⟨rfl, rfl⟩)
        go_ret
        exact ⟨ret_int (by have a := HR.out; have b := H0.out; omega), rfl⟩
      · have H0 : Hid (Sp.many Sp.isDg (s.data.toList.drop k) = Sp.many Sp.isDg (s.data.toList.drop (k + 1)) + 1) := many_step _ s k hlt hp
        go_wp2_with (go_at_call 117; refine (isDigit_any _ _).mono ?_; rintro e w' ⟨rfl, rfl⟩)
        go_round
        case rel => exact ⟨k + 1, by omega, by go_num, by have a := HR.out; have b := H0.out; show _ = _; omega⟩
        case measure => simp [intOf]; omega
    · have H0 : Hid (Sp.many Sp.isDg (s.data.toList.drop k) = 0) := many_end _ s k (by omega)
      go_wp2_with fail
      go_ret
      exact ⟨ret_int (by have a := HR.out; have b := H0.out; omega), rfl⟩

/-- The numbers of the program's kinds. -/
def kn : Sp.Cl → Int | .fin => 0 | .bad => 1 | .key => 2 | .name => 3 | .num => 4 | .txt => 5

set_option maxHeartbeats 400000 in
theorem tokenEmpty_any (k : Int) (s : ByteArray) (w : World) (h : s.toList.isEmpty = true) :
    Calls Tryz.prog 119 #[.int .i64 k, .string s] w fun e w' => e = .returned (.agg #[.int .i64 1, .int .i64 0, .string ⟨#[]⟩]) ∧ Below w.heap.size w w' := by
  go_enter Tryz.func119, Tryz.ntmps119
  go_wp2
  exact bodyPost_ret (v := .agg #[.int .i64 1, .int .i64 0, .string ⟨#[]⟩]) (by simp [results, Tryz.results119, go_sem]) rfl ⟨rfl, (Below.refl _ _).alloc (Nat.le_refl _) _⟩

set_option maxHeartbeats 400000 in
theorem tokenFull_any (k : Int) (s : ByteArray) (w : World) (h : s.toList.isEmpty = false) :
    Calls Tryz.prog 119 #[.int .i64 k, .string s] w fun e w' => e = .returned (.agg #[.int .i64 k, .int .i64 0, .string s]) ∧ Below w.heap.size w w' := by
  go_enter Tryz.func119, Tryz.ntmps119
  go_wp2
  exact bodyPost_ret (v := .agg #[.int .i64 k, .int .i64 0, .string s]) (by simp [results, Tryz.results119, go_sem]) rfl ⟨rfl, (Below.refl _ _).alloc (Nat.le_refl _) _⟩

end Go.Proofs.YtgnncnhkgmhngaaGreatDoor

namespace Go.Proofs.YtgnncnhkgmhngaaGreatDoor
open Go.RowKit
def isKy (l : Sp.Bs) : Bool := Sp.keys.contains l
theorem kc {l k : Sp.Bs} (h : (l == k) = true) (hk : Sp.keys.contains k = true) : Sp.keys.contains l = true := by rw [eq_of_beq h]; exact hk
theorem cc {l k : Sp.Bs} (h : (l == k) = true) (h' : (l == k) = false) : False := by rw [h] at h'; cases h'
set_option maxHeartbeats 1000000 in
theorem isKeyword_any (s : ByteArray) (w : World) :
    Calls Tryz.prog 171 #[.string s] w fun e w' => e = .returned (.bool (isKy s.toList)) ∧ w' = w := by
  go_enter Tryz.func171, Tryz.ntmps171
  go_wp2
  all_goals go_ret
  all_goals refine ⟨ret_bool ?_, rfl⟩
  all_goals unfold isKy
  all_goals first | exact (kc (by assumption) (by decide)).symm | (exfalso; exact cc (by assumption) (by assumption)) | (simp only [Sp.keys, List.contains_cons, List.contains_nil, Bool.or_self, *]; done)


set_option maxHeartbeats 400000 in
theorem wordKind_any (s : ByteArray) (w : World) (c : Sp.Cl) (H : Hid (c = if isKy s.toList then .key else if s.size ≤ 12 then .name else .bad)) :
    Calls Tryz.prog 116 #[.string s] w fun e w' => e = .returned (.int .i64 (kn c)) ∧ w' = w := by
  cases hk : isKy s.toList
  · by_cases h12 : s.size ≤ 12
    · have E : Hid (c = .name) := by have := H.out; rw [hk, if_neg (by simp), if_pos h12] at this; exact this
      clear H
      go_enter Tryz.func116, Tryz.ntmps116
      go_wp2_with (go_at_call 171; refine (isKeyword_any _ _).mono ?_; rintro e w' ⟨rfl, rfl⟩)
      go_ret
      exact ⟨ret_int (by rw [E.out]; rfl), rfl⟩
    · have E : Hid (c = .bad) := by have := H.out; rw [hk, if_neg (by simp), if_neg h12] at this; exact this
      clear H
      go_enter Tryz.func116, Tryz.ntmps116
      go_wp2_with (go_at_call 171; refine (isKeyword_any _ _).mono ?_; rintro e w' ⟨rfl, rfl⟩)
      go_ret
      exact ⟨ret_int (by rw [E.out]; rfl), rfl⟩
  · have E : Hid (c = .key) := by have := H.out; rw [hk, if_pos rfl] at this; exact this
    clear H
    go_enter Tryz.func116, Tryz.ntmps116
    go_wp2_with (go_at_call 171; refine (isKeyword_any _ _).mono ?_; rintro e w' ⟨rfl, rfl⟩)
    go_ret
    exact ⟨ret_int (by rw [E.out]; rfl), rfl⟩
end Go.Proofs.YtgnncnhkgmhngaaGreatDoor
