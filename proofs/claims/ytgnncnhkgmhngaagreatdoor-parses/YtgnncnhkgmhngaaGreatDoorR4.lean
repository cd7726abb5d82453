import Derived.Test.YtgnncnhkgmhngaaGreatDoorR1
namespace Go.Proofs.YtgnncnhkgmhngaaGreatDoor
open Go.RowKit

theorem txr_first (s : ByteArray) (k : Nat) (h : k < s.size) (hl : Sp.isLo s[k] = false) (hd : Sp.isDg s[k] = false) (hq : (s[k] == 39) = true) :
    Sp.first (s.data.toList.drop k) = if txr s (k + 1) = 0 then (.bad, 0) else (.txt, txr s (k + 1) - k) := by
  rw [drop_cons s k h, first_txt hl hd hq]
  unfold txr
  cases Sp.txtLen (s.data.toList.drop (k + 1)) with
  | none => rfl
  | some n => dsimp only; rw [if_neg (by omega)]; congr 1; omega

theorem u8_39 {s : ByteArray} {k : Nat} (h : k < s.size) (hq : (s[k] == 39) = true) : ((s[k].toNat : Int) == 39) = true := by have := u8_eq s[k] 39; rw [hq] at this; exact this
theorem u8_n39 {s : ByteArray} {k : Nat} (h : k < s.size) (hq : (s[k] == 39) = false) : ((s[k].toNat : Int) == 39) = false := by have := u8_eq s[k] 39; rw [hq] at this; exact this
theorem eq_ne {a : Int} (h : (a != 39) = false) : (a == 39) = true := by simpa [bne] using h
theorem ne_eq {a : Int} (h : (a != 39) = true) : (a == 39) = false := by simpa [bne] using h

set_option maxRecDepth 100000 in
set_option maxHeartbeats 4000000 in
theorem token_txt (s : ByteArray) (a : Nat) (w : World) (hs : s.size ≤ 2000) (_ha : a ≤ s.size) (A : Nat) (HA : Hid (Sp.tokAt s.data.toList a = A)) (hA : A < s.size) (hl : Sp.isLo s[A] = false) (hd : Sp.isDg s[A] = false) (hq : (s[A] == 39) = true) :
    Calls Tryz.prog 62 #[.string s, .int .i64 a] w (TR s a w) := by
  go_enter Tryz.func62, Tryz.ntmps62
  go_wp2_with fail
  go_loop [1] (fun x => ∃ k : Nat, a ≤ k ∧ k ≤ A ∧ x = .int .i64 k ∧ Hid (A = k + Sp.many Sp.isSp (s.data.toList.drop k))) (fun x => s.size - (intOf x).toNat)
  case atStart => exact ⟨a, Nat.le_refl _, by rw [← HA.out]; unfold Sp.tokAt; omega, rfl, HA.out.symm⟩
  case round =>
    obtain ⟨k, hak, hk, rfl, HR⟩ := hrel
    have hlt : k < s.size := by omega
    cases hp : Sp.isSp s[k]
    · obtain rfl : k = A := by have := HR.out; rw [many_stop _ s k hlt hp] at this; omega
      obtain ⟨b1, b2⟩ := sp_false hlt hp
      have hkb : ((k : Int) == (s.size : Int)) = false := by simp; omega
      clear HR
      obtain ⟨t1, t2, t3⟩ := tok_of HA.out
      have HF : Hid (Sp.first (s.data.toList.drop k) = if txr s (k + 1) = 0 then (.bad, 0) else (.txt, txr s (k + 1) - k)) := txr_first s k hlt hl hd hq
      have HT : Hid (Sp.tokCl s.data.toList a = (Sp.first (s.data.toList.drop k)).1 ∧ Sp.tokEnd s.data.toList a = k + (Sp.first (s.data.toList.drop k)).2 ∧ Sp.tokWord s.data.toList a = (s.data.toList.drop k).take (Sp.first (s.data.toList.drop k)).2) := ⟨t1, t2, t3⟩
      clear t1 t2 t3
      have hq' := u8_39 hlt hq
      go_wp2_with fail
      refine (small_any _ _).mono ?_
      rintro r w1 ⟨rfl, rfl⟩
      go_wp2_with fail
      refine (digit_any _ _).mono ?_
      rintro r w1 ⟨rfl, rfl⟩
      go_wp2_with fail
      go_loop [8, 14] (fun x v => ∃ (j : Nat) (t : ByteArray), k + 1 ≤ j ∧ j ≤ s.size ∧ x = .int .i64 j ∧ v = .string t ∧ t.size ≤ 2 * j ∧ Hid (txr s j = txr s (k + 1))) (fun x _ => s.size - (intOf x).toNat)
      case atStart => exact ⟨k + 1, ⟨#[]⟩, Nat.le_refl _, by omega, by go_num, rfl, by exact Nat.zero_le _, rfl⟩
      case round =>
        obtain ⟨j, t, hkj, hj, rfl, rfl, htz, HR⟩ := hrel
        by_cases hjl : j < s.size
        · cases hqj : ((s[j].toNat : Int) != 39)
          · by_cases hl1 : j + 1 < s.size
            · cases hqn : ((s[j + 1].toNat : Int) != 39)
              · have HV : Hid (txr s j = txr s (j + 2)) := txr_pair s j hl1 hqj hqn
                have hqn' := eq_ne hqn
                go_wp2_with fail
                go_round
                case rel => exact ⟨j + 2, _, by omega, by omega, by go_num, rfl, by have h39 : (ByteArray.mk #[39]).size = 1 := rfl
                                                                                    simp; omega, by show _ = _; rw [← HV.out, HR.out]⟩
                case measure => simp [intOf]; omega
              · have HV : Hid (txr s j = j + 1) := txr_close s j hl1 hqj hqn
                have hqn' := ne_eq hqn
                have HC : Hid (Sp.tokCl s.data.toList a = .txt ∧ Sp.tokEnd s.data.toList a = j + 1) := by
                  have h0 : txr s (k + 1) = j + 1 := by rw [← HR.out, HV.out]
                  refine ⟨by rw [HT.out.1, HF.out, h0]; rfl, by rw [HT.out.2.1, HF.out, h0, if_neg (by omega)]; dsimp only; omega⟩
                clear HT HF HR HV
                go_wp2_with fail
                exact bodyPost_ret (v := .tuple #[.agg #[.string ⟨#[116, 101, 120, 116]⟩, .int .i64 k, .string t, .int .i64 0], .int .i64 ((j : Int) + 1)]) (by simp [results, Tryz.results62, go_sem]) rfl ⟨_, _, _, _, by rw [HA.out], by rw [HC.out.1]; exact ByteArray.toList_mk _, fun h => absurd (HC.out.1.symm.trans h) (by decide), fun _ => by rw [HC.out.2]; rfl, ((Below.refl _ _).alloc (Nat.le_refl _) _).alloc (by simp) _⟩
            · have HV : Hid (txr s j = j + 1) := txr_last s j (by omega) hqj
              have HC : Hid (Sp.tokCl s.data.toList a = .txt ∧ Sp.tokEnd s.data.toList a = j + 1) := by
                have h0 : txr s (k + 1) = j + 1 := by rw [← HR.out, HV.out]
                refine ⟨by rw [HT.out.1, HF.out, h0]; rfl, by rw [HT.out.2.1, HF.out, h0, if_neg (by omega)]; dsimp only; omega⟩
              clear HT HF HR HV
              go_wp2_with fail
              exact bodyPost_ret (v := .tuple #[.agg #[.string ⟨#[116, 101, 120, 116]⟩, .int .i64 k, .string t, .int .i64 0], .int .i64 ((j : Int) + 1)]) (by simp [results, Tryz.results62, go_sem]) rfl ⟨_, _, _, _, by rw [HA.out], by rw [HC.out.1]; exact ByteArray.toList_mk _, fun h => absurd (HC.out.1.symm.trans h) (by decide), fun _ => by rw [HC.out.2]; rfl, ((Below.refl _ _).alloc (Nat.le_refl _) _).alloc (by simp) _⟩
          · have HV : Hid (txr s j = txr s (j + 1)) := txr_other s j hjl hqj
            go_wp2_with fail
            go_round
            case rel => exact ⟨j + 1, _, by omega, by omega, by go_num, rfl, by simp; omega, by show _ = _; rw [← HV.out, HR.out]⟩
            case measure => simp [intOf]; omega
        · have HV : Hid (txr s j = 0) := txr_end s j (by omega)
          have HC : Hid (Sp.tokCl s.data.toList a = .bad) := by
            have h0 : txr s (k + 1) = 0 := by rw [← HR.out, HV.out]
            show _ = _
            rw [HT.out.1, HF.out, h0]; rfl
          clear HT HF HR HV
          go_wp2_with fail
          exact bodyPost_ret (v := .tuple #[.agg #[.string ⟨#[98, 97, 100]⟩, .int .i64 k, .string ⟨#[]⟩, .int .i64 0], .int .i64 j]) (by simp [results, Tryz.results62, go_sem]) rfl ⟨_, _, _, _, by rw [HA.out], by rw [HC.out]; exact ByteArray.toList_mk _, fun h => absurd (HC.out.symm.trans h) (by decide), fun h => absurd HC.out h, ((Below.refl _ _).alloc (Nat.le_refl _) _).alloc (by simp) _⟩
    · have HV : Hid (A = k + 1 + Sp.many Sp.isSp (s.data.toList.drop (k + 1))) := by show _ = _; have := HR.out; rw [many_step _ s k hlt hp] at this; omega
      have hk1 : k + 1 ≤ A := by have := HV.out; omega
      clear HR
      rcases sp_true hlt hp with b1 | ⟨b1, b2⟩
      all_goals
        go_wp2_with fail
        go_round
        case rel => exact ⟨k + 1, by omega, hk1, by go_num, HV.out⟩
        case measure => simp [intOf]; omega

end Go.Proofs.YtgnncnhkgmhngaaGreatDoor
