import Derived.Test.YtgnncnhkgmhngaaGreatDoorR2
namespace Go.Proofs.YtgnncnhkgmhngaaGreatDoor
open Go.RowKit

/-- What the loop knows of a number: v what the digits spell, q what is kept, t whether it is too great. -/
structure NumOK (v : Nat) (q : Int) (t : Bool) : Prop where
  no : t = false → q = v ∧ v < 9223372036854775808
  yes : t = true → ¬ v < 9223372036854775808

theorem NumOK.start {l : Sp.Bs} : NumOK (Sp.numVal (List.take 0 l)) 0 false := ⟨fun _ => ⟨by simp [Sp.numVal], by simp [Sp.numVal]⟩, fun h => by cases h⟩
theorem wrapI (n : Int) (h : -9223372036854775808 ≤ n ∧ n ≤ 9223372036854775807) : wrap64 n = n := by unfold wrap64; omega
theorem num_fits {v : Nat} {q : Int} (h : NumOK v q false) : v < 9223372036854775808 := (h.no rfl).2
theorem num_great {v : Nat} {q : Int} (h : NumOK v q true) : ¬ v < 9223372036854775808 := h.yes rfl
theorem NumOK.more {v d : Nat} {q q' : Int} (h : NumOK v q true) : NumOK (v * 10 + d) q' true := ⟨fun x => (by cases x), fun _ => (by have := h.yes rfl; omega)⟩
theorem NumOK.next {v : Nat} {q : Int} {c : UInt8} (h : NumOK v q false) (h1 : (48 : Int) ≤ (c.toNat : Int)) (h2 : (c.toNat : Int) ≤ 57) :
    NumOK (v * 10 + (c.toNat - 48)) (wrap64 (wrap64 (q * 10) + ((c.toNat : Int) - 48))) (decide ((9223372036854775807 - ((c.toNat : Int) - 48)) / 10 < q)) := by
  obtain ⟨rfl, hv⟩ := h.no rfl
  refine ⟨fun ht => ?_, fun ht => ?_⟩
  · have hle : ¬ (9223372036854775807 - ((c.toNat : Int) - 48)) / 10 < (v : Int) := of_decide_eq_false ht
    have hb : v * 10 + (c.toNat - 48) < 9223372036854775808 := by omega
    refine ⟨?_, hb⟩
    have e1 : wrap64 ((v : Int) * 10) = (v : Int) * 10 := wrapI _ ⟨by omega, by omega⟩
    rw [e1, wrapI _ ⟨by omega, by omega⟩]
    omega
  · have hlt : (9223372036854775807 - ((c.toNat : Int) - 48)) / 10 < (v : Int) := of_decide_eq_true ht
    omega
theorem num_snoc (s : ByteArray) (k j : Nat) (hk : k ≤ j) (hj : j < s.size) : Sp.numVal ((s.data.toList.drop k).take (j + 1 - k)) = Sp.numVal ((s.data.toList.drop k).take (j - k)) * 10 + (s[j].toNat - 48) := by
  have e : j + 1 - k = (j - k) + 1 := by omega
  have hl : j - k < (s.data.toList.drop k).length := by rw [List.length_drop, size_data]; omega
  rw [e, List.take_succ_eq_append_getElem hl]
  have hg : (s.data.toList.drop k)[j - k] = s[j] := by
    rw [List.getElem_drop]
    have : k + (j - k) = j := by omega
    simp only [this]; rfl
  rw [hg]
  unfold Sp.numVal
  rw [List.foldl_append]; rfl

set_option maxRecDepth 100000 in
set_option maxHeartbeats 4000000 in
theorem token_num (s : ByteArray) (a : Nat) (w : World) (hs : s.size ≤ 2000) (_ha : a ≤ s.size) (A : Nat) (HA : Hid (Sp.tokAt s.data.toList a = A)) (hA : A < s.size) (hl : Sp.isLo s[A] = false) (hd : Sp.isDg s[A] = true) :
    Calls Tryz.prog 62 #[.string s, .int .i64 a] w (TR s a w) := by
  go_enter Tryz.func62, Tryz.ntmps62
  go_wp2_with fail
  go_loop [1] (fun x => ∃ k : Nat, a ≤ k ∧ k ≤ A ∧ x = .int .i64 k ∧ Hid (A = k + Sp.many Sp.isSp (s.data.toList.drop k))) (fun x => s.size - (intOf x).toNat)
  case atStart => exact ⟨a, Nat.le_refl _, by rw [← HA.out]; unfold Sp.tokAt; omega, rfl, HA.out.symm⟩
  case round =>
    obtain ⟨k, hak, hk, rfl, HR⟩ := hrel
    have hlt : k < s.size := by omega
    cases hp : Sp.isSp s[k]
    · obtain rfl : k = A := by have := HR.out; rw [many_stop _ s k hlt hp] at this; omega
      obtain ⟨b1, b2⟩ := sp_false hlt hp
      have hkb : ((k : Int) == (s.size : Int)) = false := by simp; omega
      clear HR
      have e := data_cons_at s k hlt
      have hF := first_num (r := s.data.toList.drop (k + 1)) hl hd
      rw [← e] at hF
      obtain ⟨t1, t2, t3⟩ := tok_of HA.out
      have HF : Hid (Sp.first (s.data.toList.drop k) = (if Sp.numVal ((s.data.toList.drop k).take (Sp.many Sp.isDg (s.data.toList.drop k))) < 9223372036854775808 then .num else .bad, Sp.many Sp.isDg (s.data.toList.drop k))) := hF
      have HT : Hid (Sp.tokCl s.data.toList a = (Sp.first (s.data.toList.drop k)).1 ∧ Sp.tokEnd s.data.toList a = k + (Sp.first (s.data.toList.drop k)).2 ∧ Sp.tokWord s.data.toList a = (s.data.toList.drop k).take (Sp.first (s.data.toList.drop k)).2) := ⟨t1, t2, t3⟩
      clear e hF t1 t2 t3
      go_wp2_with fail
      refine (small_any _ _).mono ?_
      rintro r w1 ⟨rfl, rfl⟩
      go_wp2_with fail
      refine (digit_any _ _).mono ?_
      rintro r w1 ⟨rfl, rfl⟩
      go_wp2_with fail
      go_loop [8, 11, 12] (fun x n g => ∃ (j : Nat) (q : Int) (t : Bool), k ≤ j ∧ j ≤ s.size ∧ x = .int .i64 j ∧ n = .int .i64 q ∧ g = .bool t ∧ Hid (NumOK (Sp.numVal ((s.data.toList.drop k).take (j - k))) q t) ∧ Hid (k + Sp.many Sp.isDg (s.data.toList.drop k) = j + Sp.many Sp.isDg (s.data.toList.drop j))) (fun x _ _ => s.size - (intOf x).toNat)
      case atStart => exact ⟨k, 0, false, Nat.le_refl _, by omega, rfl, rfl, rfl, by rw [Nat.sub_self]; exact NumOK.start, rfl⟩
      case round =>
        obtain ⟨j, q, t, hkj, hj, rfl, rfl, rfl, HN, HR⟩ := hrel
        by_cases hjl : j < s.size
        · cases hp2 : Sp.isDg s[j]
          · have HV : Hid (k + Sp.many Sp.isDg (s.data.toList.drop k) = j) := by show _ = _; rw [HR.out, many_stop _ s j hjl hp2]; rfl
            clear HR
            have HM : Hid (Sp.many Sp.isDg (s.data.toList.drop k) = j - k) := by show _ = _; have := HV.out; omega
            have HEN : Hid (Sp.tokEnd s.data.toList a = j) := by show _ = _; rw [HT.out.2.1, HF.out]; dsimp only; rw [HM.out]; omega
            cases t
            · have HC : Hid (Sp.tokCl s.data.toList a = .num) := by show _ = _; rw [HT.out.1, HF.out]; dsimp only; rw [HM.out, if_pos (num_fits HN.out)]
              clear HT HF HM HV HN
              go_wp2_with (go_at_call 107; refine (digit_any _ _).mono ?_; rintro r w1 ⟨rfl, rfl⟩)
              exact bodyPost_ret (v := .tuple #[.agg #[.string ⟨#[110, 117, 109, 98, 101, 114]⟩, .int .i64 k, .string ⟨#[]⟩, .int .i64 q], .int .i64 j]) (by simp [results, Tryz.results62, go_sem]) rfl ⟨_, _, _, _, by rw [HA.out], by rw [HC.out]; exact ByteArray.toList_mk _, fun h => absurd (HC.out.symm.trans h) (by decide), fun _ => by rw [HEN.out], ((Below.refl _ _).alloc (Nat.le_refl _) _).alloc (by simp) _⟩
            · have HC : Hid (Sp.tokCl s.data.toList a = .bad) := by show _ = _; rw [HT.out.1, HF.out]; dsimp only; rw [HM.out, if_neg (num_great HN.out)]
              clear HT HF HM HV HN
              go_wp2_with (go_at_call 107; refine (digit_any _ _).mono ?_; rintro r w1 ⟨rfl, rfl⟩)
              exact bodyPost_ret (v := .tuple #[.agg #[.string ⟨#[98, 97, 100]⟩, .int .i64 k, .string ⟨#[]⟩, .int .i64 0], .int .i64 j]) (by simp [results, Tryz.results62, go_sem]) rfl ⟨_, _, _, _, by rw [HA.out], by rw [HC.out]; exact ByteArray.toList_mk _, fun h => absurd (HC.out.symm.trans h) (by decide), fun h => absurd HC.out h, ((Below.refl _ _).alloc (Nat.le_refl _) _).alloc (by simp) _⟩
          · have hb1 : (48 : Int) ≤ (s[j].toNat : Int) := by have := (dg_iff s[j]).1 hp2; omega
            have hb2 : (s[j].toNat : Int) ≤ 57 := by have := (dg_iff s[j]).1 hp2; omega
            have HV : Hid (k + Sp.many Sp.isDg (s.data.toList.drop k) = j + 1 + Sp.many Sp.isDg (s.data.toList.drop (j + 1))) := by show _ = _; rw [HR.out, many_step _ s j hjl hp2]; omega
            have HNV : Hid (Sp.numVal ((s.data.toList.drop k).take (j + 1 - k)) = Sp.numVal ((s.data.toList.drop k).take (j - k)) * 10 + (s[j].toNat - 48)) := num_snoc s k j hkj hjl
            clear HR
            cases t
            · go_wp2_with (go_at_call 107; refine (digit_any _ _).mono ?_; rintro r w1 ⟨rfl, rfl⟩)
              go_round
              case rel => exact ⟨j + 1, _, _, by omega, by omega, by go_num, rfl, rfl, by show NumOK _ _ _; rw [HNV.out]; exact NumOK.next HN.out hb1 hb2, HV.out⟩
              case measure => simp [intOf]; omega
            · go_wp2_with (go_at_call 107; refine (digit_any _ _).mono ?_; rintro r w1 ⟨rfl, rfl⟩)
              go_round
              case rel => exact ⟨j + 1, _, true, by omega, by omega, by go_num, rfl, rfl, by show NumOK _ _ _; rw [HNV.out]; exact NumOK.more HN.out, HV.out⟩
              case measure => simp [intOf]; omega
        · have HV : Hid (k + Sp.many Sp.isDg (s.data.toList.drop k) = j) := by show _ = _; rw [HR.out, many_end _ s j (by omega)]; rfl
          clear HR
          have HM : Hid (Sp.many Sp.isDg (s.data.toList.drop k) = j - k) := by show _ = _; have := HV.out; omega
          have HEN : Hid (Sp.tokEnd s.data.toList a = j) := by show _ = _; rw [HT.out.2.1, HF.out]; dsimp only; rw [HM.out]; omega
          cases t
          · have HC : Hid (Sp.tokCl s.data.toList a = .num) := by show _ = _; rw [HT.out.1, HF.out]; dsimp only; rw [HM.out, if_pos (num_fits HN.out)]
            clear HT HF HM HV HN
            go_wp2_with fail
            exact bodyPost_ret (v := .tuple #[.agg #[.string ⟨#[110, 117, 109, 98, 101, 114]⟩, .int .i64 k, .string ⟨#[]⟩, .int .i64 q], .int .i64 j]) (by simp [results, Tryz.results62, go_sem]) rfl ⟨_, _, _, _, by rw [HA.out], by rw [HC.out]; exact ByteArray.toList_mk _, fun h => absurd (HC.out.symm.trans h) (by decide), fun _ => by rw [HEN.out], ((Below.refl _ _).alloc (Nat.le_refl _) _).alloc (by simp) _⟩
          · have HC : Hid (Sp.tokCl s.data.toList a = .bad) := by show _ = _; rw [HT.out.1, HF.out]; dsimp only; rw [HM.out, if_neg (num_great HN.out)]
            clear HT HF HM HV HN
            go_wp2_with fail
            exact bodyPost_ret (v := .tuple #[.agg #[.string ⟨#[98, 97, 100]⟩, .int .i64 k, .string ⟨#[]⟩, .int .i64 0], .int .i64 j]) (by simp [results, Tryz.results62, go_sem]) rfl ⟨_, _, _, _, by rw [HA.out], by rw [HC.out]; exact ByteArray.toList_mk _, fun h => absurd (HC.out.symm.trans h) (by decide), fun h => absurd HC.out h, ((Below.refl _ _).alloc (Nat.le_refl _) _).alloc (by simp) _⟩
    · have HV : Hid (A = k + 1 + Sp.many Sp.isSp (s.data.toList.drop (k + 1))) := by show _ = _; have := HR.out; rw [many_step _ s k hlt hp] at this; omega
      have hk1 : k + 1 ≤ A := by have := HV.out; omega
      clear HR
      rcases sp_true hlt hp with b1 | ⟨b1, b2⟩
      all_goals
        go_wp2_with fail
        go_round
        case rel => exact ⟨k + 1, by omega, hk1, by go_num, HV.out⟩
        case measure => simp [intOf]; omega

end Go.Proofs.YtgnncnhkgmhngaaGreatDoor
