import Derived.Test.YtgnncnhkgmhngaaGreatDoorR1
namespace Go.Proofs.YtgnncnhkgmhngaaGreatDoor
open Go.RowKit

/-- Two blocks of the call's own, behind a call that keeps what was there. -/
theorem own44 (w w2 : World) (a0 a1 a2 a3 b0 b1 b2 b3 : Value) (t : TypeId) (hb : Below ((w.alloc (.cells #[a0, a1, a2, a3] t)).alloc (.cells #[b0, b1, b2, b3] t)).heap.size ((w.alloc (.cells #[a0, a1, a2, a3] t)).alloc (.cells #[b0, b1, b2, b3] t)) w2) :
    (w2.cell? ⟨w.heap.size, 0, none⟩ = some a0 ∧ w2.cell? ⟨w.heap.size, 1, none⟩ = some a1 ∧ w2.cell? ⟨w.heap.size, 2, none⟩ = some a2 ∧ w2.cell? ⟨w.heap.size, 3, none⟩ = some a3) ∧
    (w2.cell? ⟨w.heap.size + 1, 0, none⟩ = some b0 ∧ w2.cell? ⟨w.heap.size + 1, 1, none⟩ = some b1 ∧ w2.cell? ⟨w.heap.size + 1, 2, none⟩ = some b2 ∧ w2.cell? ⟨w.heap.size + 1, 3, none⟩ = some b3) ∧
    (w2.frozen? ⟨w.heap.size, 0, none⟩ = false ∧ w2.frozen? ⟨w.heap.size, 1, none⟩ = false ∧ w2.frozen? ⟨w.heap.size, 2, none⟩ = false ∧ w2.frozen? ⟨w.heap.size, 3, none⟩ = false) ∧ w.heap.size + 1 < w2.heap.size ∧ Below w.heap.size w w2 := by
  have hs : w.heap.size + 2 ≤ w2.heap.size := by have := hb.size; simpa using this
  have hc : ∀ o, w2.cell? ⟨w.heap.size, o, none⟩ = #[a0, a1, a2, a3][o]? := fun o => (hb.cell (p := ⟨w.heap.size, o, none⟩) (by simp; omega)).trans ((World.cell?_alloc_lt _ _ _ (by simp)).trans (World.cell?_alloc_new _ _ _ _))
  have e : w.heap.size + 1 = (w.alloc (.cells #[a0, a1, a2, a3] t)).heap.size := by simp
  have hc2 : ∀ o, w2.cell? ⟨w.heap.size + 1, o, none⟩ = #[b0, b1, b2, b3][o]? := fun o => (hb.cell (p := ⟨w.heap.size + 1, o, none⟩) (by simp)).trans (by rw [e]; exact World.cell?_alloc_new _ _ _ _)
  have hf : ∀ o, w2.frozen? ⟨w.heap.size, o, none⟩ = false := fun o => (hb.frozen (p := ⟨w.heap.size, o, none⟩) (by simp; omega)).trans ((World.frozen?_alloc_past _ _ _ (by simp)).trans (World.frozen?_alloc_at _ _ _ _ rfl))
  exact ⟨⟨hc 0, hc 1, hc 2, hc 3⟩, ⟨hc2 0, hc2 1, hc2 2, hc2 3⟩, ⟨hf 0, hf 1, hf 2, hf 3⟩, by omega, (((Below.refl _ _).alloc (Nat.le_refl _) _).alloc (by simp) _).trans (hb.mono (by simp; omega))⟩

theorem set4 {w w2 : World} (h : Below w.heap.size w w2) (x y z u : Value) : Below w.heap.size w ((((w2.setCell ⟨w.heap.size, 0, none⟩ x).setCell ⟨w.heap.size, 1, none⟩ y).setCell ⟨w.heap.size, 2, none⟩ z).setCell ⟨w.heap.size, 3, none⟩ u) :=
  (((h.setCell (Nat.le_refl _) _).setCell (Nat.le_refl _) _).setCell (Nat.le_refl _) _).setCell (Nat.le_refl _) _

set_option maxRecDepth 100000 in
set_option maxHeartbeats 4000000 in
theorem token_word (s : ByteArray) (a : Nat) (w : World) (hs : s.size ≤ 2000) (_ha : a ≤ s.size) (A : Nat) (HA : Hid (Sp.tokAt s.data.toList a = A)) (hA : A < s.size) (hlo : Sp.isLo s[A] = true) :
    Calls Tryz.prog 62 #[.string s, .int .i64 a] w (TR s a w) := by
  go_enter Tryz.func62, Tryz.ntmps62
  go_wp2_with fail
  go_loop [1] (fun x => ∃ k : Nat, a ≤ k ∧ k ≤ A ∧ x = .int .i64 k ∧ Hid (A = k + Sp.many Sp.isSp (s.data.toList.drop k))) (fun x => s.size - (intOf x).toNat)
  case atStart => exact ⟨a, Nat.le_refl _, by rw [← HA.out]; unfold Sp.tokAt; omega, rfl, HA.out.symm⟩
  case round =>
    obtain ⟨k, hak, hk, rfl, HR⟩ := hrel
    have hlt : k < s.size := by omega
    cases hp : Sp.isSp s[k]
    · obtain rfl : k = A := by have := HR.out; rw [many_stop _ s k hlt hp] at this; omega
      obtain ⟨b1, b2⟩ := sp_false hlt hp
      have hkb : ((k : Int) == (s.size : Int)) = false := by simp; omega
      clear HR
      have e := data_cons_at s k hlt
      have hF := first_word (r := s.data.toList.drop (k + 1)) hlo
      rw [← e] at hF
      have h1 := many_step Sp.isWd s k hlt (by simp [Sp.isWd, hlo])
      have hle : k + Sp.many Sp.isWd (s.data.toList.drop k) ≤ s.size := by have := many_le Sp.isWd (s.data.toList.drop k); rw [List.length_drop, size_data] at this; omega
      obtain ⟨t1, t2, t3⟩ := tok_of HA.out
      have HF : Hid (Sp.first (s.data.toList.drop k) = (if isKy ((s.data.toList.drop k).take (Sp.many Sp.isWd (s.data.toList.drop k))) then .key else if Sp.many Sp.isWd (s.data.toList.drop k) ≤ 12 then .name else .bad, Sp.many Sp.isWd (s.data.toList.drop k))) := hF
      have HT : Hid (Sp.tokCl s.data.toList a = (Sp.first (s.data.toList.drop k)).1 ∧ Sp.tokEnd s.data.toList a = k + (Sp.first (s.data.toList.drop k)).2 ∧ Sp.tokWord s.data.toList a = (s.data.toList.drop k).take (Sp.first (s.data.toList.drop k)).2) := ⟨t1, t2, t3⟩
      have HE : Hid (k + Sp.many Sp.isWd (s.data.toList.drop k) ≤ s.size) := hle
      have HS1 : Hid (k + Sp.many Sp.isWd (s.data.toList.drop k) = k + 1 + Sp.many Sp.isWd (s.data.toList.drop (k + 1))) := by show _ = _; rw [h1]; omega
      clear e hF h1 hle t1 t2 t3
      go_wp2_with fail
      refine (small_any _ _).mono ?_
      rintro r w1 ⟨rfl, rfl⟩
      go_wp2_with fail
      go_loop [8] (fun x => ∃ j : Nat, k + 1 ≤ j ∧ j ≤ s.size ∧ x = .int .i64 j ∧ Hid (k + Sp.many Sp.isWd (s.data.toList.drop k) = j + Sp.many Sp.isWd (s.data.toList.drop j))) (fun x => s.size - (intOf x).toNat)
      case atStart => exact ⟨k + 1, Nat.le_refl _, by omega, by go_num, HS1.out⟩
      case round =>
        obtain ⟨j, hkj, hj, rfl, HR⟩ := hrel
        by_cases hjl : j < s.size
        · cases hp2 : Sp.isWd s[j]
          · have HV : Hid (k + Sp.many Sp.isWd (s.data.toList.drop k) = j) := by show _ = _; rw [HR.out, many_stop _ s j hjl hp2]; rfl
            obtain ⟨d1, d2, d3⟩ := wd_false hjl hp2
            clear HR
            have hsz2 : (s.extract k j).size = j - k := by rw [← size_data, Lib.extract_data, List.length_take, List.length_drop, size_data]; omega
            have HM : Hid (Sp.many Sp.isWd (s.data.toList.drop k) = j - k) := by show _ = _; have := HV.out; omega
            have HX : Hid ((s.extract k j).toList = (s.data.toList.drop k).take (Sp.many Sp.isWd (s.data.toList.drop k))) := by show _ = _; rw [HM.out]; exact ext_mid s k j
            have HEN : Hid (Sp.tokEnd s.data.toList a = j) := by show _ = _; rw [HT.out.2.1, HF.out]; dsimp only; rw [HM.out]; omega
            have HWD : Hid (Sp.tokWord s.data.toList a = (s.extract k j).toList) := by show _ = _; rw [HT.out.2.2, HF.out, HX.out]
            cases hky : isKy (s.extract k j).toList
            · by_cases h12 : (s.extract k j).size ≤ 12
              · have HC : Hid (Sp.tokCl s.data.toList a = .name) := by show _ = _; rw [HT.out.1, HF.out, ← HX.out, hky, HM.out, ← hsz2, if_neg (by simp), if_pos h12]
                clear HT HF HS1 HM HX HE HV
                go_wp2_with (first | (go_at_call 106; refine (small_any _ _).mono ?_; rintro r w1 ⟨rfl, rfl⟩) | (go_at_call 107; refine (digit_any _ _).mono ?_; rintro r w1 ⟨rfl, rfl⟩))
                refine (isKey_any _ _).mono ?_
                rintro r w2 ⟨rfl, hb⟩
                obtain ⟨⟨q0, q1, q2, q3⟩, ⟨r0, r1, r2, r3⟩, ⟨g0, g1, g2, g3⟩, hsz, hbl⟩ := own44 _ _ _ _ _ _ _ _ _ _ _ hb
                have HB : Hid (Below w.heap.size w w2) := hbl
                clear hb hbl
                go_wp2_with fail
                exact bodyPost_ret (v := .tuple #[.agg #[.string ⟨#[110, 97, 109, 101]⟩, .int .i64 k, .string (s.extract k j), .int .i64 0], .int .i64 j]) (by simp [results, Tryz.results62, go_sem, q0, q1, q2, q3]) rfl ⟨_, _, _, _, by rw [HA.out], by rw [HC.out]; exact ByteArray.toList_mk _, fun h => absurd (HC.out.symm.trans h) (by decide), fun _ => by rw [HEN.out], set4 HB.out _ _ _ _⟩
              · have HC : Hid (Sp.tokCl s.data.toList a = .bad) := by show _ = _; rw [HT.out.1, HF.out, ← HX.out, hky, HM.out, ← hsz2, if_neg (by simp), if_neg h12]
                clear HT HF HS1 HM HX HE HV
                go_wp2_with (first | (go_at_call 106; refine (small_any _ _).mono ?_; rintro r w1 ⟨rfl, rfl⟩) | (go_at_call 107; refine (digit_any _ _).mono ?_; rintro r w1 ⟨rfl, rfl⟩))
                refine (isKey_any _ _).mono ?_
                rintro r w2 ⟨rfl, hb⟩
                obtain ⟨⟨q0, q1, q2, q3⟩, ⟨r0, r1, r2, r3⟩, ⟨g0, g1, g2, g3⟩, hsz, hbl⟩ := own44 _ _ _ _ _ _ _ _ _ _ _ hb
                have HB : Hid (Below w.heap.size w w2) := hbl
                clear hb hbl
                go_wp2_with fail
                exact bodyPost_ret (v := .tuple #[.agg #[.string ⟨#[98, 97, 100]⟩, .int .i64 k, .string ⟨#[]⟩, .int .i64 0], .int .i64 j]) (by simp [results, Tryz.results62, go_sem, q0, q1, q2, q3]) rfl ⟨_, _, _, _, by rw [HA.out], by rw [HC.out]; exact ByteArray.toList_mk _, fun h => absurd (HC.out.symm.trans h) (by decide), fun h => absurd HC.out h, set4 HB.out _ _ _ _⟩
            · have HC : Hid (Sp.tokCl s.data.toList a = .key) := by show _ = _; rw [HT.out.1, HF.out, ← HX.out, hky, if_pos rfl]
              clear HT HF HS1 HM HX HE HV hsz2
              go_wp2_with (first | (go_at_call 106; refine (small_any _ _).mono ?_; rintro r w1 ⟨rfl, rfl⟩) | (go_at_call 107; refine (digit_any _ _).mono ?_; rintro r w1 ⟨rfl, rfl⟩))
              refine (isKey_any _ _).mono ?_
              rintro r w2 ⟨rfl, hb⟩
              obtain ⟨⟨q0, q1, q2, q3⟩, ⟨r0, r1, r2, r3⟩, ⟨g0, g1, g2, g3⟩, hsz, hbl⟩ := own44 _ _ _ _ _ _ _ _ _ _ _ hb
              have HB : Hid (Below w.heap.size w w2) := hbl
              clear hb hbl
              go_wp2_with fail
              exact bodyPost_ret (v := .tuple #[.agg #[.string ⟨#[107, 101, 121]⟩, .int .i64 k, .string (s.extract k j), .int .i64 0], .int .i64 j]) (by simp [results, Tryz.results62, go_sem, q0, q1, q2, q3]) rfl ⟨_, _, _, _, by rw [HA.out], by rw [HC.out]; exact ByteArray.toList_mk _, fun _ => HWD.out.symm, fun _ => by rw [HEN.out], set4 HB.out _ _ _ _⟩
          · have HV : Hid (k + Sp.many Sp.isWd (s.data.toList.drop k) = j + 1 + Sp.many Sp.isWd (s.data.toList.drop (j + 1))) := by show _ = _; rw [HR.out, many_step _ s j hjl hp2]; omega
            clear HR
            rcases wd_true hjl hp2 with d1 | ⟨d1, d2⟩ | ⟨d1, d2, d3⟩
            all_goals
              go_wp2_with (first | (go_at_call 106; refine (small_any _ _).mono ?_; rintro r w1 ⟨rfl, rfl⟩) | (go_at_call 107; refine (digit_any _ _).mono ?_; rintro r w1 ⟨rfl, rfl⟩))
              go_round
              case rel => exact ⟨j + 1, by omega, by omega, by go_num, HV.out⟩
              case measure => simp [intOf]; omega
        · have HV : Hid (k + Sp.many Sp.isWd (s.data.toList.drop k) = j) := by show _ = _; rw [HR.out, many_end _ s j (by omega)]; rfl
          clear HR
          have hsz2 : (s.extract k j).size = j - k := by rw [← size_data, Lib.extract_data, List.length_take, List.length_drop, size_data]; omega
          have HM : Hid (Sp.many Sp.isWd (s.data.toList.drop k) = j - k) := by show _ = _; have := HV.out; omega
          have HX : Hid ((s.extract k j).toList = (s.data.toList.drop k).take (Sp.many Sp.isWd (s.data.toList.drop k))) := by show _ = _; rw [HM.out]; exact ext_mid s k j
          have HEN : Hid (Sp.tokEnd s.data.toList a = j) := by show _ = _; rw [HT.out.2.1, HF.out]; dsimp only; rw [HM.out]; omega
          have HWD : Hid (Sp.tokWord s.data.toList a = (s.extract k j).toList) := by show _ = _; rw [HT.out.2.2, HF.out, HX.out]
          cases hky : isKy (s.extract k j).toList
          · by_cases h12 : (s.extract k j).size ≤ 12
            · have HC : Hid (Sp.tokCl s.data.toList a = .name) := by show _ = _; rw [HT.out.1, HF.out, ← HX.out, hky, HM.out, ← hsz2, if_neg (by simp), if_pos h12]
              clear HT HF HS1 HM HX HE HV
              go_wp2_with fail
              refine (isKey_any _ _).mono ?_
              rintro r w2 ⟨rfl, hb⟩
              obtain ⟨⟨q0, q1, q2, q3⟩, ⟨r0, r1, r2, r3⟩, ⟨g0, g1, g2, g3⟩, hsz, hbl⟩ := own44 _ _ _ _ _ _ _ _ _ _ _ hb
              have HB : Hid (Below w.heap.size w w2) := hbl
              clear hb hbl
              go_wp2_with fail
              exact bodyPost_ret (v := .tuple #[.agg #[.string ⟨#[110, 97, 109, 101]⟩, .int .i64 k, .string (s.extract k j), .int .i64 0], .int .i64 j]) (by simp [results, Tryz.results62, go_sem, q0, q1, q2, q3]) rfl ⟨_, _, _, _, by rw [HA.out], by rw [HC.out]; exact ByteArray.toList_mk _, fun h => absurd (HC.out.symm.trans h) (by decide), fun _ => by rw [HEN.out], set4 HB.out _ _ _ _⟩
            · have HC : Hid (Sp.tokCl s.data.toList a = .bad) := by show _ = _; rw [HT.out.1, HF.out, ← HX.out, hky, HM.out, ← hsz2, if_neg (by simp), if_neg h12]
              clear HT HF HS1 HM HX HE HV
              go_wp2_with fail
              refine (isKey_any _ _).mono ?_
              rintro r w2 ⟨rfl, hb⟩
              obtain ⟨⟨q0, q1, q2, q3⟩, ⟨r0, r1, r2, r3⟩, ⟨g0, g1, g2, g3⟩, hsz, hbl⟩ := own44 _ _ _ _ _ _ _ _ _ _ _ hb
              have HB : Hid (Below w.heap.size w w2) := hbl
              clear hb hbl
              go_wp2_with fail
              exact bodyPost_ret (v := .tuple #[.agg #[.string ⟨#[98, 97, 100]⟩, .int .i64 k, .string ⟨#[]⟩, .int .i64 0], .int .i64 j]) (by simp [results, Tryz.results62, go_sem, q0, q1, q2, q3]) rfl ⟨_, _, _, _, by rw [HA.out], by rw [HC.out]; exact ByteArray.toList_mk _, fun h => absurd (HC.out.symm.trans h) (by decide), fun h => absurd HC.out h, set4 HB.out _ _ _ _⟩
          · have HC : Hid (Sp.tokCl s.data.toList a = .key) := by show _ = _; rw [HT.out.1, HF.out, ← HX.out, hky, if_pos rfl]
            clear HT HF HS1 HM HX HE HV hsz2
            go_wp2_with fail
            refine (isKey_any _ _).mono ?_
            rintro r w2 ⟨rfl, hb⟩
            obtain ⟨⟨q0, q1, q2, q3⟩, ⟨r0, r1, r2, r3⟩, ⟨g0, g1, g2, g3⟩, hsz, hbl⟩ := own44 _ _ _ _ _ _ _ _ _ _ _ hb
            have HB : Hid (Below w.heap.size w w2) := hbl
            clear hb hbl
            go_wp2_with fail
            exact bodyPost_ret (v := .tuple #[.agg #[.string ⟨#[107, 101, 121]⟩, .int .i64 k, .string (s.extract k j), .int .i64 0], .int .i64 j]) (by simp [results, Tryz.results62, go_sem, q0, q1, q2, q3]) rfl ⟨_, _, _, _, by rw [HA.out], by rw [HC.out]; exact ByteArray.toList_mk _, fun _ => HWD.out.symm, fun _ => by rw [HEN.out], set4 HB.out _ _ _ _⟩
    · have HV : Hid (A = k + 1 + Sp.many Sp.isSp (s.data.toList.drop (k + 1))) := by show _ = _; have := HR.out; rw [many_step _ s k hlt hp] at this; omega
      have hk1 : k + 1 ≤ A := by have := HV.out; omega
      clear HR
      rcases sp_true hlt hp with b1 | ⟨b1, b2⟩
      all_goals
        go_wp2_with fail
        go_round
        case rel => exact ⟨k + 1, by omega, hk1, by go_num, HV.out⟩
        case measure => simp [intOf]; omega

end Go.Proofs.YtgnncnhkgmhngaaGreatDoor
