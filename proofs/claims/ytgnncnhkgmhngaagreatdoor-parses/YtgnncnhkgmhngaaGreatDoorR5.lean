import Derived.Test.YtgnncnhkgmhngaaGreatDoorR4
namespace Go.Proofs.YtgnncnhkgmhngaaGreatDoor
open Go.RowKit

def sg : ByteArray := ⟨#[40, 41, 44, 46, 42, 43, 45, 47, 61, 60, 62]⟩

theorem sg_one (c : UInt8) : Sp.isOne c = sg.toList.any (fun x => x == c) := by
  have : sg.toList = [40, 41, 44, 46, 42, 43, 45, 47, 61, 60, 62] := ByteArray.toList_mk _
  have hc : ∀ x : UInt8, (x == c) = (c == x) := fun x => by rw [Bool.eq_iff_iff, beq_iff_eq, beq_iff_eq]; exact ⟨Eq.symm, Eq.symm⟩
  rw [this]
  simp only [Sp.isOne, List.any_cons, List.any_nil, Bool.or_false, Bool.or_assoc, hc]

theorem sign_two (s : ByteArray) (k : Nat) (h : k + 1 < s.size) : (s.extract k (k + 2)).toList = [s[k], s[k + 1]] := by
  rw [ext_mid, drop_cons s k (by omega), drop_cons s (k + 1) h, show k + 2 - k = 2 from by omega]; rfl

theorem sign_len2 (s : ByteArray) (k : Nat) (h : k + 1 < s.size) : Sp.signLen (s.data.toList.drop k) = if Sp.isTwo s[k] s[k + 1] then 2 else if Sp.isOne s[k] then 1 else 0 := by
  rw [drop_cons s k (by omega), drop_cons s (k + 1) h, Sp.signLen]
theorem sign_len1 (s : ByteArray) (k : Nat) (h : k + 1 = s.size) : Sp.signLen (s.data.toList.drop k) = if Sp.isOne s[k] then 1 else 0 := by
  rw [drop_cons s k (by omega), List.drop_of_length_le (by rw [size_data]; omega), Sp.signLen]

theorem first_of_sign (s : ByteArray) (k : Nat) (h : k < s.size) (hl : Sp.isLo s[k] = false) (hd : Sp.isDg s[k] = false) (hq : (s[k] == 39) = false) (n : Nat) (hn : Sp.signLen (s.data.toList.drop k) = n) :
    Sp.first (s.data.toList.drop k) = if n = 0 then (.bad, 0) else (.key, n) := by
  rw [drop_cons s k h] at hn ⊢
  rw [first_sign hl hd hq, hn]
  cases n <;> rfl

theorem two_true {s : ByteArray} {k : Nat} (h : k + 1 < s.size) {x y : UInt8} (hxy : Sp.isTwo x y = true) (t : ((s.extract k (k + 2)).toList == [x, y]) = true) : Sp.signLen (s.data.toList.drop k) = 2 := by
  rw [sign_two s k h] at t
  have := eq_of_beq t
  simp only [List.cons.injEq, and_true] at this
  rw [sign_len2 s k h, this.1, this.2, hxy]; rfl
theorem two_false {s : ByteArray} {k : Nat} (h : k + 1 < s.size) (t1 : ((s.extract k (k + 2)).toList == [60, 62]) = false) (t2 : ((s.extract k (k + 2)).toList == [60, 61]) = false) (t3 : ((s.extract k (k + 2)).toList == [62, 61]) = false) : Sp.signLen (s.data.toList.drop k) = if Sp.isOne s[k] then 1 else 0 := by
  rw [sign_two s k h] at t1 t2 t3
  have z : (([] : List UInt8) == []) = true := rfl
  simp only [List.cons_beq_cons, z, Bool.and_true] at t1 t2 t3
  rw [sign_len2 s k h, Sp.isTwo, t1, t2, t3]; rfl

theorem sg_size : sg.size = 11 := rfl
theorem one_hit {s : ByteArray} {k m : Nat} (hk : k < s.size) (hm : m < sg.size) (h : ((sg[m].toNat : Int) == (s[k].toNat : Int)) = true) : Sp.isOne s[k] = true := by
  rw [sg_one, List.any_eq_true]
  refine ⟨sg[m], ?_, by rw [← u8_eq]; exact h⟩
  rw [ByteArray.toList_eq]
  exact Array.mem_toList_iff.2 (Array.getElem_mem _)
theorem one_miss {s : ByteArray} {k : Nat} (hk : k < s.size) (h : ∀ m, (hm : m < sg.size) → ((sg[m].toNat : Int) == (s[k].toNat : Int)) = false) : Sp.isOne s[k] = false := by
  rw [sg_one, List.any_eq_false]
  intro x hx
  rw [ByteArray.toList_eq] at hx
  obtain ⟨m, hm, rfl⟩ := List.getElem_of_mem hx
  have hm' : m < sg.size := by rw [← size_data]; exact hm
  have := h m hm'
  rw [u8_eq] at this
  have e : sg.data.toList[m] = sg[m] := rfl
  rw [e, this]; decide

set_option maxRecDepth 100000 in
set_option maxHeartbeats 4000000 in
theorem token_sign (s : ByteArray) (a : Nat) (w : World) (hs : s.size ≤ 2000) (_ha : a ≤ s.size) (A : Nat) (HA : Hid (Sp.tokAt s.data.toList a = A)) (hA : A < s.size) (hl : Sp.isLo s[A] = false) (hd : Sp.isDg s[A] = false) (hq : (s[A] == 39) = false) :
    Calls Tryz.prog 62 #[.string s, .int .i64 a] w (TR s a w) := by
  go_enter Tryz.func62, Tryz.ntmps62
  go_wp2_with fail
  go_loop [1] (fun x => ∃ k : Nat, a ≤ k ∧ k ≤ A ∧ x = .int .i64 k ∧ Hid (A = k + Sp.many Sp.isSp (s.data.toList.drop k))) (fun x => s.size - (intOf x).toNat)
  case atStart => exact ⟨a, Nat.le_refl _, by rw [← HA.out]; unfold Sp.tokAt; omega, rfl, HA.out.symm⟩
  case round =>
    obtain ⟨k, hak, hk, rfl, HR⟩ := hrel
    have hlt : k < s.size := by omega
    cases hp : Sp.isSp s[k]
    · obtain rfl : k = A := by have := HR.out; rw [many_stop _ s k hlt hp] at this; omega
      obtain ⟨b1, b2⟩ := sp_false hlt hp
      have hkb : ((k : Int) == (s.size : Int)) = false := by simp; omega
      clear HR
      obtain ⟨t1, t2, t3⟩ := tok_of HA.out
      have HT : Hid (Sp.tokCl s.data.toList a = (Sp.first (s.data.toList.drop k)).1 ∧ Sp.tokEnd s.data.toList a = k + (Sp.first (s.data.toList.drop k)).2 ∧ Sp.tokWord s.data.toList a = (s.data.toList.drop k).take (Sp.first (s.data.toList.drop k)).2) := ⟨t1, t2, t3⟩
      clear t1 t2 t3
      have hq' := u8_n39 hlt hq
      by_cases h1 : k + 1 < s.size
      · cases T1 : ((s.extract k (k + 2)).toList == [60, 62])
        · cases T2 : ((s.extract k (k + 2)).toList == [60, 61])
          · cases T3 : ((s.extract k (k + 2)).toList == [62, 61])
            · have HSL : Hid (Sp.signLen (s.data.toList.drop k) = if Sp.isOne s[k] then 1 else 0) := two_false h1 T1 T2 T3
              go_wp2_with (first | (go_at_call 106; refine (small_any _ _).mono ?_; rintro r w1 ⟨rfl, rfl⟩) | (go_at_call 107; refine (digit_any _ _).mono ?_; rintro r w1 ⟨rfl, rfl⟩))
              have hsg : (ByteArray.mk #[40, 41, 44, 46, 42, 43, 45, 47, 61, 60, 62]) = sg := rfl
              rw [hsg]
              generalize hgs : sg = g at *
              have HG : Hid (sg = g) := hgs
              have hg11 : g.size = 11 := by rw [← hgs]; rfl
              clear hgs hsg
              go_loop [17] (fun x => ∃ m : Nat, m ≤ 11 ∧ x = .int .i64 m ∧ Hid (∀ i, (hi : i < g.size) → i < m → ((g[i].toNat : Int) == (s[k].toNat : Int)) = false)) (fun x => 11 - (intOf x).toNat)
              case atStart => exact ⟨0, by omega, rfl, fun i _ hi => absurd hi (Nat.not_lt_zero _)⟩
              case round =>
                obtain ⟨m, hm, rfl, HR⟩ := hrel
                by_cases hml : m < 11
                · have hmg : m < g.size := by omega
                  cases hh : ((g[m].toNat : Int) == (s[k].toNat : Int))
                  · go_wp2_with fail
                    go_round
                    case rel => exact ⟨m + 1, by omega, by go_num, fun i hi hi' => by
                      by_cases e : i = m
                      · subst e; exact hh
                      · exact HR.out i hi (by omega)⟩
                    case measure => simp [intOf]; omega
                  · have HC : Hid (Sp.tokCl s.data.toList a = .key ∧ Sp.tokEnd s.data.toList a = k + 1 ∧ Sp.tokWord s.data.toList a = (s.extract k (k + 1)).toList) := by
                      have h1 : Sp.isOne s[k] = true := by
                        have e := HG.out
                        subst e
                        exact one_hit hlt hmg hh
                      have hF := first_of_sign s k hlt hl hd hq 1 (by rw [HSL.out, h1]; rfl)
                      rw [if_neg (by decide)] at hF
                      refine ⟨by rw [HT.out.1, hF], by rw [HT.out.2.1, hF], by rw [HT.out.2.2, hF, ext_mid, show k + 1 - k = 1 from by omega]⟩
                    clear HT HSL HR
                    go_wp2_with fail
                    exact bodyPost_ret (v := .tuple #[.agg #[.string ⟨#[107, 101, 121]⟩, .int .i64 k, .string (s.extract k (k + 1)), .int .i64 0], .int .i64 ((k : Int) + 1)]) (by simp [results, Tryz.results62, go_sem]) rfl ⟨_, _, _, _, by rw [HA.out], by rw [HC.out.1]; exact ByteArray.toList_mk _, fun _ => HC.out.2.2.symm, fun _ => by rw [HC.out.2.1]; rfl, ((Below.refl _ _).alloc (Nat.le_refl _) _).alloc (by simp) _⟩
                · have HC : Hid (Sp.tokCl s.data.toList a = .bad) := by
                    have h1 : Sp.isOne s[k] = false := by
                      have e := HG.out
                      subst e
                      exact one_miss hlt (fun i hi => HR.out i hi (by omega))
                    have hF := first_of_sign s k hlt hl hd hq 0 (by rw [HSL.out, h1]; rfl)
                    rw [if_pos rfl] at hF
                    show _ = _
                    rw [HT.out.1, hF]
                  clear HT HSL HR
                  go_wp2_with fail
                  exact bodyPost_ret (v := .tuple #[.agg #[.string ⟨#[98, 97, 100]⟩, .int .i64 k, .string ⟨#[]⟩, .int .i64 0], .int .i64 ((k : Int) + 1)]) (by simp [results, Tryz.results62, go_sem]) rfl ⟨_, _, _, _, by rw [HA.out], by rw [HC.out]; exact ByteArray.toList_mk _, fun h => absurd (HC.out.symm.trans h) (by decide), fun h => absurd HC.out h, ((Below.refl _ _).alloc (Nat.le_refl _) _).alloc (by simp) _⟩
            · have HC : Hid (Sp.tokCl s.data.toList a = .key ∧ Sp.tokEnd s.data.toList a = k + 2 ∧ Sp.tokWord s.data.toList a = (s.extract k (k + 2)).toList) := by
                have hF := first_of_sign s k hlt hl hd hq 2 (two_true h1 rfl T3)
                rw [if_neg (by decide)] at hF
                refine ⟨by rw [HT.out.1, hF], by rw [HT.out.2.1, hF], by rw [HT.out.2.2, hF, ext_mid, show k + 2 - k = 2 from by omega]⟩
              clear HT
              go_wp2_with (first | (go_at_call 106; refine (small_any _ _).mono ?_; rintro r w1 ⟨rfl, rfl⟩) | (go_at_call 107; refine (digit_any _ _).mono ?_; rintro r w1 ⟨rfl, rfl⟩))
              exact bodyPost_ret (v := .tuple #[.agg #[.string ⟨#[107, 101, 121]⟩, .int .i64 k, .string (s.extract k (k + 2)), .int .i64 0], .int .i64 ((k : Int) + 1 + 1)]) (by simp [results, Tryz.results62, go_sem]) rfl ⟨_, _, _, _, by rw [HA.out], by rw [HC.out.1]; exact ByteArray.toList_mk _, fun _ => HC.out.2.2.symm, fun _ => by rw [HC.out.2.1]; omega, ((Below.refl _ _).alloc (Nat.le_refl _) _).alloc (by simp) _⟩
          · have HC : Hid (Sp.tokCl s.data.toList a = .key ∧ Sp.tokEnd s.data.toList a = k + 2 ∧ Sp.tokWord s.data.toList a = (s.extract k (k + 2)).toList) := by
              have hF := first_of_sign s k hlt hl hd hq 2 (two_true h1 rfl T2)
              rw [if_neg (by decide)] at hF
              refine ⟨by rw [HT.out.1, hF], by rw [HT.out.2.1, hF], by rw [HT.out.2.2, hF, ext_mid, show k + 2 - k = 2 from by omega]⟩
            clear HT
            go_wp2_with (first | (go_at_call 106; refine (small_any _ _).mono ?_; rintro r w1 ⟨rfl, rfl⟩) | (go_at_call 107; refine (digit_any _ _).mono ?_; rintro r w1 ⟨rfl, rfl⟩))
            exact bodyPost_ret (v := .tuple #[.agg #[.string ⟨#[107, 101, 121]⟩, .int .i64 k, .string (s.extract k (k + 2)), .int .i64 0], .int .i64 ((k : Int) + 1 + 1)]) (by simp [results, Tryz.results62, go_sem]) rfl ⟨_, _, _, _, by rw [HA.out], by rw [HC.out.1]; exact ByteArray.toList_mk _, fun _ => HC.out.2.2.symm, fun _ => by rw [HC.out.2.1]; omega, ((Below.refl _ _).alloc (Nat.le_refl _) _).alloc (by simp) _⟩
        · have HC : Hid (Sp.tokCl s.data.toList a = .key ∧ Sp.tokEnd s.data.toList a = k + 2 ∧ Sp.tokWord s.data.toList a = (s.extract k (k + 2)).toList) := by
            have hF := first_of_sign s k hlt hl hd hq 2 (two_true h1 rfl T1)
            rw [if_neg (by decide)] at hF
            refine ⟨by rw [HT.out.1, hF], by rw [HT.out.2.1, hF], by rw [HT.out.2.2, hF, ext_mid, show k + 2 - k = 2 from by omega]⟩
          clear HT
          go_wp2_with (first | (go_at_call 106; refine (small_any _ _).mono ?_; rintro r w1 ⟨rfl, rfl⟩) | (go_at_call 107; refine (digit_any _ _).mono ?_; rintro r w1 ⟨rfl, rfl⟩))
          exact bodyPost_ret (v := .tuple #[.agg #[.string ⟨#[107, 101, 121]⟩, .int .i64 k, .string (s.extract k (k + 2)), .int .i64 0], .int .i64 ((k : Int) + 1 + 1)]) (by simp [results, Tryz.results62, go_sem]) rfl ⟨_, _, _, _, by rw [HA.out], by rw [HC.out.1]; exact ByteArray.toList_mk _, fun _ => HC.out.2.2.symm, fun _ => by rw [HC.out.2.1]; omega, ((Below.refl _ _).alloc (Nat.le_refl _) _).alloc (by simp) _⟩
      · have HSL : Hid (Sp.signLen (s.data.toList.drop k) = if Sp.isOne s[k] then 1 else 0) := sign_len1 s k (by omega)
        go_wp2_with (first | (go_at_call 106; refine (small_any _ _).mono ?_; rintro r w1 ⟨rfl, rfl⟩) | (go_at_call 107; refine (digit_any _ _).mono ?_; rintro r w1 ⟨rfl, rfl⟩))
        have hsg : (ByteArray.mk #[40, 41, 44, 46, 42, 43, 45, 47, 61, 60, 62]) = sg := rfl
        rw [hsg]
        generalize hgs : sg = g at *
        have HG : Hid (sg = g) := hgs
        have hg11 : g.size = 11 := by rw [← hgs]; rfl
        clear hgs hsg
        go_loop [17] (fun x => ∃ m : Nat, m ≤ 11 ∧ x = .int .i64 m ∧ Hid (∀ i, (hi : i < g.size) → i < m → ((g[i].toNat : Int) == (s[k].toNat : Int)) = false)) (fun x => 11 - (intOf x).toNat)
        case atStart => exact ⟨0, by omega, rfl, fun i _ hi => absurd hi (Nat.not_lt_zero _)⟩
        case round =>
          obtain ⟨m, hm, rfl, HR⟩ := hrel
          by_cases hml : m < 11
          · have hmg : m < g.size := by omega
            cases hh : ((g[m].toNat : Int) == (s[k].toNat : Int))
            · go_wp2_with fail
              go_round
              case rel => exact ⟨m + 1, by omega, by go_num, fun i hi hi' => by
                by_cases e : i = m
                · subst e; exact hh
                · exact HR.out i hi (by omega)⟩
              case measure => simp [intOf]; omega
            · have HC : Hid (Sp.tokCl s.data.toList a = .key ∧ Sp.tokEnd s.data.toList a = k + 1 ∧ Sp.tokWord s.data.toList a = (s.extract k (k + 1)).toList) := by
                have h1 : Sp.isOne s[k] = true := by
                  have e := HG.out
                  subst e
                  exact one_hit hlt hmg hh
                have hF := first_of_sign s k hlt hl hd hq 1 (by rw [HSL.out, h1]; rfl)
                rw [if_neg (by decide)] at hF
                refine ⟨by rw [HT.out.1, hF], by rw [HT.out.2.1, hF], by rw [HT.out.2.2, hF, ext_mid, show k + 1 - k = 1 from by omega]⟩
              clear HT HSL HR
              go_wp2_with fail
              exact bodyPost_ret (v := .tuple #[.agg #[.string ⟨#[107, 101, 121]⟩, .int .i64 k, .string (s.extract k (k + 1)), .int .i64 0], .int .i64 ((k : Int) + 1)]) (by simp [results, Tryz.results62, go_sem]) rfl ⟨_, _, _, _, by rw [HA.out], by rw [HC.out.1]; exact ByteArray.toList_mk _, fun _ => HC.out.2.2.symm, fun _ => by rw [HC.out.2.1]; rfl, ((Below.refl _ _).alloc (Nat.le_refl _) _).alloc (by simp) _⟩
          · have HC : Hid (Sp.tokCl s.data.toList a = .bad) := by
              have h1 : Sp.isOne s[k] = false := by
                have e := HG.out
                subst e
                exact one_miss hlt (fun i hi => HR.out i hi (by omega))
              have hF := first_of_sign s k hlt hl hd hq 0 (by rw [HSL.out, h1]; rfl)
              rw [if_pos rfl] at hF
              show _ = _
              rw [HT.out.1, hF]
            clear HT HSL HR
            go_wp2_with fail
            exact bodyPost_ret (v := .tuple #[.agg #[.string ⟨#[98, 97, 100]⟩, .int .i64 k, .string ⟨#[]⟩, .int .i64 0], .int .i64 ((k : Int) + 1)]) (by simp [results, Tryz.results62, go_sem]) rfl ⟨_, _, _, _, by rw [HA.out], by rw [HC.out]; exact ByteArray.toList_mk _, fun h => absurd (HC.out.symm.trans h) (by decide), fun h => absurd HC.out h, ((Below.refl _ _).alloc (Nat.le_refl _) _).alloc (by simp) _⟩
    · have HV : Hid (A = k + 1 + Sp.many Sp.isSp (s.data.toList.drop (k + 1))) := by show _ = _; have := HR.out; rw [many_step _ s k hlt hp] at this; omega
      have hk1 : k + 1 ≤ A := by have := HV.out; omega
      clear HR
      rcases sp_true hlt hp with b1 | ⟨b1, b2⟩
      all_goals
        go_wp2_with fail
        go_round
        case rel => exact ⟨k + 1, by omega, hk1, by go_num, HV.out⟩
        case measure => simp [intOf]; omega

end Go.Proofs.YtgnncnhkgmhngaaGreatDoor
