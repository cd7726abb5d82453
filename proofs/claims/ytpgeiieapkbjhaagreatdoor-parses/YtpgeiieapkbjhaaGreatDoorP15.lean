import Derived.Test.YtpgeiieapkbjhaaGreatDoorP14
namespace Go.Proofs.YtpgeiieapkbjhaaGreatDoor
open Go.RowKit

set_option maxHeartbeats 2000000 in
theorem row_any {b c cap len : Nat} {s : Sp.Bs} {n : Nat} {σ : Sp.St} {w : World} (_IA : Hid (All b c cap len s n)) (IL : Hid (SdL b c cap len s n .list 100)) (hn : n ≤ 900000) (hm : 32 * Sp.rem s σ + 20 ≤ n) (HP : Hid (PS b c cap len s 0 σ w)) :
    Calls Tryz.prog 99 #[.pointer (some ⟨b, 0, none⟩)] w (Post b c cap len s 0 (Sp.rowT s n σ) w) := by
  have r1 := Sp.rem_must s [40] σ
  have hmf : ∀ (fn : Fn) (first cap : Array Value) (w : World), (Instr.makeFunc fn first cap).run Tryz.prog w = .ok (.func fn first cap) w := fun _ _ _ _ => rfl
  go_enter Tryz.func99, Tryz.ntmps99
  go_wp2_with fail
  refine (expect_any HP.out [40] (by decide)).mono ?_
  rintro r w1 ⟨rfl, hp1, hk1⟩
  have HP1 : Hid (PS b c cap len s 0 (σ.must s [40]) w1) := hp1
  have HK1 : Hid (Kept b w w1) := hk1
  clear hp1 hk1
  go_wp2_with fail
  refine (IL.out 0 _ _ (by omega) (by show 32 * Sp.rem s _ + 10 ≤ n; omega) HP1.out).mono ?_
  rintro r w2 ⟨rfl, hp2, hk2⟩
  have HP2 : Hid (PS b c cap len s 0 (Sp.run s n .list 0 (σ.must s [40])) w2) := hp2
  have HK2 : Hid (Kept b w w2) := HK1.out.trans hk2
  clear hp2 hk2
  go_wp2_with fail
  refine (expect_any HP2.out [41] (by decide)).mono ?_
  rintro r w3 ⟨rfl, hp3, hk3⟩
  have HP3 : Hid (PS b c cap len s 0 (Sp.rowT s n σ) w3) := hp3
  have HK3 : Hid (Kept b w w3) := HK2.out.trans hk3
  clear hp3 hk3
  go_wp2_with fail
  go_end0
  exact ⟨rfl, HP3.out, HK3.out⟩

set_option maxHeartbeats 2000000 in
theorem assign_any {b c cap len : Nat} {s : Sp.Bs} {n : Nat} {σ : Sp.St} {w : World} (IA : Hid (All b c cap len s n)) (_IL : Hid (SdL b c cap len s n .list 100)) (hn : n ≤ 900000) (hm : 32 * Sp.rem s σ + 20 ≤ n) (HP : Hid (PS b c cap len s 0 σ w)) :
    Calls Tryz.prog 101 #[.pointer (some ⟨b, 0, none⟩)] w (Post b c cap len s 0 (Sp.chgT s n σ) w) := by
  have r1 := Sp.rem_nameT s σ
  have r2 := Sp.rem_must s [61] (σ.nameT s)
  have hmf : ∀ (fn : Fn) (first cap : Array Value) (w : World), (Instr.makeFunc fn first cap).run Tryz.prog w = .ok (.func fn first cap) w := fun _ _ _ _ => rfl
  go_enter Tryz.func101, Tryz.ntmps101
  go_wp2_with fail
  refine (name_any HP.out).mono ?_
  rintro r w1 ⟨rfl, hp1, hk1⟩
  have HP1 : Hid (PS b c cap len s 0 (σ.nameT s) w1) := hp1
  have HK1 : Hid (Kept b w w1) := hk1
  clear hp1 hk1
  go_wp2_with fail
  refine (expect_any HP1.out [61] (by decide)).mono ?_
  rintro r w2 ⟨rfl, hp2, hk2⟩
  have HP2 : Hid (PS b c cap len s 0 ((σ.nameT s).must s [61]) w2) := hp2
  have HK2 : Hid (Kept b w w2) := HK1.out.trans hk2
  clear hp2 hk2
  go_wp2_with fail
  refine (IA.out.expr 0 _ _ (by omega) (by show 32 * Sp.rem s _ + 9 ≤ n; omega) HP2.out).mono ?_
  rintro r w3 ⟨rfl, hp3, hk3⟩
  have HP3 : Hid (PS b c cap len s 0 (Sp.chgT s n σ) w3) := hp3
  have HK3 : Hid (Kept b w w3) := HK2.out.trans hk3
  clear hp3 hk3
  go_wp2_with fail
  go_end0
  exact ⟨rfl, HP3.out, HK3.out⟩

theorem rem_rowT (s : Sp.Bs) (n : Nat) (σ : Sp.St) : Sp.rem s (Sp.rowT s n σ) ≤ Sp.rem s σ := Nat.le_trans (Sp.rem_must _ _ _) (Nat.le_trans (Sp.rem_run _ _ _ _ _) (Sp.rem_must _ _ _))
theorem rem_chgT (s : Sp.Bs) (n : Nat) (σ : Sp.St) : Sp.rem s (Sp.chgT s n σ) ≤ Sp.rem s σ := Nat.le_trans (Sp.rem_run _ _ _ _ _) (Nat.le_trans (Sp.rem_must _ _ _) (Sp.rem_nameT _ _))

theorem rowL_eq (s : Sp.Bs) (n m : Nat) (σ : Sp.St) : Sp.rowL s n (m + 1) σ = if (Sp.rowT s n σ).is s [44] then Sp.rowL s n m ((Sp.rowT s n σ).step s) else Sp.rowT s n σ := by rw [Sp.rowL]

set_option maxHeartbeats 1000000 in
theorem listR_any {b c cap len : Nat} {s : Sp.Bs} {n : Nat} {σ : Sp.St} {w : World} (IA : Hid (All b c cap len s n)) (IL : Hid (SdL b c cap len s n .list 100)) (hn : n ≤ 900000) (hm : 32 * Sp.rem s σ + 20 ≤ n) (HP : Hid (PS b c cap len s 0 σ w)) :
    Calls Tryz.prog 95 #[.pointer (some ⟨b, 0, none⟩), .func (.func 99) #[.pointer (some ⟨b, 0, none⟩)] #[]] w (Post b c cap len s 0 (Sp.rowL s n n σ) w) := by
  obtain ⟨m0, hm0⟩ : ∃ m, n = m + 1 := ⟨n - 1, by omega⟩
  have hr := rem_rowT s n σ
  have HE : Hid (Sp.rowL s n n σ = if (Sp.rowT s n σ).is s [44] then Sp.rowL s n m0 ((Sp.rowT s n σ).step s) else Sp.rowT s n σ) := by
    show _ = _
    conv => lhs; arg 3; rw [hm0]
    exact rowL_eq s n m0 σ
  have hm1 : m0 + 1 ≤ n := by omega
  have hm2 : n ≤ m0 + 1 := by omega
  clear hm0
  go_enter Tryz.func95, Tryz.ntmps95
  go_wp2_with fail
  refine (row_any IA IL hn hm HP).mono ?_
  rintro r w1 ⟨rfl, hp1, hk1⟩
  have HP1 : Hid (PS b c cap len s 0 (Sp.rowT s n σ) w1) := hp1
  have HK1 : Hid (Kept b w w1) := hk1
  clear hp1 hk1
  go_wp2_with fail
  go_loopg [8] m0 (fun m _ wr => m ≤ m0 ∧ ∃ σ', 32 * Sp.rem s σ' ≤ m + 1 ∧ 32 * Sp.rem s σ' + 20 ≤ n ∧ Hid (Sp.rowL s n n σ = if σ'.is s [44] then Sp.rowL s n m (σ'.step s) else σ') ∧ Hid (PS b c cap len s 0 σ' wr) ∧ Hid (Kept b w wr))
  case atStart => exact ⟨Nat.le_refl _, _, by omega, by omega, HE.out, HP1.out, HK1.out⟩
  case round =>
    obtain ⟨hmn, σ', hms, hmn2, HR, HPr, HKr⟩ := hrel
    cases hs : σ'.is s [44]
    · have HV : Hid (Sp.rowL s n n σ = σ') := by show _ = _; rw [HR.out, hs]; rfl
      have HT : Hid (σ'.take s [44] = σ') := by show _ = _; rw [Sp.St.take, hs]; rfl
      clear HR
      go_wp2_with fail
      refine (accept1 HPr.out [44] (by decide)).mono ?_
      rintro r w2 ⟨rfl, hp2, hk2⟩
      rw [HT.out] at hp2
      have HP2 : Hid (PS b c cap len s 0 (σ') w2) := hp2
      have HK2 : Hid (Kept b w w2) := HKr.out.trans hk2
      clear hp2 hk2
      go_wp2_with fail
      go_end0
      exact ⟨rfl, by rw [HV.out]; exact HP2.out, HK2.out⟩
    · have h1 := Sp.rem_step_lt hs
      obtain ⟨m, rfl⟩ : ∃ m, gk = m + 1 := ⟨gk - 1, by omega⟩
      have h2 := rem_rowT s n (σ'.step s)
      have HV : Hid (Sp.rowL s n n σ = if (Sp.rowT s n (σ'.step s)).is s [44] then Sp.rowL s n m ((Sp.rowT s n (σ'.step s)).step s) else Sp.rowT s n (σ'.step s)) := by show _ = _; rw [HR.out, hs, if_pos rfl, rowL_eq]
      have HT : Hid (σ'.take s [44] = σ'.step s) := by show _ = _; rw [Sp.St.take, hs]; rfl
      clear HR
      go_wp2_with fail
      refine (accept1 HPr.out [44] (by decide)).mono ?_
      rintro r w2 ⟨rfl, hp2, hk2⟩
      rw [HT.out] at hp2
      have HP2 : Hid (PS b c cap len s 0 (σ'.step s) w2) := hp2
      have HK2 : Hid (Kept b w w2) := HKr.out.trans hk2
      clear hp2 hk2
      go_wp2_with fail
      refine (row_any IA IL hn (by omega) HP2).mono ?_
      rintro r w3 ⟨rfl, hp3, hk3⟩
      have HP3 : Hid (PS b c cap len s 0 (Sp.rowT s n (σ'.step s)) w3) := hp3
      have HK3 : Hid (Kept b w w3) := HK2.out.trans hk3
      clear hp3 hk3
      go_wp2_with fail
      go_roundg m
      case measure => omega
      case rel => exact ⟨by omega, _, by omega, by omega, HV.out, HP3.out, HK3.out⟩

theorem chgL_eq (s : Sp.Bs) (n m : Nat) (σ : Sp.St) : Sp.chgL s n (m + 1) σ = if (Sp.chgT s n σ).is s [44] then Sp.chgL s n m ((Sp.chgT s n σ).step s) else Sp.chgT s n σ := by rw [Sp.chgL]

set_option maxHeartbeats 1000000 in
theorem listA_any {b c cap len : Nat} {s : Sp.Bs} {n : Nat} {σ : Sp.St} {w : World} (IA : Hid (All b c cap len s n)) (IL : Hid (SdL b c cap len s n .list 100)) (hn : n ≤ 900000) (hm : 32 * Sp.rem s σ + 20 ≤ n) (HP : Hid (PS b c cap len s 0 σ w)) :
    Calls Tryz.prog 95 #[.pointer (some ⟨b, 0, none⟩), .func (.func 101) #[.pointer (some ⟨b, 0, none⟩)] #[]] w (Post b c cap len s 0 (Sp.chgL s n n σ) w) := by
  obtain ⟨m0, hm0⟩ : ∃ m, n = m + 1 := ⟨n - 1, by omega⟩
  have hr := rem_chgT s n σ
  have HE : Hid (Sp.chgL s n n σ = if (Sp.chgT s n σ).is s [44] then Sp.chgL s n m0 ((Sp.chgT s n σ).step s) else Sp.chgT s n σ) := by
    show _ = _
    conv => lhs; arg 3; rw [hm0]
    exact chgL_eq s n m0 σ
  have hm1 : m0 + 1 ≤ n := by omega
  have hm2 : n ≤ m0 + 1 := by omega
  clear hm0
  go_enter Tryz.func95, Tryz.ntmps95
  go_wp2_with fail
  refine (assign_any IA IL hn hm HP).mono ?_
  rintro r w1 ⟨rfl, hp1, hk1⟩
  have HP1 : Hid (PS b c cap len s 0 (Sp.chgT s n σ) w1) := hp1
  have HK1 : Hid (Kept b w w1) := hk1
  clear hp1 hk1
  go_wp2_with fail
  go_loopg [8] m0 (fun m _ wr => m ≤ m0 ∧ ∃ σ', 32 * Sp.rem s σ' ≤ m + 1 ∧ 32 * Sp.rem s σ' + 20 ≤ n ∧ Hid (Sp.chgL s n n σ = if σ'.is s [44] then Sp.chgL s n m (σ'.step s) else σ') ∧ Hid (PS b c cap len s 0 σ' wr) ∧ Hid (Kept b w wr))
  case atStart => exact ⟨Nat.le_refl _, _, by omega, by omega, HE.out, HP1.out, HK1.out⟩
  case round =>
    obtain ⟨hmn, σ', hms, hmn2, HR, HPr, HKr⟩ := hrel
    cases hs : σ'.is s [44]
    · have HV : Hid (Sp.chgL s n n σ = σ') := by show _ = _; rw [HR.out, hs]; rfl
      have HT : Hid (σ'.take s [44] = σ') := by show _ = _; rw [Sp.St.take, hs]; rfl
      clear HR
      go_wp2_with fail
      refine (accept1 HPr.out [44] (by decide)).mono ?_
      rintro r w2 ⟨rfl, hp2, hk2⟩
      rw [HT.out] at hp2
      have HP2 : Hid (PS b c cap len s 0 (σ') w2) := hp2
      have HK2 : Hid (Kept b w w2) := HKr.out.trans hk2
      clear hp2 hk2
      go_wp2_with fail
      go_end0
      exact ⟨rfl, by rw [HV.out]; exact HP2.out, HK2.out⟩
    · have h1 := Sp.rem_step_lt hs
      obtain ⟨m, rfl⟩ : ∃ m, gk = m + 1 := ⟨gk - 1, by omega⟩
      have h2 := rem_chgT s n (σ'.step s)
      have HV : Hid (Sp.chgL s n n σ = if (Sp.chgT s n (σ'.step s)).is s [44] then Sp.chgL s n m ((Sp.chgT s n (σ'.step s)).step s) else Sp.chgT s n (σ'.step s)) := by show _ = _; rw [HR.out, hs, if_pos rfl, chgL_eq]
      have HT : Hid (σ'.take s [44] = σ'.step s) := by show _ = _; rw [Sp.St.take, hs]; rfl
      clear HR
      go_wp2_with fail
      refine (accept1 HPr.out [44] (by decide)).mono ?_
      rintro r w2 ⟨rfl, hp2, hk2⟩
      rw [HT.out] at hp2
      have HP2 : Hid (PS b c cap len s 0 (σ'.step s) w2) := hp2
      have HK2 : Hid (Kept b w w2) := HKr.out.trans hk2
      clear hp2 hk2
      go_wp2_with fail
      refine (assign_any IA IL hn (by omega) HP2).mono ?_
      rintro r w3 ⟨rfl, hp3, hk3⟩
      have HP3 : Hid (PS b c cap len s 0 (Sp.chgT s n (σ'.step s)) w3) := hp3
      have HK3 : Hid (Kept b w w3) := HK2.out.trans hk3
      clear hp3 hk3
      go_wp2_with fail
      go_roundg m
      case measure => omega
      case rel => exact ⟨by omega, _, by omega, by omega, HV.out, HP3.out, HK3.out⟩

set_option maxHeartbeats 2000000 in
theorem insert_values {b c cap len : Nat} {s : Sp.Bs} {n : Nat} {σ : Sp.St} {w : World} (IA : Hid (All b c cap len s n)) (IL : Hid (SdL b c cap len s n .list 100)) (hn : n ≤ 900000) (hm : 32 * Sp.rem s σ + 20 ≤ n) (hs : ((σ.must s [105, 110, 116, 111]).nameT s).is s [118, 97, 108, 117, 101, 115] = true) (HP : Hid (PS b c cap len s 0 σ w)) :
    Calls Tryz.prog 61 #[.pointer (some ⟨b, 0, none⟩)] w (Post b c cap len s 0 (Sp.rowL s n n (((σ.must s [105, 110, 116, 111]).nameT s).step s)) w) := by
  have r1 := Sp.rem_must s [105, 110, 116, 111] σ
  have r2 := Sp.rem_nameT s (σ.must s [105, 110, 116, 111])
  have r3 := Sp.rem_step_lt hs
  have hmf : ∀ (fn : Fn) (first cap : Array Value) (w : World), (Instr.makeFunc fn first cap).run Tryz.prog w = .ok (.func fn first cap) w := fun _ _ _ _ => rfl
  go_enter Tryz.func61, Tryz.ntmps61
  go_wp2_with fail
  refine (expect_any HP.out [105, 110, 116, 111] (by decide)).mono ?_
  rintro r w1 ⟨rfl, hp1, hk1⟩
  have HP1 : Hid (PS b c cap len s 0 (σ.must s [105, 110, 116, 111]) w1) := hp1
  have HK1 : Hid (Kept b w w1) := hk1
  clear hp1 hk1
  go_wp2_with fail
  refine (name_any HP1.out).mono ?_
  rintro r w2 ⟨rfl, hp2, hk2⟩
  have HP2 : Hid (PS b c cap len s 0 (((σ.must s [105, 110, 116, 111]).nameT s)) w2) := hp2
  have HK2 : Hid (Kept b w w2) := HK1.out.trans hk2
  clear hp2 hk2
  go_wp2_with fail
  refine (accept1 HP2.out [118, 97, 108, 117, 101, 115] (by decide)).mono ?_
  rintro r w3 ⟨rfl, hp3, hk3⟩
  rw [take_yes hs] at hp3
  have HP3 : Hid (PS b c cap len s 0 (((σ.must s [105, 110, 116, 111]).nameT s).step s) w3) := hp3
  have HK3 : Hid (Kept b w w3) := HK2.out.trans hk3
  clear hp3 hk3
  go_wp2_with fail
  refine (listR_any IA IL hn (by omega) HP3).mono ?_
  rintro r w4 ⟨rfl, hp4, hk4⟩
  have HP4 : Hid (PS b c cap len s 0 (Sp.rowL s n n (((σ.must s [105, 110, 116, 111]).nameT s).step s)) w4) := hp4
  have HK4 : Hid (Kept b w w4) := HK3.out.trans hk4
  clear hp4 hk4
  go_wp2_with fail
  exact bodyPost_ret (v := .tuple #[]) (by simp [results, Tryz.results61, go_sem]) rfl ⟨rfl, HP4.out, HK4.out⟩

set_option maxHeartbeats 2000000 in
theorem insert_query {b c cap len : Nat} {s : Sp.Bs} {n : Nat} {σ : Sp.St} {w : World} (IA : Hid (All b c cap len s n)) (_IL : Hid (SdL b c cap len s n .list 100)) (hn : n ≤ 900000) (hm : 32 * Sp.rem s σ + 20 ≤ n) (hs : ((σ.must s [105, 110, 116, 111]).nameT s).is s [118, 97, 108, 117, 101, 115] = false) (HP : Hid (PS b c cap len s 0 σ w)) :
    Calls Tryz.prog 61 #[.pointer (some ⟨b, 0, none⟩)] w (Post b c cap len s 0 (Sp.run s n .query 0 ((σ.must s [105, 110, 116, 111]).nameT s)) w) := by
  have r1 := Sp.rem_must s [105, 110, 116, 111] σ
  have r2 := Sp.rem_nameT s (σ.must s [105, 110, 116, 111])
  have hmf : ∀ (fn : Fn) (first cap : Array Value) (w : World), (Instr.makeFunc fn first cap).run Tryz.prog w = .ok (.func fn first cap) w := fun _ _ _ _ => rfl
  go_enter Tryz.func61, Tryz.ntmps61
  go_wp2_with fail
  refine (expect_any HP.out [105, 110, 116, 111] (by decide)).mono ?_
  rintro r w1 ⟨rfl, hp1, hk1⟩
  have HP1 : Hid (PS b c cap len s 0 (σ.must s [105, 110, 116, 111]) w1) := hp1
  have HK1 : Hid (Kept b w w1) := hk1
  clear hp1 hk1
  go_wp2_with fail
  refine (name_any HP1.out).mono ?_
  rintro r w2 ⟨rfl, hp2, hk2⟩
  have HP2 : Hid (PS b c cap len s 0 (((σ.must s [105, 110, 116, 111]).nameT s)) w2) := hp2
  have HK2 : Hid (Kept b w w2) := HK1.out.trans hk2
  clear hp2 hk2
  go_wp2_with fail
  refine (accept1 HP2.out [118, 97, 108, 117, 101, 115] (by decide)).mono ?_
  rintro r w3 ⟨rfl, hp3, hk3⟩
  rw [take_no hs] at hp3
  have HP3 : Hid (PS b c cap len s 0 (((σ.must s [105, 110, 116, 111]).nameT s)) w3) := hp3
  have HK3 : Hid (Kept b w w3) := HK2.out.trans hk3
  clear hp3 hk3
  go_wp2_with fail
  refine (IA.out.query 0 _ _ (by omega) (by show 32 * Sp.rem s _ + 15 ≤ n; omega) HP3.out).mono ?_
  rintro r w4 ⟨rfl, hp4, hk4⟩
  have HP4 : Hid (PS b c cap len s 0 (Sp.run s n .query 0 ((σ.must s [105, 110, 116, 111]).nameT s)) w4) := hp4
  have HK4 : Hid (Kept b w w4) := HK3.out.trans hk4
  clear hp4 hk4
  go_wp2_with fail
  go_end0
  exact ⟨rfl, HP4.out, HK4.out⟩

theorem rem_chgL (s : Sp.Bs) (n : Nat) : ∀ (m : Nat) (σ : Sp.St), Sp.rem s (Sp.chgL s n m σ) ≤ Sp.rem s σ
  | 0, _ => Nat.le_refl _
  | m + 1, σ => by
    rw [chgL_eq]
    have h1 := rem_chgT s n σ
    split
    · exact Nat.le_trans (rem_chgL s n m _) (Nat.le_trans (Sp.rem_step_le _ _) h1)
    · exact h1

set_option maxHeartbeats 2000000 in
theorem update_any {b c cap len : Nat} {s : Sp.Bs} {n : Nat} {σ : Sp.St} {w : World} (IA : Hid (All b c cap len s n)) (IL : Hid (SdL b c cap len s n .list 100)) (hn : n ≤ 900000) (hm : 32 * Sp.rem s σ + 20 ≤ n) (HP : Hid (PS b c cap len s 0 σ w)) :
    Calls Tryz.prog 63 #[.pointer (some ⟨b, 0, none⟩)] w (Post b c cap len s 0 (Sp.run s n .where_ 0 (Sp.chgL s n n ((σ.nameT s).must s [115, 101, 116]))) w) := by
  have r1 := Sp.rem_nameT s σ
  have r2 := Sp.rem_must s [115, 101, 116] (σ.nameT s)
  have r3 := rem_chgL s n n ((σ.nameT s).must s [115, 101, 116])
  have hmf : ∀ (fn : Fn) (first cap : Array Value) (w : World), (Instr.makeFunc fn first cap).run Tryz.prog w = .ok (.func fn first cap) w := fun _ _ _ _ => rfl
  go_enter Tryz.func63, Tryz.ntmps63
  go_wp2_with fail
  refine (name_any HP.out).mono ?_
  rintro r w1 ⟨rfl, hp1, hk1⟩
  have HP1 : Hid (PS b c cap len s 0 (σ.nameT s) w1) := hp1
  have HK1 : Hid (Kept b w w1) := hk1
  clear hp1 hk1
  go_wp2_with fail
  refine (expect_any HP1.out [115, 101, 116] (by decide)).mono ?_
  rintro r w2 ⟨rfl, hp2, hk2⟩
  have HP2 : Hid (PS b c cap len s 0 (((σ.nameT s).must s [115, 101, 116])) w2) := hp2
  have HK2 : Hid (Kept b w w2) := HK1.out.trans hk2
  clear hp2 hk2
  go_wp2_with fail
  refine (listA_any IA IL hn (by omega) HP2).mono ?_
  rintro r w3 ⟨rfl, hp3, hk3⟩
  have HP3 : Hid (PS b c cap len s 0 (Sp.chgL s n n ((σ.nameT s).must s [115, 101, 116])) w3) := hp3
  have HK3 : Hid (Kept b w w3) := HK2.out.trans hk3
  clear hp3 hk3
  go_wp2_with fail
  refine (IA.out.where_ 0 _ _ (by omega) (by show 32 * Sp.rem s _ + 10 ≤ n; omega) HP3.out).mono ?_
  rintro r w4 ⟨rfl, hp4, hk4⟩
  have HP4 : Hid (PS b c cap len s 0 (Sp.run s n .where_ 0 (Sp.chgL s n n ((σ.nameT s).must s [115, 101, 116]))) w4) := hp4
  have HK4 : Hid (Kept b w w4) := HK3.out.trans hk4
  clear hp4 hk4
  go_wp2_with fail
  go_end0
  exact ⟨rfl, HP4.out, HK4.out⟩

theorem expect_at {b c cap len : Nat} {s : Sp.Bs} {d : Nat} {σ : Sp.St} {w : World} (h : PS b c cap len s d σ w) (z : Sp.Bs) (hf : z ∈ fixd) (q : Nat) (hq : q = w.heap.size) :
    Calls Tryz.prog 59 #[.pointer (some ⟨b, 0, none⟩), .slice (some ⟨q, 0, none⟩) 1 1] (w.alloc (.cells #[.string ⟨z.toArray⟩] 9)) (Post b c cap len s d (σ.must s z) w) := by
  subst hq; exact expect_any h z hf

theorem frozen_new (w : World) (v : Value) (t : TypeId) : (w.alloc (.cells #[v] t)).frozen? ⟨w.heap.size, 0, none⟩ = false := by go_simp

set_option maxHeartbeats 2000000 in
theorem create_any {b c cap len : Nat} {s : Sp.Bs} {n : Nat} {σ : Sp.St} {w : World} (hm : 32 * Sp.rem s σ + 2 ≤ n) (h : PS b c cap len s 0 σ w) :
    Calls Tryz.prog 58 #[.pointer (some ⟨b, 0, none⟩)] w (Post b c cap len s 0 ((Sp.colL s n 0 (((σ.must s [116, 97, 98, 108, 101]).nameT s).must s [40])).must s [41]) w) := by
  have r1 := Sp.rem_must s [116, 97, 98, 108, 101] σ
  have r2 := Sp.rem_nameT s (σ.must s [116, 97, 98, 108, 101])
  have r3 := Sp.rem_must s [40] ((σ.must s [116, 97, 98, 108, 101]).nameT s)
  have HQ : Hid (∀ w', Kept b (w.alloc (.cells #[.pointer (some ⟨b, 0, none⟩)] 130)) w' → w'.cell? ⟨w.heap.size, 0, none⟩ = some (.pointer (some ⟨b, 0, none⟩))) := fun w' k => (k.cell (p := ⟨w.heap.size, 0, none⟩) (by simp) (by have := h.lb; simp; omega)).trans (by rw [World.cell?_alloc_new]; rfl)
  have HP : Hid (PS b c cap len s 0 σ (w.alloc (.cells #[.pointer (some ⟨b, 0, none⟩)] 130))) := h.alloc _
  have lb := h.lb
  have lc := h.lc
  have hq0 := HQ.out _ (Kept.refl b _)
  clear h
  have hmf : ∀ (fn : Fn) (first cap : Array Value) (w : World), (Instr.makeFunc fn first cap).run Tryz.prog w = .ok (.func fn first cap) w := fun _ _ _ _ => rfl
  go_enter Tryz.func58, Tryz.ntmps58
  go_wp2_with fail
  refine (expect_at HP.out [116, 97, 98, 108, 101] (by decide) _ (by simp)).mono ?_
  rintro r w1 ⟨rfl, hp1, hk1⟩
  have HP1 : Hid (PS b c cap len s 0 (σ.must s [116, 97, 98, 108, 101]) w1) := hp1
  have HK1 : Hid (Kept b (w.alloc (.cells #[.pointer (some ⟨b, 0, none⟩)] 130)) w1) := hk1
  have hq1 := HQ.out _ hk1
  clear hp1 hk1 hq0
  go_wp2_with fail
  refine (name_any HP1.out).mono ?_
  rintro r w2 ⟨rfl, hp2, hk2⟩
  have HP2 : Hid (PS b c cap len s 0 ((σ.must s [116, 97, 98, 108, 101]).nameT s) w2) := hp2
  have HK2 : Hid (Kept b (w.alloc (.cells #[.pointer (some ⟨b, 0, none⟩)] 130)) w2) := HK1.out.trans hk2
  have hq2 := HQ.out _ HK2.out
  clear hp2 hk2 hq1
  go_wp2_with fail
  refine (expect_any HP2.out [40] (by decide)).mono ?_
  rintro r w3 ⟨rfl, hp3, hk3⟩
  have HP3 : Hid (PS b c cap len s 0 (((σ.must s [116, 97, 98, 108, 101]).nameT s).must s [40]) w3) := hp3
  have HK3 : Hid (Kept b (w.alloc (.cells #[.pointer (some ⟨b, 0, none⟩)] 130)) w3) := HK2.out.trans hk3
  have hq3 := HQ.out _ HK3.out
  have hsz : w.heap.size + 1 ≤ w3.heap.size := by have := HK3.out.size; simpa using this
  clear hp3 hk3 hq2
  have hX : Bx b c w3.heap.size w.heap.size 0 (w3.alloc (.cells #[.int .i64 0] 3)) :=
    ⟨by simp, by simp; omega, by omega, by omega, by omega, by omega, by rw [World.cell?_alloc_new]; rfl, frozen_new _ _ _, (World.cell?_alloc_lt _ _ _ (by simp; omega)).trans hq3⟩
  have HX : Hid (Bx b c w3.heap.size w.heap.size 0 (w3.alloc (.cells #[.int .i64 0] 3))) := hX
  have hq3' := hX.hp
  clear hX
  go_wp2_with fail
  refine (listC_any (n := n) (by omega) (HP3.out.alloc _) HX.out).mono ?_
  rintro r w4 ⟨rfl, hp4, hk4, k, hx4⟩
  have HP4 : Hid (PS b c cap len s 0 (Sp.colL s n 0 (((σ.must s [116, 97, 98, 108, 101]).nameT s).must s [40])) w4) := hp4
  have hk4' : Kept b w3 w4 := ((Kept2.of ((Kept.refl b w3).alloc _)).trans hk4).fresh (Nat.le_refl _)
  have HK4 : Hid (Kept b (w.alloc (.cells #[.pointer (some ⟨b, 0, none⟩)] 130)) w4) := HK3.out.trans hk4'
  have hq4 := HQ.out _ HK4.out
  clear hp4 hk4 hx4 hk4' hq3 hq3'
  go_wp2_with fail
  refine (expect_any HP4.out [41] (by decide)).mono ?_
  rintro r w5 ⟨rfl, hp5, hk5⟩
  have HP5 : Hid (PS b c cap len s 0 ((Sp.colL s n 0 (((σ.must s [116, 97, 98, 108, 101]).nameT s).must s [40])).must s [41]) w5) := hp5
  have HK5 : Hid (Kept b w w5) := ((Kept.refl b w).alloc _).trans (HK4.out.trans hk5)
  clear hp5 hk5 hq4
  go_wp2_with fail
  go_end0
  exact ⟨rfl, HP5.out, HK5.out⟩

end Go.Proofs.YtpgeiieapkbjhaaGreatDoor
