import Derived.Test.YtpgeiieapkbjhaaGreatDoorP5
namespace Go.Proofs.YtpgeiieapkbjhaaGreatDoor
open Go.RowKit

theorem two_is (s : Sp.Bs) (y z : Sp.Bs) (σ : Sp.St) : seesOne s [y, z] σ = (σ.is s y || σ.is s z) := by simp [seesOne]

/-- Two words. -/
theorem accept2 {b c cap len : Nat} {s : Sp.Bs} {d : Nat} {σ : Sp.St} {w : World} (h : PS b c cap len s d σ w) (y z : Sp.Bs) (hy : y ∈ fixd) (hf : z ∈ fixd) :
    Calls Tryz.prog 57 #[.pointer (some ⟨b, 0, none⟩), .slice (some ⟨w.heap.size, 0, none⟩) 2 2] (w.alloc (.cells #[.string ⟨y.toArray⟩, .string ⟨z.toArray⟩] 9)) fun r w' => r = .returned (.bool (seesOne s [y, z] σ)) ∧ PS b c cap len s d (stepIf (seesOne s [y, z] σ) s σ) w' ∧ Kept b w w' :=
  accept_lit h [y, z] (by simp [hy, hf]) (by simp) 2 rfl #[.string ⟨y.toArray⟩, .string ⟨z.toArray⟩] rfl

theorem rem_two {s : Sp.Bs} {y z : Sp.Bs} {σ : Sp.St} (h : seesOne s [y, z] σ = true) : Sp.rem s (σ.step s) < Sp.rem s σ := by
  rw [two_is, Bool.or_eq_true] at h
  rcases h with h | h <;> exact Sp.rem_step_lt h

set_option maxHeartbeats 1000000 in
theorem both_step {b c cap len : Nat} {s : Sp.Bs} {n : Nat} (IH : Hid (∀ m, m ≤ n → All b c cap len s m)) : Sd b c cap len s (n + 1) .both 116 := by
  intro d σ w hd hm hp
  have hr := Sp.rem_run s n .no d σ
  have hm' : 32 * Sp.rem s σ + 8 ≤ n + 1 := hm
  clear hm
  have HP : Hid (PS b c cap len s d σ w) := hp
  clear hp
  go_enter Tryz.func116, Tryz.ntmps116
  go_wp2_with fail
  refine ((IH.out n (Nat.le_refl _)).no d σ _ (by omega) (by show 32 * Sp.rem s σ + 7 ≤ n; omega) HP.out).mono ?_
  rintro r w1 ⟨rfl, hp1, hk1⟩
  have HP1 : Hid (PS b c cap len s d (Sp.run s n .no d σ) w1) := hp1
  have HK1 : Hid (Kept b w w1) := hk1
  clear hp1 hk1
  go_wp2_with fail
  go_loopg [6] n (fun m _ wr => m ≤ n ∧ ∃ σ', 32 * Sp.rem s σ' + 1 ≤ m ∧ Hid (Sp.run s (n + 1) .both d σ = Sp.run s m .andL d σ') ∧ Hid (PS b c cap len s d σ' wr) ∧ Hid (Kept b w wr))
  case atStart => exact ⟨Nat.le_refl _, _, by omega, rfl, HP1.out, HK1.out⟩
  case round =>
    obtain ⟨hmn, σ', hms, HR, HPr, HKr⟩ := hrel
    obtain ⟨m, rfl⟩ : ∃ m, gk = m + 1 := ⟨gk - 1, by omega⟩
    cases hs : σ'.is s [97, 110, 100]
    · have HV : Hid (Sp.run s (m + 1) .andL d σ' = σ') := by show _ = _; rw [Sp.run, hs]; rfl
      have HT : Hid (σ'.take s [97, 110, 100] = σ') := by show _ = _; rw [Sp.St.take, hs]; rfl
      go_wp2_with fail
      refine (accept1 HPr.out [97, 110, 100] (by decide)).mono ?_
      rintro r w2 ⟨rfl, hp2, hk2⟩
      rw [HT.out] at hp2
      have HP2 : Hid (PS b c cap len s d σ' w2) := hp2
      have HK2 : Hid (Kept b wr w2) := hk2
      clear hp2 hk2
      go_wp2_with fail
      go_end0
      exact ⟨rfl, by rw [HR.out, HV.out]; exact HP2.out, HKr.out.trans HK2.out⟩
    · have HV : Hid (Sp.run s (m + 1) .andL d σ' = Sp.run s m .andL d (Sp.run s m .no d (σ'.step s))) := by show _ = _; rw [Sp.run, hs]; rfl
      have HT : Hid (σ'.take s [97, 110, 100] = σ'.step s) := by show _ = _; rw [Sp.St.take, hs]; rfl
      have h1 := Sp.rem_step_lt hs
      have h2 := Sp.rem_run s m .no d (σ'.step s)
      go_wp2_with fail
      refine (accept1 HPr.out [97, 110, 100] (by decide)).mono ?_
      rintro r w2 ⟨rfl, hp2, hk2⟩
      rw [HT.out] at hp2
      have HP2 : Hid (PS b c cap len s d (σ'.step s) w2) := hp2
      have HK2 : Hid (Kept b wr w2) := hk2
      clear hp2 hk2
      go_wp2_with fail
      refine ((IH.out m (by omega)).no d _ _ (by omega) (by show 32 * Sp.rem s _ + 7 ≤ m; omega) HP2.out).mono ?_
      rintro r w3 ⟨rfl, hp3, hk3⟩
      have HP3 : Hid (PS b c cap len s d (Sp.run s m .no d (σ'.step s)) w3) := hp3
      have HK3 : Hid (Kept b wr w3) := HK2.out.trans hk3
      clear hp3 hk3
      go_wp2_with fail
      go_roundg m
      case measure => omega
      case rel => exact ⟨by omega, _, by omega, by show _ = _; rw [HR.out, HV.out], HP3.out, HKr.out.trans HK3.out⟩

set_option maxHeartbeats 1000000 in
theorem sum_step {b c cap len : Nat} {s : Sp.Bs} {n : Nat} (IH : Hid (∀ m, m ≤ n → All b c cap len s m)) : Sd b c cap len s (n + 1) .sum 147 := by
  intro d σ w hd hm hp
  have hr := Sp.rem_run s n .product d σ
  have hm' : 32 * Sp.rem s σ + 5 ≤ n + 1 := hm
  clear hm
  have HP : Hid (PS b c cap len s d σ w) := hp
  clear hp
  go_enter Tryz.func147, Tryz.ntmps147
  go_wp2_with fail
  refine ((IH.out n (Nat.le_refl _)).product d σ _ (by omega) (by show 32 * Sp.rem s σ + 4 ≤ n; omega) HP.out).mono ?_
  rintro r w1 ⟨rfl, hp1, hk1⟩
  have HP1 : Hid (PS b c cap len s d (Sp.run s n .product d σ) w1) := hp1
  have HK1 : Hid (Kept b w w1) := hk1
  clear hp1 hk1
  go_wp2_with fail
  go_loopg [6] n (fun m _ wr => m ≤ n ∧ ∃ σ', 32 * Sp.rem s σ' + 1 ≤ m ∧ Hid (Sp.run s (n + 1) .sum d σ = Sp.run s m .sumL d σ') ∧ Hid (PS b c cap len s d σ' wr) ∧ Hid (Kept b w wr))
  case atStart => exact ⟨Nat.le_refl _, _, by omega, rfl, HP1.out, HK1.out⟩
  case round =>
    obtain ⟨hmn, σ', hms, HR, HPr, HKr⟩ := hrel
    obtain ⟨m, rfl⟩ : ∃ m, gk = m + 1 := ⟨gk - 1, by omega⟩
    cases hs : seesOne s [[43], [45]] σ'
    · have HV : Hid (Sp.run s (m + 1) .sumL d σ' = σ') := by show _ = _; rw [Sp.run, ← two_is, hs]; rfl
      have HT : Hid (stepIf (seesOne s [[43], [45]] σ') s σ' = σ') := by show _ = _; rw [stepIf, hs]; rfl
      go_wp2_with fail
      refine (accept2 HPr.out [43] [45] (by decide) (by decide)).mono ?_
      rintro r w2 ⟨rfl, hp2, hk2⟩
      rw [HT.out] at hp2
      have HP2 : Hid (PS b c cap len s d σ' w2) := hp2
      have HK2 : Hid (Kept b wr w2) := hk2
      clear hp2 hk2
      go_wp2_with fail
      go_end0
      exact ⟨rfl, by rw [HR.out, HV.out]; exact HP2.out, HKr.out.trans HK2.out⟩
    · have HV : Hid (Sp.run s (m + 1) .sumL d σ' = Sp.run s m .sumL d (Sp.run s m .product d (σ'.step s))) := by show _ = _; rw [Sp.run, ← two_is, hs]; rfl
      have HT : Hid (stepIf (seesOne s [[43], [45]] σ') s σ' = σ'.step s) := by show _ = _; rw [stepIf, hs]; rfl
      have h1 := rem_two hs
      have h2 := Sp.rem_run s m .product d (σ'.step s)
      go_wp2_with fail
      refine (accept2 HPr.out [43] [45] (by decide) (by decide)).mono ?_
      rintro r w2 ⟨rfl, hp2, hk2⟩
      rw [HT.out] at hp2
      have HP2 : Hid (PS b c cap len s d (σ'.step s) w2) := hp2
      have HK2 : Hid (Kept b wr w2) := hk2
      clear hp2 hk2
      go_wp2_with fail
      refine ((IH.out m (by omega)).product d _ _ (by omega) (by show 32 * Sp.rem s _ + 4 ≤ m; omega) HP2.out).mono ?_
      rintro r w3 ⟨rfl, hp3, hk3⟩
      have HP3 : Hid (PS b c cap len s d (Sp.run s m .product d (σ'.step s)) w3) := hp3
      have HK3 : Hid (Kept b wr w3) := HK2.out.trans hk3
      clear hp3 hk3
      go_wp2_with fail
      go_roundg m
      case measure => omega
      case rel => exact ⟨by omega, _, by omega, by show _ = _; rw [HR.out, HV.out], HP3.out, HKr.out.trans HK3.out⟩

set_option maxHeartbeats 1000000 in
theorem product_step {b c cap len : Nat} {s : Sp.Bs} {n : Nat} (IH : Hid (∀ m, m ≤ n → All b c cap len s m)) : Sd b c cap len s (n + 1) .product 150 := by
  intro d σ w hd hm hp
  have hr := Sp.rem_run s n .unary d σ
  have hm' : 32 * Sp.rem s σ + 4 ≤ n + 1 := hm
  clear hm
  have HP : Hid (PS b c cap len s d σ w) := hp
  clear hp
  go_enter Tryz.func150, Tryz.ntmps150
  go_wp2_with fail
  refine ((IH.out n (Nat.le_refl _)).unary d σ _ (by omega) (by show 32 * Sp.rem s σ + 3 ≤ n; omega) HP.out).mono ?_
  rintro r w1 ⟨rfl, hp1, hk1⟩
  have HP1 : Hid (PS b c cap len s d (Sp.run s n .unary d σ) w1) := hp1
  have HK1 : Hid (Kept b w w1) := hk1
  clear hp1 hk1
  go_wp2_with fail
  go_loopg [6] n (fun m _ wr => m ≤ n ∧ ∃ σ', 32 * Sp.rem s σ' + 1 ≤ m ∧ Hid (Sp.run s (n + 1) .product d σ = Sp.run s m .prodL d σ') ∧ Hid (PS b c cap len s d σ' wr) ∧ Hid (Kept b w wr))
  case atStart => exact ⟨Nat.le_refl _, _, by omega, rfl, HP1.out, HK1.out⟩
  case round =>
    obtain ⟨hmn, σ', hms, HR, HPr, HKr⟩ := hrel
    obtain ⟨m, rfl⟩ : ∃ m, gk = m + 1 := ⟨gk - 1, by omega⟩
    cases hs : seesOne s [[42], [47]] σ'
    · have HV : Hid (Sp.run s (m + 1) .prodL d σ' = σ') := by show _ = _; rw [Sp.run, ← two_is, hs]; rfl
      have HT : Hid (stepIf (seesOne s [[42], [47]] σ') s σ' = σ') := by show _ = _; rw [stepIf, hs]; rfl
      go_wp2_with fail
      refine (accept2 HPr.out [42] [47] (by decide) (by decide)).mono ?_
      rintro r w2 ⟨rfl, hp2, hk2⟩
      rw [HT.out] at hp2
      have HP2 : Hid (PS b c cap len s d σ' w2) := hp2
      have HK2 : Hid (Kept b wr w2) := hk2
      clear hp2 hk2
      go_wp2_with fail
      go_end0
      exact ⟨rfl, by rw [HR.out, HV.out]; exact HP2.out, HKr.out.trans HK2.out⟩
    · have HV : Hid (Sp.run s (m + 1) .prodL d σ' = Sp.run s m .prodL d (Sp.run s m .unary d (σ'.step s))) := by show _ = _; rw [Sp.run, ← two_is, hs]; rfl
      have HT : Hid (stepIf (seesOne s [[42], [47]] σ') s σ' = σ'.step s) := by show _ = _; rw [stepIf, hs]; rfl
      have h1 := rem_two hs
      have h2 := Sp.rem_run s m .unary d (σ'.step s)
      go_wp2_with fail
      refine (accept2 HPr.out [42] [47] (by decide) (by decide)).mono ?_
      rintro r w2 ⟨rfl, hp2, hk2⟩
      rw [HT.out] at hp2
      have HP2 : Hid (PS b c cap len s d (σ'.step s) w2) := hp2
      have HK2 : Hid (Kept b wr w2) := hk2
      clear hp2 hk2
      go_wp2_with fail
      refine ((IH.out m (by omega)).unary d _ _ (by omega) (by show 32 * Sp.rem s _ + 3 ≤ m; omega) HP2.out).mono ?_
      rintro r w3 ⟨rfl, hp3, hk3⟩
      have HP3 : Hid (PS b c cap len s d (Sp.run s m .unary d (σ'.step s)) w3) := hp3
      have HK3 : Hid (Kept b wr w3) := HK2.out.trans hk3
      clear hp3 hk3
      go_wp2_with fail
      go_roundg m
      case measure => omega
      case rel => exact ⟨by omega, _, by omega, by show _ = _; rw [HR.out, HV.out], HP3.out, HKr.out.trans HK3.out⟩

set_option maxHeartbeats 1000000 in
theorem query_step {b c cap len : Nat} {s : Sp.Bs} {n : Nat} (IH : Hid (∀ m, m ≤ n → All b c cap len s m)) : Sd b c cap len s (n + 1) .query 64 := by
  intro d σ w hd hm hp
  have hr := Sp.rem_run s n .term d σ
  have hm' : 32 * Sp.rem s σ + 15 ≤ n + 1 := hm
  clear hm
  have HP : Hid (PS b c cap len s d σ w) := hp
  clear hp
  go_enter Tryz.func64, Tryz.ntmps64
  go_wp2_with fail
  refine ((IH.out n (Nat.le_refl _)).term d σ _ (by omega) (by show 32 * Sp.rem s σ + 14 ≤ n; omega) HP.out).mono ?_
  rintro r w1 ⟨rfl, hp1, hk1⟩
  have HP1 : Hid (PS b c cap len s d (Sp.run s n .term d σ) w1) := hp1
  have HK1 : Hid (Kept b w w1) := hk1
  clear hp1 hk1
  go_wp2_with fail
  go_loopg [6] n (fun m _ wr => m ≤ n ∧ ∃ σ', 32 * Sp.rem s σ' + 1 ≤ m ∧ Hid (Sp.run s (n + 1) .query d σ = Sp.run s m .queryL d σ') ∧ Hid (PS b c cap len s d σ' wr) ∧ Hid (Kept b w wr))
  case atStart => exact ⟨Nat.le_refl _, _, by omega, rfl, HP1.out, HK1.out⟩
  case round =>
    obtain ⟨hmn, σ', hms, HR, HPr, HKr⟩ := hrel
    obtain ⟨m, rfl⟩ : ∃ m, gk = m + 1 := ⟨gk - 1, by omega⟩
    cases hs : seesOne s [[117, 110, 105, 111, 110], [101, 120, 99, 101, 112, 116]] σ'
    · have HV : Hid (Sp.run s (m + 1) .queryL d σ' = σ') := by show _ = _; rw [Sp.run, ← two_is, hs]; rfl
      have HT : Hid (stepIf (seesOne s [[117, 110, 105, 111, 110], [101, 120, 99, 101, 112, 116]] σ') s σ' = σ') := by show _ = _; rw [stepIf, hs]; rfl
      go_wp2_with fail
      refine (accept2 HPr.out [117, 110, 105, 111, 110] [101, 120, 99, 101, 112, 116] (by decide) (by decide)).mono ?_
      rintro r w2 ⟨rfl, hp2, hk2⟩
      rw [HT.out] at hp2
      have HP2 : Hid (PS b c cap len s d σ' w2) := hp2
      have HK2 : Hid (Kept b wr w2) := hk2
      clear hp2 hk2
      go_wp2_with fail
      go_end0
      exact ⟨rfl, by rw [HR.out, HV.out]; exact HP2.out, HKr.out.trans HK2.out⟩
    · have HV : Hid (Sp.run s (m + 1) .queryL d σ' = Sp.run s m .queryL d (Sp.run s m .term d ((σ'.step s).take s [97, 108, 108]))) := by show _ = _; rw [Sp.run, ← two_is, hs]; rfl
      have HT : Hid (stepIf (seesOne s [[117, 110, 105, 111, 110], [101, 120, 99, 101, 112, 116]] σ') s σ' = σ'.step s) := by show _ = _; rw [stepIf, hs]; rfl
      have h1 := rem_two hs
      have h2 := Sp.rem_run s m .term d ((σ'.step s).take s [97, 108, 108])
      go_wp2_with fail
      refine (accept2 HPr.out [117, 110, 105, 111, 110] [101, 120, 99, 101, 112, 116] (by decide) (by decide)).mono ?_
      rintro r w2 ⟨rfl, hp2, hk2⟩
      rw [HT.out] at hp2
      have HP2 : Hid (PS b c cap len s d (σ'.step s) w2) := hp2
      have HK2 : Hid (Kept b wr w2) := hk2
      clear hp2 hk2
      go_wp2_with fail
      refine (accept1 HP2.out [97, 108, 108] (by decide)).mono ?_
      rintro r w4 ⟨rfl, hp4, hk4⟩
      have HP4 : Hid (PS b c cap len s d ((σ'.step s).take s [97, 108, 108]) w4) := hp4
      have HK4 : Hid (Kept b wr w4) := HK2.out.trans hk4
      clear hp4 hk4
      have h3 := Sp.rem_take s [97, 108, 108] (σ'.step s)
      go_wp2_with fail
      refine ((IH.out m (by omega)).term d _ _ (by omega) (by show 32 * Sp.rem s _ + 14 ≤ m; omega) HP4.out).mono ?_
      rintro r w3 ⟨rfl, hp3, hk3⟩
      have HP3 : Hid (PS b c cap len s d (Sp.run s m .term d ((σ'.step s).take s [97, 108, 108])) w3) := hp3
      have HK3 : Hid (Kept b wr w3) := HK4.out.trans hk3
      clear hp3 hk3
      go_wp2_with fail
      go_roundg m
      case measure => omega
      case rel => exact ⟨by omega, _, by omega, by show _ = _; rw [HR.out, HV.out], HP3.out, HKr.out.trans HK3.out⟩

set_option maxHeartbeats 1000000 in
theorem term_step {b c cap len : Nat} {s : Sp.Bs} {n : Nat} (IH : Hid (∀ m, m ≤ n → All b c cap len s m)) : Sd b c cap len s (n + 1) .term 102 := by
  intro d σ w hd hm hp
  have hr := Sp.rem_run s n .factor d σ
  have hm' : 32 * Sp.rem s σ + 14 ≤ n + 1 := hm
  clear hm
  have HP : Hid (PS b c cap len s d σ w) := hp
  clear hp
  go_enter Tryz.func102, Tryz.ntmps102
  go_wp2_with fail
  refine ((IH.out n (Nat.le_refl _)).factor d σ _ (by omega) (by show 32 * Sp.rem s σ + 12 ≤ n; omega) HP.out).mono ?_
  rintro r w1 ⟨rfl, hp1, hk1⟩
  have HP1 : Hid (PS b c cap len s d (Sp.run s n .factor d σ) w1) := hp1
  have HK1 : Hid (Kept b w w1) := hk1
  clear hp1 hk1
  go_wp2_with fail
  go_loopg [6] n (fun m _ wr => m ≤ n ∧ ∃ σ', 32 * Sp.rem s σ' + 1 ≤ m ∧ Hid (Sp.run s (n + 1) .term d σ = Sp.run s m .termL d σ') ∧ Hid (PS b c cap len s d σ' wr) ∧ Hid (Kept b w wr))
  case atStart => exact ⟨Nat.le_refl _, _, by omega, rfl, HP1.out, HK1.out⟩
  case round =>
    obtain ⟨hmn, σ', hms, HR, HPr, HKr⟩ := hrel
    obtain ⟨m, rfl⟩ : ∃ m, gk = m + 1 := ⟨gk - 1, by omega⟩
    cases hs : σ'.is s [105, 110, 116, 101, 114, 115, 101, 99, 116]
    · have HV : Hid (Sp.run s (m + 1) .termL d σ' = σ') := by show _ = _; rw [Sp.run, hs]; rfl
      have HT : Hid (σ'.take s [105, 110, 116, 101, 114, 115, 101, 99, 116] = σ') := by show _ = _; rw [Sp.St.take, hs]; rfl
      go_wp2_with fail
      refine (accept1 HPr.out [105, 110, 116, 101, 114, 115, 101, 99, 116] (by decide)).mono ?_
      rintro r w2 ⟨rfl, hp2, hk2⟩
      rw [HT.out] at hp2
      have HP2 : Hid (PS b c cap len s d σ' w2) := hp2
      have HK2 : Hid (Kept b wr w2) := hk2
      clear hp2 hk2
      go_wp2_with fail
      go_end0
      exact ⟨rfl, by rw [HR.out, HV.out]; exact HP2.out, HKr.out.trans HK2.out⟩
    · have HV : Hid (Sp.run s (m + 1) .termL d σ' = Sp.run s m .termL d (Sp.run s m .factor d ((σ'.step s).take s [97, 108, 108]))) := by show _ = _; rw [Sp.run, hs]; rfl
      have HT : Hid (σ'.take s [105, 110, 116, 101, 114, 115, 101, 99, 116] = σ'.step s) := by show _ = _; rw [Sp.St.take, hs]; rfl
      have h1 := Sp.rem_step_lt hs
      have h2 := Sp.rem_run s m .factor d ((σ'.step s).take s [97, 108, 108])
      go_wp2_with fail
      refine (accept1 HPr.out [105, 110, 116, 101, 114, 115, 101, 99, 116] (by decide)).mono ?_
      rintro r w2 ⟨rfl, hp2, hk2⟩
      rw [HT.out] at hp2
      have HP2 : Hid (PS b c cap len s d (σ'.step s) w2) := hp2
      have HK2 : Hid (Kept b wr w2) := hk2
      clear hp2 hk2
      go_wp2_with fail
      refine (accept1 HP2.out [97, 108, 108] (by decide)).mono ?_
      rintro r w4 ⟨rfl, hp4, hk4⟩
      have HP4 : Hid (PS b c cap len s d ((σ'.step s).take s [97, 108, 108]) w4) := hp4
      have HK4 : Hid (Kept b wr w4) := HK2.out.trans hk4
      clear hp4 hk4
      have h3 := Sp.rem_take s [97, 108, 108] (σ'.step s)
      go_wp2_with fail
      refine ((IH.out m (by omega)).factor d _ _ (by omega) (by show 32 * Sp.rem s _ + 12 ≤ m; omega) HP4.out).mono ?_
      rintro r w3 ⟨rfl, hp3, hk3⟩
      have HP3 : Hid (PS b c cap len s d (Sp.run s m .factor d ((σ'.step s).take s [97, 108, 108])) w3) := hp3
      have HK3 : Hid (Kept b wr w3) := HK4.out.trans hk3
      clear hp3 hk3
      go_wp2_with fail
      go_roundg m
      case measure => omega
      case rel => exact ⟨by omega, _, by omega, by show _ = _; rw [HR.out, HV.out], HP3.out, HKr.out.trans HK3.out⟩

end Go.Proofs.YtpgeiieapkbjhaaGreatDoor
