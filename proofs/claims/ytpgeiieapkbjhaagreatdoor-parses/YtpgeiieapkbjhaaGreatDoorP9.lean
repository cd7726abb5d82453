import Derived.Test.YtpgeiieapkbjhaaGreatDoorP7
import Derived.Test.YtpgeiieapkbjhaaGreatDoorP8
namespace Go.Proofs.YtpgeiieapkbjhaaGreatDoor
open Go.RowKit

/-- 'list' at an item. -/
def SdL (b c cap len : Nat) (s : Sp.Bs) (n : Nat) (nt : Sp.Nt) (f : FuncId) : Prop :=
  ∀ (d : Nat) (σ : Sp.St) (w : World), d + n ≤ 1000000 → 32 * Sp.rem s σ + Sp.lev nt ≤ n → PS b c cap len s d σ w →
    Calls Tryz.prog 95 #[.pointer (some ⟨b, 0, none⟩), .func (.func f) #[.pointer (some ⟨b, 0, none⟩)] #[]] w (Post b c cap len s d (Sp.run s n nt d σ) w)

set_option maxHeartbeats 1000000 in
theorem listE_step {b c cap len : Nat} {s : Sp.Bs} {n : Nat} (IH : Hid (∀ m, m ≤ n → All b c cap len s m)) : SdL b c cap len s (n + 1) .list 100 := by
  intro d σ w hd hm hp
  have hr := Sp.rem_run s n .expr d σ
  have hm' : 32 * Sp.rem s σ + 10 ≤ n + 1 := hm
  clear hm
  have HP : Hid (PS b c cap len s d σ w) := hp
  clear hp
  go_enter Tryz.func95, Tryz.ntmps95
  go_wp2_with fail
  refine ((IH.out n (Nat.le_refl _)).expr d σ _ (by omega) (by show 32 * Sp.rem s σ + 9 ≤ n; omega) HP.out).mono ?_
  rintro r w1 ⟨rfl, hp1, hk1⟩
  have HP1 : Hid (PS b c cap len s d (Sp.run s n .expr d σ) w1) := hp1
  have HK1 : Hid (Kept b w w1) := hk1
  clear hp1 hk1
  go_wp2_with fail
  go_loopg [8] n (fun m _ wr => m ≤ n ∧ ∃ σ', 32 * Sp.rem s σ' + 1 ≤ m ∧ Hid (Sp.run s (n + 1) .list d σ = Sp.run s m .listL d σ') ∧ Hid (PS b c cap len s d σ' wr) ∧ Hid (Kept b w wr))
  case atStart => exact ⟨Nat.le_refl _, _, by omega, rfl, HP1.out, HK1.out⟩
  case round =>
    obtain ⟨hmn, σ', hms, HR, HPr, HKr⟩ := hrel
    obtain ⟨m, rfl⟩ : ∃ m, gk = m + 1 := ⟨gk - 1, by omega⟩
    cases hs : σ'.is s [44]
    · have HV : Hid (Sp.run s (m + 1) .listL d σ' = σ') := by show _ = _; rw [Sp.run, hs]; rfl
      have HT : Hid (σ'.take s [44] = σ') := by show _ = _; rw [Sp.St.take, hs]; rfl
      go_wp2_with fail
      refine (accept1 HPr.out [44] (by decide)).mono ?_
      rintro r w2 ⟨rfl, hp2, hk2⟩
      rw [HT.out] at hp2
      have HP2 : Hid (PS b c cap len s d σ' w2) := hp2
      have HK2 : Hid (Kept b wr w2) := hk2
      clear hp2 hk2
      go_wp2_with fail
      go_end0
      exact ⟨rfl, by rw [HR.out, HV.out]; exact HP2.out, HKr.out.trans HK2.out⟩
    · have HV : Hid (Sp.run s (m + 1) .listL d σ' = Sp.run s m .listL d (Sp.run s m .expr d (σ'.step s))) := by show _ = _; rw [Sp.run, hs]; rfl
      have HT : Hid (σ'.take s [44] = σ'.step s) := by show _ = _; rw [Sp.St.take, hs]; rfl
      have h1 := Sp.rem_step_lt hs
      have h2 := Sp.rem_run s m .expr d (σ'.step s)
      go_wp2_with fail
      refine (accept1 HPr.out [44] (by decide)).mono ?_
      rintro r w2 ⟨rfl, hp2, hk2⟩
      rw [HT.out] at hp2
      have HP2 : Hid (PS b c cap len s d (σ'.step s) w2) := hp2
      have HK2 : Hid (Kept b wr w2) := hk2
      clear hp2 hk2
      go_wp2_with fail
      refine ((IH.out m (by omega)).expr d _ _ (by omega) (by show 32 * Sp.rem s _ + 9 ≤ m; omega) HP2.out).mono ?_
      rintro r w3 ⟨rfl, hp3, hk3⟩
      have HP3 : Hid (PS b c cap len s d (Sp.run s m .expr d (σ'.step s)) w3) := hp3
      have HK3 : Hid (Kept b wr w3) := HK2.out.trans hk3
      clear hp3 hk3
      go_wp2_with fail
      go_roundg m
      case measure => omega
      case rel => exact ⟨by omega, _, by omega, by show _ = _; rw [HR.out, HV.out], HP3.out, HKr.out.trans HK3.out⟩

set_option maxHeartbeats 1000000 in
theorem exprs_step {b c cap len : Nat} {s : Sp.Bs} {n : Nat} (L : SdL b c cap len s n .list 100) : Sd b c cap len s n .list 167 := by
  intro d σ w hd hm hp
  have H : Hid (∀ w', w' = w → Calls Tryz.prog 95 #[.pointer (some ⟨b, 0, none⟩), .func (.func 100) #[.pointer (some ⟨b, 0, none⟩)] #[]] w' (Post b c cap len s d (Sp.run s n .list d σ) w)) := fun w' e => by subst e; exact L d σ w' hd hm hp
  clear hd hm hp
  have hmf : ∀ (fn : Fn) (first cap : Array Value) (w : World), (Instr.makeFunc fn first cap).run Tryz.prog w = .ok (.func fn first cap) w := fun _ _ _ _ => rfl
  go_enter Tryz.func167, Tryz.ntmps167
  go_wp2_with fail
  refine (H.out _ rfl).mono ?_
  rintro r w1 ⟨rfl, hp1, hk1⟩
  have HP1 : Hid (PS b c cap len s d (Sp.run s n .list d σ) w1) := hp1
  have HK1 : Hid (Kept b w w1) := hk1
  clear hp1 hk1
  go_wp2_with fail
  go_end0
  exact ⟨rfl, HP1.out, HK1.out⟩

set_option maxHeartbeats 1000000 in
theorem where_step {b c cap len : Nat} {s : Sp.Bs} {n : Nat} (IH : Hid (∀ m, m ≤ n → All b c cap len s m)) : Sd b c cap len s (n + 1) .where_ 62 := by
  intro d σ w hd hm hp
  have hm' : 32 * Sp.rem s σ + 10 ≤ n + 1 := hm
  clear hm
  have HP : Hid (PS b c cap len s d σ w) := hp
  clear hp
  cases hs : σ.is s [119, 104, 101, 114, 101]
  · have HV : Hid (Sp.run s (n + 1) .where_ d σ = σ) := by show _ = _; rw [Sp.run, hs]; rfl
    have HT : Hid (σ.take s [119, 104, 101, 114, 101] = σ) := by show _ = _; rw [Sp.St.take, hs]; rfl
    go_enter Tryz.func62, Tryz.ntmps62
    go_wp2_with fail
    refine (accept1 HP.out [119, 104, 101, 114, 101] (by decide)).mono ?_
    rintro r w2 ⟨rfl, hp2, hk2⟩
    rw [HT.out] at hp2
    have HP2 : Hid (PS b c cap len s d σ w2) := hp2
    have HK2 : Hid (Kept b w w2) := hk2
    clear hp2 hk2
    go_wp2_with fail
    go_end0
    exact ⟨rfl, by rw [HV.out]; exact HP2.out, HK2.out⟩
  · have HV : Hid (Sp.run s (n + 1) .where_ d σ = Sp.run s n .expr d (σ.step s)) := by show _ = _; rw [Sp.run, hs]; rfl
    have HT : Hid (σ.take s [119, 104, 101, 114, 101] = σ.step s) := by show _ = _; rw [Sp.St.take, hs]; rfl
    have h1 := Sp.rem_step_lt hs
    go_enter Tryz.func62, Tryz.ntmps62
    go_wp2_with fail
    refine (accept1 HP.out [119, 104, 101, 114, 101] (by decide)).mono ?_
    rintro r w2 ⟨rfl, hp2, hk2⟩
    rw [HT.out] at hp2
    have HP2 : Hid (PS b c cap len s d (σ.step s) w2) := hp2
    have HK2 : Hid (Kept b w w2) := hk2
    clear hp2 hk2
    go_wp2_with fail
    refine ((IH.out n (by omega)).expr d _ _ (by omega) (by show 32 * Sp.rem s _ + 9 ≤ n; omega) HP2.out).mono ?_
    rintro r w3 ⟨rfl, hp3, hk3⟩
    have HP3 : Hid (PS b c cap len s d (Sp.run s n .expr d (σ.step s)) w3) := hp3
    have HK3 : Hid (Kept b w w3) := HK2.out.trans hk3
    clear hp3 hk3
    go_wp2_with fail
    go_end0
    exact ⟨rfl, by rw [HV.out]; exact HP3.out, HK3.out⟩

theorem opened_is {s : Sp.Bs} {z : Sp.Bs} {d : Nat} {σ : Sp.St} (h : σ.is s z = true) : σ.opened s z d = σ.openT s d := by rw [Sp.St.opened, h]; rfl

set_option maxHeartbeats 1000000 in
theorem no_step {b c cap len : Nat} {s : Sp.Bs} {n : Nat} (IH : Hid (∀ m, m ≤ n → All b c cap len s m)) : Sd b c cap len s (n + 1) .no 126 := by
  intro d σ w hd hm hp
  have hm' : 32 * Sp.rem s σ + 7 ≤ n + 1 := hm
  clear hm
  have HP : Hid (PS b c cap len s d σ w) := hp
  clear hp
  have hmf : ∀ (fn : Fn) (first cap : Array Value) (w : World), (Instr.makeFunc fn first cap).run Tryz.prog w = .ok (.func fn first cap) w := fun _ _ _ _ => rfl
  cases hs : σ.is s [110, 111, 116]
  · have HV : Hid (Sp.run s (n + 1) .no d σ = Sp.run s n .compare d σ) := by show _ = _; rw [Sp.run, hs]; rfl
    go_enter Tryz.func126, Tryz.ntmps126
    go_wp2_with fail
    refine (sees1 HP.out [110, 111, 116] (by decide)).mono ?_
    rintro r w2 ⟨rfl, hp2, hk2⟩
    have HP2 : Hid (PS b c cap len s d σ w2) := hp2
    have HK2 : Hid (Kept b w w2) := hk2
    clear hp2 hk2
    go_wp2_with fail
    refine ((IH.out n (by omega)).compare d _ _ (by omega) (by show 32 * Sp.rem s _ + 6 ≤ n; omega) HP2.out).mono ?_
    rintro r w3 ⟨rfl, hp3, hk3⟩
    have HP3 : Hid (PS b c cap len s d (Sp.run s n .compare d σ) w3) := hp3
    have HK3 : Hid (Kept b w w3) := HK2.out.trans hk3
    clear hp3 hk3
    go_wp2_with fail
    go_end0
    exact ⟨rfl, by rw [HV.out]; exact HP3.out, HK3.out⟩
  · have HV : Hid (Sp.run s (n + 1) .no d σ = Sp.run s n .no (d + 1) (σ.opened s [110, 111, 116] d)) := by show _ = _; rw [opened_is hs, Sp.run, hs]; rfl
    have h1 := Sp.rem_openT_lt (d := d) hs
    rw [← opened_is hs] at h1
    go_enter Tryz.func126, Tryz.ntmps126
    go_wp2_with fail
    refine (sees1 HP.out [110, 111, 116] (by decide)).mono ?_
    rintro r w2 ⟨rfl, hp2, hk2⟩
    have HP2 : Hid (PS b c cap len s d σ w2) := hp2
    have HK2 : Hid (Kept b w w2) := hk2
    clear hp2 hk2
    go_wp2_with fail
    refine (opened_no HP2.out [110, 111, 116] (by decide) (by omega) (Sp.run s n .no (d + 1)) (fun w' _ hp' => (IH.out n (by omega)).no (d + 1) _ _ (by omega) (by show 32 * Sp.rem s _ + 7 ≤ n; omega) hp')).mono ?_
    rintro r w3 ⟨rfl, hp3, hk3⟩
    have HP3 : Hid (PS b c cap len s d (Sp.run s n .no (d + 1) (σ.opened s [110, 111, 116] d)) w3) := hp3
    have HK3 : Hid (Kept b w w3) := HK2.out.trans hk3
    clear hp3 hk3
    go_wp2_with fail
    exact bodyPost_ret (v := .tuple #[]) (by simp [results, Tryz.results126, go_sem]) rfl ⟨rfl, by rw [HV.out]; exact HP3.out, HK3.out⟩

set_option maxHeartbeats 1000000 in
theorem unary_step {b c cap len : Nat} {s : Sp.Bs} {n : Nat} (IH : Hid (∀ m, m ≤ n → All b c cap len s m)) : Sd b c cap len s (n + 1) .unary 153 := by
  intro d σ w hd hm hp
  have hm' : 32 * Sp.rem s σ + 3 ≤ n + 1 := hm
  clear hm
  have HP : Hid (PS b c cap len s d σ w) := hp
  clear hp
  have hmf : ∀ (fn : Fn) (first cap : Array Value) (w : World), (Instr.makeFunc fn first cap).run Tryz.prog w = .ok (.func fn first cap) w := fun _ _ _ _ => rfl
  cases hs : σ.is s [45]
  · have HV : Hid (Sp.run s (n + 1) .unary d σ = Sp.run s n .atom d σ) := by show _ = _; rw [Sp.run, hs]; rfl
    go_enter Tryz.func153, Tryz.ntmps153
    go_wp2_with fail
    refine (sees1 HP.out [45] (by decide)).mono ?_
    rintro r w2 ⟨rfl, hp2, hk2⟩
    have HP2 : Hid (PS b c cap len s d σ w2) := hp2
    have HK2 : Hid (Kept b w w2) := hk2
    clear hp2 hk2
    go_wp2_with fail
    refine ((IH.out n (by omega)).atom d _ _ (by omega) (by show 32 * Sp.rem s _ + 2 ≤ n; omega) HP2.out).mono ?_
    rintro r w3 ⟨rfl, hp3, hk3⟩
    have HP3 : Hid (PS b c cap len s d (Sp.run s n .atom d σ) w3) := hp3
    have HK3 : Hid (Kept b w w3) := HK2.out.trans hk3
    clear hp3 hk3
    go_wp2_with fail
    go_end0
    exact ⟨rfl, by rw [HV.out]; exact HP3.out, HK3.out⟩
  · have HV : Hid (Sp.run s (n + 1) .unary d σ = Sp.run s n .unary (d + 1) (σ.opened s [45] d)) := by show _ = _; rw [opened_is hs, Sp.run, hs]; rfl
    have h1 := Sp.rem_openT_lt (d := d) hs
    rw [← opened_is hs] at h1
    go_enter Tryz.func153, Tryz.ntmps153
    go_wp2_with fail
    refine (sees1 HP.out [45] (by decide)).mono ?_
    rintro r w2 ⟨rfl, hp2, hk2⟩
    have HP2 : Hid (PS b c cap len s d σ w2) := hp2
    have HK2 : Hid (Kept b w w2) := hk2
    clear hp2 hk2
    go_wp2_with fail
    refine (opened_unary HP2.out [45] (by decide) (by omega) (Sp.run s n .unary (d + 1)) (fun w' _ hp' => (IH.out n (by omega)).unary (d + 1) _ _ (by omega) (by show 32 * Sp.rem s _ + 3 ≤ n; omega) hp')).mono ?_
    rintro r w3 ⟨rfl, hp3, hk3⟩
    have HP3 : Hid (PS b c cap len s d (Sp.run s n .unary (d + 1) (σ.opened s [45] d)) w3) := hp3
    have HK3 : Hid (Kept b w w3) := HK2.out.trans hk3
    clear hp3 hk3
    go_wp2_with fail
    exact bodyPost_ret (v := .tuple #[]) (by simp [results, Tryz.results153, go_sem]) rfl ⟨rfl, by rw [HV.out]; exact HP3.out, HK3.out⟩

end Go.Proofs.YtpgeiieapkbjhaaGreatDoor
