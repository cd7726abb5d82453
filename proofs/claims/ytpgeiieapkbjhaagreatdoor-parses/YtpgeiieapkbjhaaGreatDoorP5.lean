import Derived.Test.YtpgeiieapkbjhaaGreatDoorP4
import Derived.Test.YtpgeiieapkbjhaaGreatDoorSp2
import Derived.Deep.LoopGhost
namespace Go.Proofs.YtpgeiieapkbjhaaGreatDoor
open Go.RowKit

set_option maxHeartbeats 1000000 in
theorem name_any {b c cap len : Nat} {s : Sp.Bs} {d : Nat} {σ : Sp.St} {w : World} (h : PS b c cap len s d σ w) :
    Calls Tryz.prog 60 #[.pointer (some ⟨b, 0, none⟩)] w (Post b c cap len s d (σ.nameT s) w) := by
  have A := acceptKind_any h [.name] (by decide) (by decide) 1 rfl #[.int .i64 3] rfl
  have e : isCls s [.name] σ = σ.isCl s .name := by simp [isCls]
  rw [e] at A
  have HA : Hid (∀ w', w' = w.alloc (.cells #[.int .i64 3] 126) → Calls Tryz.prog 98 #[.pointer (some ⟨b, 0, none⟩), .slice (some ⟨w.heap.size, 0, none⟩) 1 1] w' fun r w' => r = .returned (.bool (σ.isCl s .name)) ∧ PS b c cap len s d (stepIf (σ.isCl s .name) s σ) w' ∧ Kept b w w') := fun w' e => by subst e; exact A
  clear A e h
  cases hs : σ.isCl s .name
  · have HM : Hid (σ.nameT s = σ.fail s 2) := by show _ = _; simp [Sp.St.nameT, hs]
    go_enter Tryz.func60, Tryz.ntmps60
    go_wp2_with fail
    refine (HA.out _ rfl).mono ?_
    rintro r w1 ⟨rfl, hp1, hk1⟩
    rw [hs] at hp1
    have HP1 : Hid (PS b c cap len s d σ w1) := hp1
    have HK1 : Hid (Kept b w w1) := hk1
    clear hp1 hk1
    go_wp2_with fail
    refine (refuse_any HP1.out).mono ?_
    rintro r w2 ⟨rfl, hp2, hk2⟩
    have HP2 : Hid (PS b c cap len s d (σ.fail s 2) w2) := hp2
    clear hp2
    go_wp2_with fail
    go_end0
    exact ⟨rfl, by rw [HM.out]; exact HP2.out, HK1.out.trans hk2⟩
  · have HM : Hid (σ.nameT s = σ.step s) := by show _ = _; simp [Sp.St.nameT, hs]
    go_enter Tryz.func60, Tryz.ntmps60
    go_wp2_with fail
    refine (HA.out _ rfl).mono ?_
    rintro r w1 ⟨rfl, hp1, hk1⟩
    rw [hs] at hp1
    have HP1 : Hid (PS b c cap len s d (σ.step s) w1) := hp1
    have HK1 : Hid (Kept b w w1) := hk1
    clear hp1 hk1
    go_wp2_with fail
    go_end0
    exact ⟨rfl, by rw [HM.out]; exact HP1.out, HK1.out⟩

/-- The contract of a part of the grammar, at n steps of fuel. -/
def Sd (b c cap len : Nat) (s : Sp.Bs) (n : Nat) (nt : Sp.Nt) (f : FuncId) : Prop :=
  ∀ (d : Nat) (σ : Sp.St) (w : World), d + n ≤ 1000000 → 32 * Sp.rem s σ + Sp.lev nt ≤ n → PS b c cap len s d σ w →
    Calls Tryz.prog f #[.pointer (some ⟨b, 0, none⟩)] w (Post b c cap len s d (Sp.run s n nt d σ) w)

structure All (b c cap len : Nat) (s : Sp.Bs) (n : Nat) : Prop where
  expr : Sd b c cap len s n .expr 100
  both : Sd b c cap len s n .both 116
  no : Sd b c cap len s n .no 126
  compare : Sd b c cap len s n .compare 138
  sum : Sd b c cap len s n .sum 147
  product : Sd b c cap len s n .product 150
  unary : Sd b c cap len s n .unary 153
  atom : Sd b c cap len s n .atom 159
  list : Sd b c cap len s n .list 167
  query : Sd b c cap len s n .query 64
  term : Sd b c cap len s n .term 102
  factor : Sd b c cap len s n .factor 117
  where_ : Sd b c cap len s n .where_ 62

set_option maxHeartbeats 1000000 in
theorem expr_step {b c cap len : Nat} {s : Sp.Bs} {n : Nat} (IH : Hid (∀ m, m ≤ n → All b c cap len s m)) : Sd b c cap len s (n + 1) .expr 100 := by
  intro d σ w hd hm hp
  have hr := Sp.rem_run s n .both d σ
  have hm' : 32 * Sp.rem s σ + 9 ≤ n + 1 := hm
  clear hm
  have HP : Hid (PS b c cap len s d σ w) := hp
  clear hp
  go_enter Tryz.func100, Tryz.ntmps100
  go_wp2_with fail
  refine ((IH.out n (Nat.le_refl _)).both d σ _ (by omega) (by show 32 * Sp.rem s σ + 8 ≤ n; omega) HP.out).mono ?_
  rintro r w1 ⟨rfl, hp1, hk1⟩
  have HP1 : Hid (PS b c cap len s d (Sp.run s n .both d σ) w1) := hp1
  have HK1 : Hid (Kept b w w1) := hk1
  clear hp1 hk1
  go_wp2_with fail
  go_loopg [6] n (fun m _ wr => m ≤ n ∧ ∃ σ', 32 * Sp.rem s σ' + 1 ≤ m ∧ Hid (Sp.run s (n + 1) .expr d σ = Sp.run s m .orL d σ') ∧ Hid (PS b c cap len s d σ' wr) ∧ Hid (Kept b w wr))
  case atStart => exact ⟨Nat.le_refl _, _, by omega, rfl, HP1.out, HK1.out⟩
  case round =>
    obtain ⟨hmn, σ', hms, HR, HPr, HKr⟩ := hrel
    obtain ⟨m, rfl⟩ : ∃ m, gk = m + 1 := ⟨gk - 1, by omega⟩
    cases hs : σ'.is s [111, 114]
    · have HV : Hid (Sp.run s (m + 1) .orL d σ' = σ') := by show _ = _; rw [Sp.run, hs]; rfl
      have HT : Hid (σ'.take s [111, 114] = σ') := by show _ = _; rw [Sp.St.take, hs]; rfl
      go_wp2_with fail
      refine (accept1 HPr.out [111, 114] (by decide)).mono ?_
      rintro r w2 ⟨rfl, hp2, hk2⟩
      rw [HT.out] at hp2
      have HP2 : Hid (PS b c cap len s d σ' w2) := hp2
      have HK2 : Hid (Kept b wr w2) := hk2
      clear hp2 hk2
      go_wp2_with fail
      go_end0
      exact ⟨rfl, by rw [HR.out, HV.out]; exact HP2.out, HKr.out.trans HK2.out⟩
    · have HV : Hid (Sp.run s (m + 1) .orL d σ' = Sp.run s m .orL d (Sp.run s m .both d (σ'.step s))) := by show _ = _; rw [Sp.run, hs]; rfl
      have HT : Hid (σ'.take s [111, 114] = σ'.step s) := by show _ = _; rw [Sp.St.take, hs]; rfl
      have h1 := Sp.rem_step_lt hs
      have h2 := Sp.rem_run s m .both d (σ'.step s)
      go_wp2_with fail
      refine (accept1 HPr.out [111, 114] (by decide)).mono ?_
      rintro r w2 ⟨rfl, hp2, hk2⟩
      rw [HT.out] at hp2
      have HP2 : Hid (PS b c cap len s d (σ'.step s) w2) := hp2
      have HK2 : Hid (Kept b wr w2) := hk2
      clear hp2 hk2
      go_wp2_with fail
      refine ((IH.out m (by omega)).both d _ _ (by omega) (by show 32 * Sp.rem s _ + 8 ≤ m; omega) HP2.out).mono ?_
      rintro r w3 ⟨rfl, hp3, hk3⟩
      have HP3 : Hid (PS b c cap len s d (Sp.run s m .both d (σ'.step s)) w3) := hp3
      have HK3 : Hid (Kept b w2 w3) := hk3
      clear hp3 hk3
      go_wp2_with fail
      go_roundg m
      case measure => omega
      case rel => exact ⟨by omega, _, by omega, by show _ = _; rw [HR.out, HV.out], HP3.out, (HKr.out.trans HK2.out).trans HK3.out⟩
end Go.Proofs.YtpgeiieapkbjhaaGreatDoor
