import Derived.Test.YtpgeiieapkbjhaaGreatDoorP9
namespace Go.Proofs.YtpgeiieapkbjhaaGreatDoor
open Go.RowKit

/-- A table behind a from. -/
def srcT (s : Sp.Bs) (σ : Sp.St) : Sp.St := stepIf ((σ.nameT s).isCl s .name) s (σ.nameT s)

theorem rem_srcT (s : Sp.Bs) (σ : Sp.St) : Sp.rem s (srcT s σ) ≤ Sp.rem s σ := by
  unfold srcT stepIf
  have := Sp.rem_nameT s σ
  split
  · exact Nat.le_trans (Sp.rem_step_le _ _) this
  · exact this

theorem isName (s : Sp.Bs) (σ : Sp.St) : isCls s [.name] σ = σ.isCl s .name := by simp [isCls]

theorem acceptName {b c cap len : Nat} {s : Sp.Bs} {d : Nat} {σ : Sp.St} {w : World} (h : PS b c cap len s d σ w) :
    Calls Tryz.prog 98 #[.pointer (some ⟨b, 0, none⟩), .slice (some ⟨w.heap.size, 0, none⟩) 1 1] (w.alloc (.cells #[.int .i64 3] 126)) fun r w' => r = .returned (.bool (σ.isCl s .name)) ∧ PS b c cap len s d (stepIf (σ.isCl s .name) s σ) w' ∧ Kept b w w' := by
  have A := acceptKind_any h [.name] (by decide) (by decide) 1 rfl #[.int .i64 3] rfl
  rw [isName] at A
  exact A

set_option maxHeartbeats 1000000 in
theorem source_any {b c cap len : Nat} {s : Sp.Bs} {d : Nat} {σ : Sp.St} {w : World} (h : PS b c cap len s d σ w) :
    Calls Tryz.prog 128 #[.pointer (some ⟨b, 0, none⟩)] w (Post b c cap len s d (srcT s σ) w) := by
  have HP : Hid (PS b c cap len s d σ w) := h
  clear h
  go_enter Tryz.func128, Tryz.ntmps128
  go_wp2_with fail
  refine (name_any HP.out).mono ?_
  rintro r w1 ⟨rfl, hp1, hk1⟩
  have HP1 : Hid (PS b c cap len s d (σ.nameT s) w1) := hp1
  have HK1 : Hid (Kept b w w1) := hk1
  clear hp1 hk1
  go_wp2_with fail
  refine (acceptName HP1.out).mono ?_
  rintro r w2 ⟨rfl, hp2, hk2⟩
  have HP2 : Hid (PS b c cap len s d (srcT s σ) w2) := hp2
  have HK2 : Hid (Kept b w w2) := HK1.out.trans hk2
  clear hp2 hk2
  go_wp2_with fail
  go_end0
  exact ⟨rfl, HP2.out, HK2.out⟩

theorem fromL_eq (s : Sp.Bs) (n d : Nat) (σ : Sp.St) : Sp.run s (n + 1) .fromL d σ = if (srcT s σ).is s [44] then Sp.run s n .fromL d ((srcT s σ).step s) else srcT s σ := by
  rw [Sp.run]; rfl

set_option maxHeartbeats 1000000 in
theorem listS_any {b c cap len : Nat} {s : Sp.Bs} {n d : Nat} {σ : Sp.St} {w : World} (hm : 32 * Sp.rem s σ + 2 ≤ n) (h : PS b c cap len s d σ w) :
    Calls Tryz.prog 95 #[.pointer (some ⟨b, 0, none⟩), .func (.func 128) #[.pointer (some ⟨b, 0, none⟩)] #[]] w (Post b c cap len s d (Sp.run s n .fromL d σ) w) := by
  obtain ⟨n, rfl⟩ : ∃ m, n = m + 1 := ⟨n - 1, by omega⟩
  have hr := rem_srcT s σ
  have HP : Hid (PS b c cap len s d σ w) := h
  clear h
  have HE : Hid (Sp.run s (n + 1) .fromL d σ = if (srcT s σ).is s [44] then Sp.run s n .fromL d ((srcT s σ).step s) else srcT s σ) := fromL_eq s n d σ
  go_enter Tryz.func95, Tryz.ntmps95
  go_wp2_with fail
  refine (source_any HP.out).mono ?_
  rintro r w1 ⟨rfl, hp1, hk1⟩
  have HP1 : Hid (PS b c cap len s d (srcT s σ) w1) := hp1
  have HK1 : Hid (Kept b w w1) := hk1
  clear hp1 hk1
  go_wp2_with fail
  go_loopg [8] n (fun m _ wr => m ≤ n ∧ ∃ σ', 32 * Sp.rem s σ' ≤ m + 1 ∧ Hid (Sp.run s (n + 1) .fromL d σ = if σ'.is s [44] then Sp.run s m .fromL d (σ'.step s) else σ') ∧ Hid (PS b c cap len s d σ' wr) ∧ Hid (Kept b w wr))
  case atStart => exact ⟨Nat.le_refl _, _, by omega, HE.out, HP1.out, HK1.out⟩
  case round =>
    obtain ⟨hmn, σ', hms, HR, HPr, HKr⟩ := hrel
    cases hs : σ'.is s [44]
    · have HV : Hid (Sp.run s (n + 1) .fromL d σ = σ') := by show _ = _; rw [HR.out, hs]; rfl
      have HT : Hid (σ'.take s [44] = σ') := by show _ = _; rw [Sp.St.take, hs]; rfl
      clear HR
      go_wp2_with fail
      refine (accept1 HPr.out [44] (by decide)).mono ?_
      rintro r w2 ⟨rfl, hp2, hk2⟩
      rw [HT.out] at hp2
      have HP2 : Hid (PS b c cap len s d (σ') w2) := hp2
      have HK2 : Hid (Kept b w w2) := HKr.out.trans hk2
      clear hp2 hk2
      go_wp2_with fail
      go_end0
      exact ⟨rfl, by rw [HV.out]; exact HP2.out, HK2.out⟩
    · have h1 := Sp.rem_step_lt hs
      obtain ⟨m, rfl⟩ : ∃ m, gk = m + 1 := ⟨gk - 1, by omega⟩
      have h2 := rem_srcT s (σ'.step s)
      have HV : Hid (Sp.run s (n + 1) .fromL d σ = if (srcT s (σ'.step s)).is s [44] then Sp.run s m .fromL d ((srcT s (σ'.step s)).step s) else srcT s (σ'.step s)) := by show _ = _; rw [HR.out, hs, if_pos rfl, fromL_eq]
      have HT : Hid (σ'.take s [44] = σ'.step s) := by show _ = _; rw [Sp.St.take, hs]; rfl
      clear HR
      go_wp2_with fail
      refine (accept1 HPr.out [44] (by decide)).mono ?_
      rintro r w2 ⟨rfl, hp2, hk2⟩
      rw [HT.out] at hp2
      have HP2 : Hid (PS b c cap len s d (σ'.step s) w2) := hp2
      have HK2 : Hid (Kept b w w2) := HKr.out.trans hk2
      clear hp2 hk2
      go_wp2_with fail
      refine (source_any HP2.out).mono ?_
      rintro r w3 ⟨rfl, hp3, hk3⟩
      have HP3 : Hid (PS b c cap len s d (srcT s (σ'.step s)) w3) := hp3
      have HK3 : Hid (Kept b w w3) := HK2.out.trans hk3
      clear hp3 hk3
      go_wp2_with fail
      go_roundg m
      case measure => omega
      case rel => exact ⟨by omega, _, by omega, HV.out, HP3.out, HK3.out⟩

/-- One arm of a case, at two steps of fuel. -/
def armT (s : Sp.Bs) (n m d : Nat) (σ : Sp.St) : Sp.St := Sp.run s m .expr d ((Sp.run s n .expr d (σ.must s [119, 104, 101, 110])).must s [116, 104, 101, 110])

set_option maxHeartbeats 1000000 in
theorem arm_any {b c cap len : Nat} {s : Sp.Bs} {n m d : Nat} {σ : Sp.St} {w : World} (In : All b c cap len s n) (Im : All b c cap len s m) (hd : d + n ≤ 1000000) (hd' : d + m ≤ 1000000) (h1 : 32 * Sp.rem s σ + 9 ≤ n) (h2 : 32 * Sp.rem s σ + 9 ≤ m) (h : PS b c cap len s d σ w) :
    Calls Tryz.prog 172 #[.pointer (some ⟨b, 0, none⟩)] w (Post b c cap len s d (armT s n m d σ) w) := by
  have HP : Hid (PS b c cap len s d σ w) := h
  clear h
  have r1 := Sp.rem_must s [119, 104, 101, 110] σ
  have r2 := Sp.rem_run s n .expr d (σ.must s [119, 104, 101, 110])
  have r3 := Sp.rem_must s [116, 104, 101, 110] (Sp.run s n .expr d (σ.must s [119, 104, 101, 110]))
  have HI : Hid (All b c cap len s n) := In
  have HJ : Hid (All b c cap len s m) := Im
  clear In Im
  go_enter Tryz.func172, Tryz.ntmps172
  go_wp2_with fail
  refine (expect_any HP.out [119, 104, 101, 110] (by decide)).mono ?_
  rintro r w1 ⟨rfl, hp1, hk1⟩
  have HP1 : Hid (PS b c cap len s d (σ.must s [119, 104, 101, 110]) w1) := hp1
  have HK1 : Hid (Kept b w w1) := hk1
  clear hp1 hk1
  go_wp2_with fail
  refine (HI.out.expr d _ _ hd (by show 32 * Sp.rem s _ + 9 ≤ n; omega) HP1.out).mono ?_
  rintro r w2 ⟨rfl, hp2, hk2⟩
  have HP2 : Hid (PS b c cap len s d (Sp.run s n .expr d (σ.must s [119, 104, 101, 110])) w2) := hp2
  have HK2 : Hid (Kept b w w2) := HK1.out.trans hk2
  clear hp2 hk2
  go_wp2_with fail
  refine (expect_any HP2.out [116, 104, 101, 110] (by decide)).mono ?_
  rintro r w3 ⟨rfl, hp3, hk3⟩
  have HP3 : Hid (PS b c cap len s d ((Sp.run s n .expr d (σ.must s [119, 104, 101, 110])).must s [116, 104, 101, 110]) w3) := hp3
  have HK3 : Hid (Kept b w w3) := HK2.out.trans hk3
  clear hp3 hk3
  go_wp2_with fail
  refine (HJ.out.expr d _ _ hd' (by show 32 * Sp.rem s _ + 9 ≤ m; omega) HP3.out).mono ?_
  rintro r w4 ⟨rfl, hp4, hk4⟩
  have HP4 : Hid (PS b c cap len s d (armT s n m d σ) w4) := hp4
  have HK4 : Hid (Kept b w w4) := HK3.out.trans hk4
  clear hp4 hk4
  go_wp2_with fail
  go_end0
  exact ⟨rfl, HP4.out, HK4.out⟩

/-- What stands behind an arm. -/
def caseR (s : Sp.Bs) (m d : Nat) (σ : Sp.St) : Sp.St := if σ.is s [119, 104, 101, 110] then Sp.run s m .caseW d σ else if σ.is s [101, 108, 115, 101] then Sp.run s m .caseE d σ else σ

theorem caseW_eq (s : Sp.Bs) (m d : Nat) (σ : Sp.St) : Sp.run s (m + 2) .caseW d σ = caseR s m d (armT s (m + 1) m d σ) := by
  rw [Sp.run, Sp.run]; rfl

theorem caseE_eq (s : Sp.Bs) (m d : Nat) (σ : Sp.St) (h : σ.is s [101, 108, 115, 101] = true) : Sp.run s (m + 1) .caseE d σ = Sp.run s m .expr d (σ.step s) := by
  rw [Sp.run, Sp.St.must, h]; rfl

theorem rem_armT (s : Sp.Bs) (n m d : Nat) (σ : Sp.St) : Sp.rem s (armT s n m d σ) ≤ Sp.rem s (σ.must s [119, 104, 101, 110]) := by
  unfold armT
  exact Nat.le_trans (Sp.rem_run _ _ _ _ _) (Nat.le_trans (Sp.rem_must _ _ _) (Sp.rem_run _ _ _ _ _))

theorem when_not_else {s : Sp.Bs} {σ : Sp.St} (h : σ.is s [119, 104, 101, 110] = true) : σ.must s [119, 104, 101, 110] = σ.step s := by rw [Sp.St.must, h]; rfl

set_option maxHeartbeats 2000000 in
theorem arms_any {b c cap len : Nat} {s : Sp.Bs} {n d : Nat} {σ : Sp.St} {w : World} (IH : Hid (∀ m, m ≤ n → All b c cap len s m)) (hd : d + n ≤ 1000000) (hm : 32 * Sp.rem s σ + 13 ≤ n) (h : PS b c cap len s d σ w) :
    Calls Tryz.prog 168 #[.pointer (some ⟨b, 0, none⟩)] w (Post b c cap len s d ((Sp.run s n .caseW d σ).must s [101, 110, 100]) w) := by
  obtain ⟨n, rfl⟩ : ∃ m, n = m + 2 := ⟨n - 2, by omega⟩
  have r0 := Sp.rem_must s [119, 104, 101, 110] σ
  have r1 := rem_armT s (n + 1) n d σ
  have HP : Hid (PS b c cap len s d σ w) := h
  clear h
  have HE : Hid (Sp.run s (n + 2) .caseW d σ = caseR s n d (armT s (n + 1) n d σ)) := caseW_eq s n d σ
  go_enter Tryz.func168, Tryz.ntmps168
  go_wp2_with fail
  refine (arm_any (IH.out (n + 1) (by omega)) (IH.out n (by omega)) (by omega) (by omega) (by omega) (by omega) HP.out).mono ?_
  rintro r w1 ⟨rfl, hp1, hk1⟩
  have HP1 : Hid (PS b c cap len s d (armT s (n + 1) n d σ) w1) := hp1
  have HK1 : Hid (Kept b w w1) := hk1
  clear hp1 hk1
  go_wp2_with fail
  go_loopg [6] n (fun m _ wr => m ≤ n ∧ ∃ σ', 32 * Sp.rem s σ' + 11 ≤ m ∧ Hid (Sp.run s (n + 2) .caseW d σ = caseR s m d σ') ∧ Hid (PS b c cap len s d σ' wr) ∧ Hid (Kept b w wr))
  case atStart => exact ⟨Nat.le_refl _, _, by omega, HE.out, HP1.out, HK1.out⟩
  case round =>
    obtain ⟨hmn, σ', hms, HR, HPr, HKr⟩ := hrel
    cases hs : σ'.is s [119, 104, 101, 110]
    · cases he : σ'.is s [101, 108, 115, 101]
      · have HV : Hid (Sp.run s (n + 2) .caseW d σ = σ') := by show _ = _; rw [HR.out, caseR, hs, he]; rfl
        have HT : Hid (σ'.take s [101, 108, 115, 101] = σ') := by show _ = _; rw [Sp.St.take, he]; rfl
        clear HR
        go_wp2_with fail
        refine (sees1 HPr.out [119, 104, 101, 110] (by decide)).mono ?_
        rintro r w2 ⟨rfl, hp2, hk2⟩
        have HP2 : Hid (PS b c cap len s d (σ') w2) := hp2
        have HK2 : Hid (Kept b w w2) := HKr.out.trans hk2
        clear hp2 hk2
        go_wp2_with fail
        refine (accept1 HP2.out [101, 108, 115, 101] (by decide)).mono ?_
        rintro r w3 ⟨rfl, hp3, hk3⟩
        rw [HT.out] at hp3
        have HP3 : Hid (PS b c cap len s d (σ') w3) := hp3
        have HK3 : Hid (Kept b w w3) := HK2.out.trans hk3
        clear hp3 hk3
        go_wp2_with fail
        refine (expect_any HP3.out [101, 110, 100] (by decide)).mono ?_
        rintro r w4 ⟨rfl, hp4, hk4⟩
        have HP4 : Hid (PS b c cap len s d (σ'.must s [101, 110, 100]) w4) := hp4
        have HK4 : Hid (Kept b w w4) := HK3.out.trans hk4
        clear hp4 hk4
        go_wp2_with fail
        go_end0
        exact ⟨rfl, by rw [HV.out]; exact HP4.out, HK4.out⟩
      · obtain ⟨m, rfl⟩ : ∃ m, gk = m + 1 := ⟨gk - 1, by omega⟩
        have HV : Hid (Sp.run s (n + 2) .caseW d σ = Sp.run s m .expr d (σ'.step s)) := by show _ = _; rw [HR.out, caseR, hs, he, if_neg (by simp), if_pos rfl, caseE_eq _ _ _ _ he]
        have HT : Hid (σ'.take s [101, 108, 115, 101] = σ'.step s) := by show _ = _; rw [Sp.St.take, he]; rfl
        have r2 := Sp.rem_step_lt he
        clear HR
        go_wp2_with fail
        refine (sees1 HPr.out [119, 104, 101, 110] (by decide)).mono ?_
        rintro r w2 ⟨rfl, hp2, hk2⟩
        have HP2 : Hid (PS b c cap len s d (σ') w2) := hp2
        have HK2 : Hid (Kept b w w2) := HKr.out.trans hk2
        clear hp2 hk2
        go_wp2_with fail
        refine (accept1 HP2.out [101, 108, 115, 101] (by decide)).mono ?_
        rintro r w3 ⟨rfl, hp3, hk3⟩
        rw [HT.out] at hp3
        have HP3 : Hid (PS b c cap len s d (σ'.step s) w3) := hp3
        have HK3 : Hid (Kept b w w3) := HK2.out.trans hk3
        clear hp3 hk3
        go_wp2_with fail
        refine ((IH.out m (by omega)).expr d _ _ (by omega) (by show 32 * Sp.rem s _ + 9 ≤ m; omega) HP3.out).mono ?_
        rintro r w4 ⟨rfl, hp4, hk4⟩
        have HP4 : Hid (PS b c cap len s d (Sp.run s m .expr d (σ'.step s)) w4) := hp4
        have HK4 : Hid (Kept b w w4) := HK3.out.trans hk4
        clear hp4 hk4
        go_wp2_with fail
        refine (expect_any HP4.out [101, 110, 100] (by decide)).mono ?_
        rintro r w5 ⟨rfl, hp5, hk5⟩
        have HP5 : Hid (PS b c cap len s d ((Sp.run s m .expr d (σ'.step s)).must s [101, 110, 100]) w5) := hp5
        have HK5 : Hid (Kept b w w5) := HK4.out.trans hk5
        clear hp5 hk5
        go_wp2_with fail
        go_end0
        exact ⟨rfl, by rw [HV.out]; exact HP5.out, HK5.out⟩
    · have r2 := Sp.rem_step_lt hs
      obtain ⟨m, rfl⟩ : ∃ m, gk = m + 2 := ⟨gk - 2, by omega⟩
      have HV : Hid (Sp.run s (n + 2) .caseW d σ = caseR s m d (armT s (m + 1) m d σ')) := by show _ = _; rw [HR.out, caseR, hs, if_pos rfl, caseW_eq]
      have r3 := rem_armT s (m + 1) m d σ'
      rw [when_not_else hs] at r3
      clear HR
      go_wp2_with fail
      refine (sees1 HPr.out [119, 104, 101, 110] (by decide)).mono ?_
      rintro r w2 ⟨rfl, hp2, hk2⟩
      have HP2 : Hid (PS b c cap len s d (σ') w2) := hp2
      have HK2 : Hid (Kept b w w2) := HKr.out.trans hk2
      clear hp2 hk2
      go_wp2_with fail
      refine (arm_any (IH.out (m + 1) (by omega)) (IH.out m (by omega)) (by omega) (by omega) (by omega) (by omega) HP2.out).mono ?_
      rintro r w3 ⟨rfl, hp3, hk3⟩
      have HP3 : Hid (PS b c cap len s d (armT s (m + 1) m d σ') w3) := hp3
      have HK3 : Hid (Kept b w w3) := HK2.out.trans hk3
      clear hp3 hk3
      go_wp2_with fail
      go_roundg m
      case measure => omega
      case rel => exact ⟨by omega, _, by omega, HV.out, HP3.out, HK3.out⟩

end Go.Proofs.YtpgeiieapkbjhaaGreatDoor
