import Derived.Test.YtpgeiieapkbjhaaGreatDoorR10
import Derived.Deep.LoopGhost
namespace Go.Proofs.YtpgeiieapkbjhaaGreatDoor
open Go.RowKit

theorem run_dead (s : Sp.Bs) : ∀ (n : Nat) (nt : Sp.Nt) (d x a : Nat), Sp.run s n nt d (.dead x a) = .dead x a
  | 0, _, _, _, _ => rfl
  | n + 1, nt, d, x, a => by
    have ih := run_dead s n
    cases nt <;> rw [Sp.run] <;> simp [ih, Sp.St.is, Sp.St.isCl, Sp.St.isCmp, Sp.St.must, Sp.St.take, Sp.St.nameT, Sp.St.fail]

theorem RS.err {b : Nat} {s : ByteArray} {d k : Nat} {c : Ct} {σ : Sp.St} {w : World} (h : RS b s d k c σ w) : w.cell? ⟨b, 7, none⟩ = some (.int .i64 (er σ)) := by obtain ⟨_, x, hc, _⟩ := h; exact hc.c7
theorem RS.tat {b : Nat} {s : ByteArray} {d k : Nat} {c : Ct} {σ : Sp.St} {w : World} (h : RS b s d k c σ w) : ∃ t : Int, w.cell? ⟨b, 2, none⟩ = some (.int .i64 t) := by obtain ⟨_, x, hc, _⟩ := h; exact ⟨_, hc.c2⟩
theorem RS.tts {b : Nat} {s : ByteArray} {d k : Nat} {c : Ct} {σ : Sp.St} {w : World} (h : RS b s d k c σ w) : ∃ t : ByteArray, w.cell? ⟨b, 3, none⟩ = some (.string t) := by obtain ⟨_, x, hc, _⟩ := h; exact ⟨_, hc.c3⟩
theorem RS.opn {b : Nat} {s : ByteArray} {d k : Nat} {c : Ct} {σ : Sp.St} {w : World} (h : RS b s d k c σ w) : w.cell? ⟨b, 6, none⟩ = some (.int .i64 d) ∧ w.frozen? ⟨b, 6, none⟩ = false := by obtain ⟨_, x, hc, _⟩ := h; exact ⟨hc.c6, hc.fz 6⟩
theorem er_dead {b : Nat} {s : ByteArray} {d k : Nat} {c : Ct} {y a : Nat} {w : World} (h : RS b s d k c (.dead y a) w) : (((er (.dead y a) : Nat) : Int) == 0) = false := by
  obtain ⟨_, x, _, _, ht⟩ := h
  have := ht.1
  simp [er]; omega
theorem er_live {e : Nat} : (((er (.live e) : Nat) : Int) == 0) = true := rfl

/-- The contract of a part of the grammar, of the reader's. -/
def Rd (b : Nat) (s : ByteArray) (n : Nat) (nt : Sp.Nt) (f : FuncId) : Prop :=
  ∀ (d k : Nat) (c : Ct) (σ : Sp.St) (w : World), d + n ≤ 1000000 → 32 * Sp.rem s.data.toList σ + Sp.lev nt ≤ n → RS b s d k c σ w →
    Calls Tryz.prog f #[.pointer (some ⟨b, 0, none⟩)] w (RI b s d k c (Sp.run s.data.toList n nt d σ) w)
/-- .. that hands back a list. -/
def RdL (b : Nat) (s : ByteArray) (n : Nat) : Prop :=
  ∀ (d k : Nat) (c : Ct) (σ : Sp.St) (w : World), d + n ≤ 1000000 → 32 * Sp.rem s.data.toList σ + 10 ≤ n → RS b s d k c σ w →
    Calls Tryz.prog 72 #[.pointer (some ⟨b, 0, none⟩)] w fun r w' => ∃ (o : Option Addr) (m cp : Nat), r = .returned (.slice o m cp) ∧ RS b s d k c (Sp.run s.data.toList n .list d σ) w' ∧ RK b w w'
def RdW (b : Nat) (s : ByteArray) (n : Nat) : Prop :=
  ∀ (d k : Nat) (c : Ct) (σ : Sp.St) (w : World), d + n ≤ 1000000 → 32 * Sp.rem s.data.toList σ + 10 ≤ n → RS b s d k c σ w →
    Calls Tryz.prog 41 #[.pointer (some ⟨b, 0, none⟩)] w fun r w' => ∃ p q : Int, r = .returned (.tuple #[.int .i64 p, .int .i64 q]) ∧ RS b s d k c (Sp.run s.data.toList n .where_ d σ) w' ∧ RK b w w'

structure RAll (b : Nat) (s : ByteArray) (n : Nat) : Prop where
  expr : Rd b s n .expr 73
  both : Rd b s n .both 105
  no : Rd b s n .no 119
  compare : Rd b s n .compare 130
  sum : Rd b s n .sum 140
  product : Rd b s n .product 148
  unary : Rd b s n .unary 151
  atom : Rd b s n .atom 154
  query : Rd b s n .query 39
  term : Rd b s n .term 69
  factor : Rd b s n .factor 104
  list : RdL b s n
  where_ : RdW b s n

set_option maxHeartbeats 2000000 in
theorem rexpr_step {b : Nat} {s : ByteArray} {n : Nat} (IH : Hid (∀ m, m ≤ n → RAll b s m)) : Rd b s (n + 1) .expr 73 := by
  intro d k c σ w hd hm hp
  have hr := Sp.rem_run s.data.toList n .both d σ
  have hm' : 32 * Sp.rem s.data.toList σ + 9 ≤ n + 1 := hm
  clear hm
  have HP : Hid (RS b s d k c σ w) := hp
  clear hp
  go_enter Tryz.func73, Tryz.ntmps73
  go_wp2_with fail
  refine ((IH.out n (Nat.le_refl _)).both d k c σ _ (by omega) (by show 32 * Sp.rem s.data.toList σ + 8 ≤ n; omega) HP.out).mono ?_
  rintro r w1 ⟨q1, rfl, hp1, hk1⟩
  have HP1 : Hid (RS b s d (k) c (Sp.run s.data.toList n .both d σ) w1) := hp1
  have HK1 : Hid (RK b w w1) := hk1
  clear hp1 hk1
  go_wp2_with fail
  go_loopg [3] n (fun m u0 wr => m ≤ n ∧ ∃ (q : Int) (σ' : Sp.St), u0 = .int .i64 q ∧ 32 * Sp.rem s.data.toList σ' + 1 ≤ m ∧ Hid (Sp.run s.data.toList (n + 1) .expr d σ = Sp.run s.data.toList m .orL d σ') ∧ Hid (RS b s d k c σ' wr) ∧ Hid (RK b w wr))
  case atStart => exact ⟨Nat.le_refl _, _, _, rfl, by omega, rfl, HP1.out, HK1.out⟩
  case round =>
    obtain ⟨hmn, q, σ', rfl, hms, HR, HPr, HKr⟩ := hrel
    obtain ⟨m, rfl⟩ : ∃ m, gk = m + 1 := ⟨gk - 1, by omega⟩
    have c7 := HPr.out.err
    cases hs : σ'.is s.data.toList [111, 114]
    · have HV : Hid (Sp.run s.data.toList (m + 1) .orL d σ' = σ') := by show _ = _; rw [Sp.run, hs]; rfl
      cases σ' with
      | dead y a =>
        have hz := er_dead HPr.out
        clear hs
        go_wp2_with fail
        go_ret
        exact ⟨_, rfl, by rw [HR.out, HV.out]; exact HPr.out, HKr.out⟩
      | live e =>
        have hz : (((er (.live e) : Nat) : Int) == 0) = true := rfl
        go_wp2_with fail
        refine (ris_any HPr.out [111, 114]).mono ?_
        rintro r w9 ⟨rfl, rfl⟩
        go_wp2_with fail
        go_ret
        exact ⟨_, rfl, by rw [HR.out, HV.out]; exact HPr.out, HKr.out⟩
    · have HV : Hid (Sp.run s.data.toList (m + 1) .orL d σ' = Sp.run s.data.toList m .orL d (Sp.run s.data.toList m .both d (σ'.step s.data.toList))) := by show _ = _; rw [Sp.run, hs]; rfl
      have h1 := Sp.rem_step_lt hs
      have h2 := Sp.rem_run s.data.toList m .both d (σ'.step s.data.toList)
      obtain ⟨ta, c2⟩ := HPr.out.tat
      obtain ⟨ts, c3⟩ := HPr.out.tts
      have hz : (((er σ' : Nat) : Int) == 0) = true := by obtain ⟨e, rfl, _⟩ := is_live hs; rfl
      have HS : Hid (σ'.is s.data.toList [111, 114] = true) := hs
      go_wp2_with fail
      refine (ris_any HPr.out [111, 114]).mono ?_
      rintro r w9 ⟨rfl, rfl⟩
      go_wp2_with fail
      refine (rstep_is HPr.out HS.out).mono ?_
      rintro r w2 ⟨rfl, hp2, hk2⟩
      have HP2 : Hid (RS b s d (k + 1) c (σ'.step s.data.toList) w2) := hp2
      have HK2 : Hid (RK b w w2) := HKr.out.trans hk2
      clear hp2 hk2
      go_wp2_with fail
      refine ((IH.out m (by omega)).both d (k + 1) c _ _ (by omega) (by show 32 * Sp.rem s.data.toList _ + 8 ≤ m; omega) HP2.out).mono ?_
      rintro r w3 ⟨q3, rfl, hp3, hk3⟩
      have HP3 : Hid (RS b s d (k + 1) c (Sp.run s.data.toList m .both d (σ'.step s.data.toList)) w3) := hp3
      have HK3 : Hid (RK b w w3) := HK2.out.trans hk3
      clear hp3 hk3
      go_wp2_with fail
      refine (rpair_any HP3.out _ _ _ _).mono ?_
      rintro r w4 ⟨q4, rfl, hp4, hk4⟩
      have HP4 : Hid (RS b s d (k) c (Sp.run s.data.toList m .both d (σ'.step s.data.toList)) w4) := hp4
      have HK4 : Hid (RK b w w4) := HK3.out.trans hk4
      clear hp4 hk4
      go_wp2_with fail
      go_roundg m
      case measure => omega
      case rel => exact ⟨by omega, _, _, rfl, by omega, by show _ = _; rw [HR.out, HV.out], HP4.out, HK4.out⟩

set_option maxHeartbeats 2000000 in
theorem rboth_step {b : Nat} {s : ByteArray} {n : Nat} (IH : Hid (∀ m, m ≤ n → RAll b s m)) : Rd b s (n + 1) .both 105 := by
  intro d k c σ w hd hm hp
  have hr := Sp.rem_run s.data.toList n .no d σ
  have hm' : 32 * Sp.rem s.data.toList σ + 8 ≤ n + 1 := hm
  clear hm
  have HP : Hid (RS b s d k c σ w) := hp
  clear hp
  go_enter Tryz.func105, Tryz.ntmps105
  go_wp2_with fail
  refine ((IH.out n (Nat.le_refl _)).no d k c σ _ (by omega) (by show 32 * Sp.rem s.data.toList σ + 7 ≤ n; omega) HP.out).mono ?_
  rintro r w1 ⟨q1, rfl, hp1, hk1⟩
  have HP1 : Hid (RS b s d (k) c (Sp.run s.data.toList n .no d σ) w1) := hp1
  have HK1 : Hid (RK b w w1) := hk1
  clear hp1 hk1
  go_wp2_with fail
  go_loopg [3] n (fun m u0 wr => m ≤ n ∧ ∃ (q : Int) (σ' : Sp.St), u0 = .int .i64 q ∧ 32 * Sp.rem s.data.toList σ' + 1 ≤ m ∧ Hid (Sp.run s.data.toList (n + 1) .both d σ = Sp.run s.data.toList m .andL d σ') ∧ Hid (RS b s d k c σ' wr) ∧ Hid (RK b w wr))
  case atStart => exact ⟨Nat.le_refl _, _, _, rfl, by omega, rfl, HP1.out, HK1.out⟩
  case round =>
    obtain ⟨hmn, q, σ', rfl, hms, HR, HPr, HKr⟩ := hrel
    obtain ⟨m, rfl⟩ : ∃ m, gk = m + 1 := ⟨gk - 1, by omega⟩
    have c7 := HPr.out.err
    cases hs : σ'.is s.data.toList [97, 110, 100]
    · have HV : Hid (Sp.run s.data.toList (m + 1) .andL d σ' = σ') := by show _ = _; rw [Sp.run, hs]; rfl
      cases σ' with
      | dead y a =>
        have hz := er_dead HPr.out
        clear hs
        go_wp2_with fail
        go_ret
        exact ⟨_, rfl, by rw [HR.out, HV.out]; exact HPr.out, HKr.out⟩
      | live e =>
        have hz : (((er (.live e) : Nat) : Int) == 0) = true := rfl
        go_wp2_with fail
        refine (ris_any HPr.out [97, 110, 100]).mono ?_
        rintro r w9 ⟨rfl, rfl⟩
        go_wp2_with fail
        go_ret
        exact ⟨_, rfl, by rw [HR.out, HV.out]; exact HPr.out, HKr.out⟩
    · have HV : Hid (Sp.run s.data.toList (m + 1) .andL d σ' = Sp.run s.data.toList m .andL d (Sp.run s.data.toList m .no d (σ'.step s.data.toList))) := by show _ = _; rw [Sp.run, hs]; rfl
      have h1 := Sp.rem_step_lt hs
      have h2 := Sp.rem_run s.data.toList m .no d (σ'.step s.data.toList)
      obtain ⟨ta, c2⟩ := HPr.out.tat
      obtain ⟨ts, c3⟩ := HPr.out.tts
      have hz : (((er σ' : Nat) : Int) == 0) = true := by obtain ⟨e, rfl, _⟩ := is_live hs; rfl
      have HS : Hid (σ'.is s.data.toList [97, 110, 100] = true) := hs
      go_wp2_with fail
      refine (ris_any HPr.out [97, 110, 100]).mono ?_
      rintro r w9 ⟨rfl, rfl⟩
      go_wp2_with fail
      refine (rstep_is HPr.out HS.out).mono ?_
      rintro r w2 ⟨rfl, hp2, hk2⟩
      have HP2 : Hid (RS b s d (k + 1) c (σ'.step s.data.toList) w2) := hp2
      have HK2 : Hid (RK b w w2) := HKr.out.trans hk2
      clear hp2 hk2
      go_wp2_with fail
      refine ((IH.out m (by omega)).no d (k + 1) c _ _ (by omega) (by show 32 * Sp.rem s.data.toList _ + 7 ≤ m; omega) HP2.out).mono ?_
      rintro r w3 ⟨q3, rfl, hp3, hk3⟩
      have HP3 : Hid (RS b s d (k + 1) c (Sp.run s.data.toList m .no d (σ'.step s.data.toList)) w3) := hp3
      have HK3 : Hid (RK b w w3) := HK2.out.trans hk3
      clear hp3 hk3
      go_wp2_with fail
      refine (rpair_any HP3.out _ _ _ _).mono ?_
      rintro r w4 ⟨q4, rfl, hp4, hk4⟩
      have HP4 : Hid (RS b s d (k) c (Sp.run s.data.toList m .no d (σ'.step s.data.toList)) w4) := hp4
      have HK4 : Hid (RK b w w4) := HK3.out.trans hk4
      clear hp4 hk4
      go_wp2_with fail
      go_roundg m
      case measure => omega
      case rel => exact ⟨by omega, _, _, rfl, by omega, by show _ = _; rw [HR.out, HV.out], HP4.out, HK4.out⟩

set_option maxHeartbeats 2000000 in
theorem rsum_step {b : Nat} {s : ByteArray} {n : Nat} (IH : Hid (∀ m, m ≤ n → RAll b s m)) : Rd b s (n + 1) .sum 140 := by
  intro d k c σ w hd hm hp
  have hr := Sp.rem_run s.data.toList n .product d σ
  have hm' : 32 * Sp.rem s.data.toList σ + 5 ≤ n + 1 := hm
  clear hm
  have HP : Hid (RS b s d k c σ w) := hp
  clear hp
  go_enter Tryz.func140, Tryz.ntmps140
  go_wp2_with fail
  refine ((IH.out n (Nat.le_refl _)).product d k c σ _ (by omega) (by show 32 * Sp.rem s.data.toList σ + 4 ≤ n; omega) HP.out).mono ?_
  rintro r w1 ⟨q1, rfl, hp1, hk1⟩
  have HP1 : Hid (RS b s d (k) c (Sp.run s.data.toList n .product d σ) w1) := hp1
  have HK1 : Hid (RK b w w1) := hk1
  clear hp1 hk1
  go_wp2_with fail
  go_loopg [3] n (fun m u0 wr => m ≤ n ∧ ∃ (q : Int) (σ' : Sp.St), u0 = .int .i64 q ∧ 32 * Sp.rem s.data.toList σ' + 1 ≤ m ∧ Hid (Sp.run s.data.toList (n + 1) .sum d σ = Sp.run s.data.toList m .sumL d σ') ∧ Hid (RS b s d k c σ' wr) ∧ Hid (RK b w wr))
  case atStart => exact ⟨Nat.le_refl _, _, _, rfl, by omega, rfl, HP1.out, HK1.out⟩
  case round =>
    obtain ⟨hmn, q, σ', rfl, hms, HR, HPr, HKr⟩ := hrel
    obtain ⟨m, rfl⟩ : ∃ m, gk = m + 1 := ⟨gk - 1, by omega⟩
    have c7 := HPr.out.err
    cases hs : (σ'.is s.data.toList [43] || σ'.is s.data.toList [45])
    · have HV : Hid (Sp.run s.data.toList (m + 1) .sumL d σ' = σ') := by show _ = _; rw [Sp.run, hs]; rfl
      cases σ' with
      | dead y a =>
        have hz := er_dead HPr.out
        clear hs
        go_wp2_with fail
        go_ret
        exact ⟨_, rfl, by rw [HR.out, HV.out]; exact HPr.out, HKr.out⟩
      | live e =>
        have hz : (((er (.live e) : Nat) : Int) == 0) = true := rfl
        obtain ⟨hs1, hs2⟩ := Bool.or_eq_false_iff.1 hs
        clear hs
        go_wp2_with fail
        refine (ris_any HPr.out [43]).mono ?_
        rintro r w9 ⟨rfl, rfl⟩
        go_wp2_with fail
        refine (ris_any HPr.out [45]).mono ?_
        rintro r w9 ⟨rfl, rfl⟩
        go_wp2_with fail
        go_ret
        exact ⟨_, rfl, by rw [HR.out, HV.out]; exact HPr.out, HKr.out⟩
    · cases hs1 : σ'.is s.data.toList [43]
      · have hs2 : σ'.is s.data.toList [45] = true := by rw [hs1] at hs; exact hs
        have HV : Hid (Sp.run s.data.toList (m + 1) .sumL d σ' = Sp.run s.data.toList m .sumL d (Sp.run s.data.toList m .product d (σ'.step s.data.toList))) := by show _ = _; rw [Sp.run, hs]; rfl
        have h1 := Sp.rem_step_lt hs2
        have h2 := Sp.rem_run s.data.toList m .product d (σ'.step s.data.toList)
        obtain ⟨ta, c2⟩ := HPr.out.tat
        obtain ⟨ts, c3⟩ := HPr.out.tts
        have hz : (((er σ' : Nat) : Int) == 0) = true := by obtain ⟨e, rfl, _⟩ := is_live hs2; rfl
        have HS : Hid (σ'.is s.data.toList [45] = true) := hs2
        clear hs
        go_wp2_with fail
        refine (ris_any HPr.out [43]).mono ?_
        rintro r w9 ⟨rfl, rfl⟩
        go_wp2_with fail
        refine (ris_any HPr.out [45]).mono ?_
        rintro r w9 ⟨rfl, rfl⟩
        go_wp2_with fail
        refine (rstep_is HPr.out HS.out).mono ?_
        rintro r w2 ⟨rfl, hp2, hk2⟩
        have HP2 : Hid (RS b s d (k + 1) c (σ'.step s.data.toList) w2) := hp2
        have HK2 : Hid (RK b w w2) := HKr.out.trans hk2
        clear hp2 hk2
        go_wp2_with fail
        refine ((IH.out m (by omega)).product d (k + 1) c _ _ (by omega) (by show 32 * Sp.rem s.data.toList _ + 4 ≤ m; omega) HP2.out).mono ?_
        rintro r w3 ⟨q3, rfl, hp3, hk3⟩
        have HP3 : Hid (RS b s d (k + 1) c (Sp.run s.data.toList m .product d (σ'.step s.data.toList)) w3) := hp3
        have HK3 : Hid (RK b w w3) := HK2.out.trans hk3
        clear hp3 hk3
        go_wp2_with fail
        refine (rpair_any HP3.out _ _ _ _).mono ?_
        rintro r w4 ⟨q4, rfl, hp4, hk4⟩
        have HP4 : Hid (RS b s d (k) c (Sp.run s.data.toList m .product d (σ'.step s.data.toList)) w4) := hp4
        have HK4 : Hid (RK b w w4) := HK3.out.trans hk4
        clear hp4 hk4
        go_wp2_with fail
        go_roundg m
        case measure => omega
        case rel => exact ⟨by omega, _, _, rfl, by omega, by show _ = _; rw [HR.out, HV.out], HP4.out, HK4.out⟩
      · have HV : Hid (Sp.run s.data.toList (m + 1) .sumL d σ' = Sp.run s.data.toList m .sumL d (Sp.run s.data.toList m .product d (σ'.step s.data.toList))) := by show _ = _; rw [Sp.run, hs]; rfl
        have h1 := Sp.rem_step_lt hs1
        have h2 := Sp.rem_run s.data.toList m .product d (σ'.step s.data.toList)
        obtain ⟨ta, c2⟩ := HPr.out.tat
        obtain ⟨ts, c3⟩ := HPr.out.tts
        have hz : (((er σ' : Nat) : Int) == 0) = true := by obtain ⟨e, rfl, _⟩ := is_live hs1; rfl
        have HS : Hid (σ'.is s.data.toList [43] = true) := hs1
        clear hs
        go_wp2_with fail
        refine (ris_any HPr.out [43]).mono ?_
        rintro r w9 ⟨rfl, rfl⟩
        go_wp2_with fail
        refine (rstep_is HPr.out HS.out).mono ?_
        rintro r w2 ⟨rfl, hp2, hk2⟩
        have HP2 : Hid (RS b s d (k + 1) c (σ'.step s.data.toList) w2) := hp2
        have HK2 : Hid (RK b w w2) := HKr.out.trans hk2
        clear hp2 hk2
        go_wp2_with fail
        refine ((IH.out m (by omega)).product d (k + 1) c _ _ (by omega) (by show 32 * Sp.rem s.data.toList _ + 4 ≤ m; omega) HP2.out).mono ?_
        rintro r w3 ⟨q3, rfl, hp3, hk3⟩
        have HP3 : Hid (RS b s d (k + 1) c (Sp.run s.data.toList m .product d (σ'.step s.data.toList)) w3) := hp3
        have HK3 : Hid (RK b w w3) := HK2.out.trans hk3
        clear hp3 hk3
        go_wp2_with fail
        refine (rpair_any HP3.out _ _ _ _).mono ?_
        rintro r w4 ⟨q4, rfl, hp4, hk4⟩
        have HP4 : Hid (RS b s d (k) c (Sp.run s.data.toList m .product d (σ'.step s.data.toList)) w4) := hp4
        have HK4 : Hid (RK b w w4) := HK3.out.trans hk4
        clear hp4 hk4
        go_wp2_with fail
        go_roundg m
        case measure => omega
        case rel => exact ⟨by omega, _, _, rfl, by omega, by show _ = _; rw [HR.out, HV.out], HP4.out, HK4.out⟩

set_option maxHeartbeats 2000000 in
theorem rproduct_step {b : Nat} {s : ByteArray} {n : Nat} (IH : Hid (∀ m, m ≤ n → RAll b s m)) : Rd b s (n + 1) .product 148 := by
  intro d k c σ w hd hm hp
  have hr := Sp.rem_run s.data.toList n .unary d σ
  have hm' : 32 * Sp.rem s.data.toList σ + 4 ≤ n + 1 := hm
  clear hm
  have HP : Hid (RS b s d k c σ w) := hp
  clear hp
  go_enter Tryz.func148, Tryz.ntmps148
  go_wp2_with fail
  refine ((IH.out n (Nat.le_refl _)).unary d k c σ _ (by omega) (by show 32 * Sp.rem s.data.toList σ + 3 ≤ n; omega) HP.out).mono ?_
  rintro r w1 ⟨q1, rfl, hp1, hk1⟩
  have HP1 : Hid (RS b s d (k) c (Sp.run s.data.toList n .unary d σ) w1) := hp1
  have HK1 : Hid (RK b w w1) := hk1
  clear hp1 hk1
  go_wp2_with fail
  go_loopg [3] n (fun m u0 wr => m ≤ n ∧ ∃ (q : Int) (σ' : Sp.St), u0 = .int .i64 q ∧ 32 * Sp.rem s.data.toList σ' + 1 ≤ m ∧ Hid (Sp.run s.data.toList (n + 1) .product d σ = Sp.run s.data.toList m .prodL d σ') ∧ Hid (RS b s d k c σ' wr) ∧ Hid (RK b w wr))
  case atStart => exact ⟨Nat.le_refl _, _, _, rfl, by omega, rfl, HP1.out, HK1.out⟩
  case round =>
    obtain ⟨hmn, q, σ', rfl, hms, HR, HPr, HKr⟩ := hrel
    obtain ⟨m, rfl⟩ : ∃ m, gk = m + 1 := ⟨gk - 1, by omega⟩
    have c7 := HPr.out.err
    cases hs : (σ'.is s.data.toList [42] || σ'.is s.data.toList [47])
    · have HV : Hid (Sp.run s.data.toList (m + 1) .prodL d σ' = σ') := by show _ = _; rw [Sp.run, hs]; rfl
      cases σ' with
      | dead y a =>
        have hz := er_dead HPr.out
        clear hs
        go_wp2_with fail
        go_ret
        exact ⟨_, rfl, by rw [HR.out, HV.out]; exact HPr.out, HKr.out⟩
      | live e =>
        have hz : (((er (.live e) : Nat) : Int) == 0) = true := rfl
        obtain ⟨hs1, hs2⟩ := Bool.or_eq_false_iff.1 hs
        clear hs
        go_wp2_with fail
        refine (ris_any HPr.out [42]).mono ?_
        rintro r w9 ⟨rfl, rfl⟩
        go_wp2_with fail
        refine (ris_any HPr.out [47]).mono ?_
        rintro r w9 ⟨rfl, rfl⟩
        go_wp2_with fail
        go_ret
        exact ⟨_, rfl, by rw [HR.out, HV.out]; exact HPr.out, HKr.out⟩
    · cases hs1 : σ'.is s.data.toList [42]
      · have hs2 : σ'.is s.data.toList [47] = true := by rw [hs1] at hs; exact hs
        have HV : Hid (Sp.run s.data.toList (m + 1) .prodL d σ' = Sp.run s.data.toList m .prodL d (Sp.run s.data.toList m .unary d (σ'.step s.data.toList))) := by show _ = _; rw [Sp.run, hs]; rfl
        have h1 := Sp.rem_step_lt hs2
        have h2 := Sp.rem_run s.data.toList m .unary d (σ'.step s.data.toList)
        obtain ⟨ta, c2⟩ := HPr.out.tat
        obtain ⟨ts, c3⟩ := HPr.out.tts
        have hz : (((er σ' : Nat) : Int) == 0) = true := by obtain ⟨e, rfl, _⟩ := is_live hs2; rfl
        have HS : Hid (σ'.is s.data.toList [47] = true) := hs2
        clear hs
        go_wp2_with fail
        refine (ris_any HPr.out [42]).mono ?_
        rintro r w9 ⟨rfl, rfl⟩
        go_wp2_with fail
        refine (ris_any HPr.out [47]).mono ?_
        rintro r w9 ⟨rfl, rfl⟩
        go_wp2_with fail
        refine (rstep_is HPr.out HS.out).mono ?_
        rintro r w2 ⟨rfl, hp2, hk2⟩
        have HP2 : Hid (RS b s d (k + 1) c (σ'.step s.data.toList) w2) := hp2
        have HK2 : Hid (RK b w w2) := HKr.out.trans hk2
        clear hp2 hk2
        go_wp2_with fail
        refine ((IH.out m (by omega)).unary d (k + 1) c _ _ (by omega) (by show 32 * Sp.rem s.data.toList _ + 3 ≤ m; omega) HP2.out).mono ?_
        rintro r w3 ⟨q3, rfl, hp3, hk3⟩
        have HP3 : Hid (RS b s d (k + 1) c (Sp.run s.data.toList m .unary d (σ'.step s.data.toList)) w3) := hp3
        have HK3 : Hid (RK b w w3) := HK2.out.trans hk3
        clear hp3 hk3
        go_wp2_with fail
        refine (rpair_any HP3.out _ _ _ _).mono ?_
        rintro r w4 ⟨q4, rfl, hp4, hk4⟩
        have HP4 : Hid (RS b s d (k) c (Sp.run s.data.toList m .unary d (σ'.step s.data.toList)) w4) := hp4
        have HK4 : Hid (RK b w w4) := HK3.out.trans hk4
        clear hp4 hk4
        go_wp2_with fail
        go_roundg m
        case measure => omega
        case rel => exact ⟨by omega, _, _, rfl, by omega, by show _ = _; rw [HR.out, HV.out], HP4.out, HK4.out⟩
      · have HV : Hid (Sp.run s.data.toList (m + 1) .prodL d σ' = Sp.run s.data.toList m .prodL d (Sp.run s.data.toList m .unary d (σ'.step s.data.toList))) := by show _ = _; rw [Sp.run, hs]; rfl
        have h1 := Sp.rem_step_lt hs1
        have h2 := Sp.rem_run s.data.toList m .unary d (σ'.step s.data.toList)
        obtain ⟨ta, c2⟩ := HPr.out.tat
        obtain ⟨ts, c3⟩ := HPr.out.tts
        have hz : (((er σ' : Nat) : Int) == 0) = true := by obtain ⟨e, rfl, _⟩ := is_live hs1; rfl
        have HS : Hid (σ'.is s.data.toList [42] = true) := hs1
        clear hs
        go_wp2_with fail
        refine (ris_any HPr.out [42]).mono ?_
        rintro r w9 ⟨rfl, rfl⟩
        go_wp2_with fail
        refine (rstep_is HPr.out HS.out).mono ?_
        rintro r w2 ⟨rfl, hp2, hk2⟩
        have HP2 : Hid (RS b s d (k + 1) c (σ'.step s.data.toList) w2) := hp2
        have HK2 : Hid (RK b w w2) := HKr.out.trans hk2
        clear hp2 hk2
        go_wp2_with fail
        refine ((IH.out m (by omega)).unary d (k + 1) c _ _ (by omega) (by show 32 * Sp.rem s.data.toList _ + 3 ≤ m; omega) HP2.out).mono ?_
        rintro r w3 ⟨q3, rfl, hp3, hk3⟩
        have HP3 : Hid (RS b s d (k + 1) c (Sp.run s.data.toList m .unary d (σ'.step s.data.toList)) w3) := hp3
        have HK3 : Hid (RK b w w3) := HK2.out.trans hk3
        clear hp3 hk3
        go_wp2_with fail
        refine (rpair_any HP3.out _ _ _ _).mono ?_
        rintro r w4 ⟨q4, rfl, hp4, hk4⟩
        have HP4 : Hid (RS b s d (k) c (Sp.run s.data.toList m .unary d (σ'.step s.data.toList)) w4) := hp4
        have HK4 : Hid (RK b w w4) := HK3.out.trans hk4
        clear hp4 hk4
        go_wp2_with fail
        go_roundg m
        case measure => omega
        case rel => exact ⟨by omega, _, _, rfl, by omega, by show _ = _; rw [HR.out, HV.out], HP4.out, HK4.out⟩

end Go.Proofs.YtpgeiieapkbjhaaGreatDoor
