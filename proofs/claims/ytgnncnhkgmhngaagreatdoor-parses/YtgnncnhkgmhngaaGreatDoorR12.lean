import Derived.Test.YtgnncnhkgmhngaaGreatDoorR10
import Derived.Deep.LoopGhost
namespace Go.Proofs.YtgnncnhkgmhngaaGreatDoor
open Go.RowKit

theorem run_dead (s : Sp.Bs) : ∀ (n : Nat) (nt : Sp.Nt) (d x a : Nat), Sp.run s n nt d (.dead x a) = .dead x a
  | 0, _, _, _, _ => rfl
  | n + 1, nt, d, x, a => by
    have ih := run_dead s n
    cases nt <;> rw [Sp.run] <;> simp [ih, Sp.St.is, Sp.St.isCl, Sp.St.isCmp, Sp.St.must, Sp.St.take, Sp.St.nameT, Sp.St.fail]

theorem RS.err {b : Nat} {s : ByteArray} {d k : Nat} {c : Ct} {σ : Sp.St} {w : World} (h : RS b s d k c σ w) : w.cell? ⟨b, 7, none⟩ = some (.int .i64 (er σ)) := by obtain ⟨_, x, hc, _⟩ := h; exact hc.c7
theorem RS.tat {b : Nat} {s : ByteArray} {d k : Nat} {c : Ct} {σ : Sp.St} {w : World} (h : RS b s d k c σ w) : ∃ t : Int, w.cell? ⟨b, 2, none⟩ = some (.int .i64 t) := by obtain ⟨_, x, hc, _⟩ := h; exact ⟨_, hc.c2⟩
theorem RS.tts {b : Nat} {s : ByteArray} {d k : Nat} {c : Ct} {σ : Sp.St} {w : World} (h : RS b s d k c σ w) : ∃ t : ByteArray, w.cell? ⟨b, 3, none⟩ = some (.string t) := by obtain ⟨_, x, hc, _⟩ := h; exact ⟨_, hc.c3⟩
theorem RS.opn {b : Nat} {s : ByteArray} {d k : Nat} {c : Ct} {σ : Sp.St} {w : World} (h : RS b s d k c σ w) : w.cell? ⟨b, 6, none⟩ = some (.int .i64 d) ∧ w.frozen? ⟨b, 6, none⟩ = false := by obtain ⟨_, x, hc, _⟩ := h; exact ⟨hc.c6, hc.fz 6⟩
theorem er_dead {b : Nat} {s : ByteArray} {d k : Nat} {c : Ct} {y a : Nat} {w : World} (h : RS b s d k c (.dead y a) w) : (((er (.dead y a) : Nat) : Int) == 0) = false := by
  obtain ⟨_, x, _, _, ht⟩ := h
  have := ht.1
  simp [er]; omega
theorem er_live {e : Nat} : (((er (.live e) : Nat) : Int) == 0) = true := rfl

/-- The contract of a part of the grammar, of the reader's. -/
def Rd (b : Nat) (s : ByteArray) (n : Nat) (nt : Sp.Nt) (f : FuncId) : Prop :=
  ∀ (d k : Nat) (c : Ct) (σ : Sp.St) (w : World), d + n ≤ 1000000 → 32 * Sp.rem s.data.toList σ + Sp.lev nt ≤ n → RS b s d k c σ w →
    Calls Tryz.prog f #[.pointer (some ⟨b, 0, none⟩)] w (RI b s d k c (Sp.run s.data.toList n nt d σ) w)
/-- .. that hands back a list. -/
def RdL (b : Nat) (s : ByteArray) (n : Nat) : Prop :=
  ∀ (d k : Nat) (c : Ct) (σ : Sp.St) (w : World), d + n ≤ 1000000 → 32 * Sp.rem s.data.toList σ + 10 ≤ n → RS b s d k c σ w →
    Calls Tryz.prog 112 #[.pointer (some ⟨b, 0, none⟩)] w fun r w' => ∃ (o : Option Addr) (m cp : Nat), r = .returned (.slice o m cp) ∧ RS b s d k c (Sp.run s.data.toList n .list d σ) w' ∧ RK b w w'
def RdW (b : Nat) (s : ByteArray) (n : Nat) : Prop :=
  ∀ (d k : Nat) (c : Ct) (σ : Sp.St) (w : World), d + n ≤ 1000000 → 32 * Sp.rem s.data.toList σ + 10 ≤ n → RS b s d k c σ w →
    Calls Tryz.prog 70 #[.pointer (some ⟨b, 0, none⟩)] w fun r w' => ∃ p q : Int, r = .returned (.tuple #[.int .i64 p, .int .i64 q]) ∧ RS b s d k c (Sp.run s.data.toList n .where_ d σ) w' ∧ RK b w w'

structure RAll (b : Nat) (s : ByteArray) (n : Nat) : Prop where
  expr : Rd b s n .expr 113
  both : Rd b s n .both 169
  no : Rd b s n .no 207
  compare : Rd b s n .compare 245
  sum : Rd b s n .sum 276
  product : Rd b s n .product 306
  unary : Rd b s n .unary 322
  atom : Rd b s n .atom 326
  query : Rd b s n .query 68
  term : Rd b s n .term 109
  factor : Rd b s n .factor 168
  list : RdL b s n
  where_ : RdW b s n

set_option maxHeartbeats 2000000 in
theorem rexpr_step {b : Nat} {s : ByteArray} {n : Nat} (IH : Hid (∀ m, m ≤ n → RAll b s m)) : Rd b s (n + 1) .expr 113 := by
  intro d k c σ w hd hm hp
  have hr := Sp.rem_run s.data.toList n .both d σ
  have hm' : 32 * Sp.rem s.data.toList σ + 9 ≤ n + 1 := hm
  clear hm
  have HP : Hid (RS b s d k c σ w) := hp
  clear hp
  go_enter Tryz.func113, Tryz.ntmps113
  go_wp2_with fail
  refine ((IH.out n (Nat.le_refl _)).both d k c σ _ (by omega) (by show 32 * Sp.rem s.data.toList σ + 8 ≤ n; omega) HP.out).mono ?_
  rintro r w1 ⟨q1, rfl, hp1, hk1⟩
  have HP1 : Hid (RS b s d (k) c (Sp.run s.data.toList n .both d σ) w1) := hp1
  have HK1 : Hid (RK b w w1) := hk1
  clear hp1 hk1
  go_wp2_with fail
  go_loopg [3] n (fun m u0 wr => m ≤ n ∧ ∃ (q : Int) (σ' : Sp.St), u0 = .int .i64 q ∧ 32 * Sp.rem s.data.toList σ' + 1 ≤ m ∧ Hid (Sp.run s.data.toList (n + 1) .expr d σ = Sp.run s.data.toList m .orL d σ') ∧ Hid (RS b s d k c σ' wr) ∧ Hid (RK b w wr))
  case atStart => exact ⟨Nat.le_refl _, _, _, rfl, by omega, rfl, HP1.out, HK1.out⟩
  case round =>
    obtain ⟨hmn, q, σ', rfl, hms, HR, HPr, HKr⟩ := hrel
    obtain ⟨m, rfl⟩ : ∃ m, gk = m + 1 := ⟨gk - 1, by omega⟩
    have c7 := HPr.out.err
    cases hs : σ'.is s.data.toList [111, 114]
    · have HV : Hid (Sp.run s.data.toList (m + 1) .orL d σ' = σ') := by show _ = _; rw [Sp.run, hs]; rfl
      cases σ' with
      | dead y a =>
        have hz := er_dead HPr.out
        clear hs
        go_wp2_with fail
        go_ret
        exact ⟨_, rfl, by rw [HR.out, HV.out]; exact HPr.out, HKr.out⟩
      | live e =>
        have hz : (((er (.live e) : Nat) : Int) == 0) = true := rfl
        go_wp2_with fail
        refine (ris_any HPr.out [111, 114]).mono ?_
        rintro r w9 ⟨rfl, rfl⟩
        go_wp2_with fail
        go_ret
        exact ⟨_, rfl, by rw [HR.out, HV.out]; exact HPr.out, HKr.out⟩
    · have HV : Hid (Sp.run s.data.toList (m + 1) .orL d σ' = Sp.run s.data.toList m .orL d (Sp.run s.data.toList m .both d (σ'.step s.data.toList))) := by show _ = _; rw [Sp.run, hs]; rfl
      have h1 := Sp.rem_step_lt hs
      have h2 := Sp.rem_run s.data.toList m .both d (σ'.step s.data.toList)
      obtain ⟨ta, c2⟩ := HPr.out.tat
      obtain ⟨ts, c3⟩ := HPr.out.tts
      have hz : (((er σ' : Nat) : Int) == 0) = true := by obtain ⟨e, rfl, _⟩ := is_live hs; rfl
      have HS : Hid (σ'.is s.data.toList [111, 114] = true) := hs
      go_wp2_with fail
      refine (ris_any HPr.out [111, 114]).mono ?_
      rintro r w9 ⟨rfl, rfl⟩
      go_wp2_with fail
      refine (rstep_is HPr.out HS.out).mono ?_
      rintro r w2 ⟨rfl, hp2, hk2⟩
      have HP2 : Hid (RS b s d (k + 1) c (σ'.step s.data.toList) w2) := hp2
      have HK2 : Hid (RK b w w2) := HKr.out.trans hk2
      clear hp2 hk2
      go_wp2_with fail
      refine ((IH.out m (by omega)).both d (k + 1) c _ _ (by omega) (by show 32 * Sp.rem s.data.toList _ + 8 ≤ m; omega) HP2.out).mono ?_
      rintro r w3 ⟨q3, rfl, hp3, hk3⟩
      have HP3 : Hid (RS b s d (k + 1) c (Sp.run s.data.toList m .both d (σ'.step s.data.toList)) w3) := hp3
      have HK3 : Hid (RK b w w3) := HK2.out.trans hk3
      clear hp3 hk3
      go_wp2_with fail
      refine (rpair_any HP3.out _ _ _ _).mono ?_
      rintro r w4 ⟨q4, rfl, hp4, hk4⟩
      have HP4 : Hid (RS b s d (k) c (Sp.run s.data.toList m .both d (σ'.step s.data.toList)) w4) := hp4
      have HK4 : Hid (RK b w w4) := HK3.out.trans hk4
      clear hp4 hk4
      go_wp2_with fail
      go_roundg m
      case measure => omega
      case rel => exact ⟨by omega, _, _, rfl, by omega, by show _ = _; rw [HR.out, HV.out], HP4.out, HK4.out⟩

set_option maxHeartbeats 2000000 in
theorem rboth_step {b : Nat} {s : ByteArray} {n : Nat} (IH : Hid (∀ m, m ≤ n → RAll b s m)) : Rd b s (n + 1) .both 169 := by
  intro d k c σ w hd hm hp
  have hr := Sp.rem_run s.data.toList n .no d σ
  have hm' : 32 * Sp.rem s.data.toList σ + 8 ≤ n + 1 := hm
  clear hm
  have HP : Hid (RS b s d k c σ w) := hp
  clear hp
  go_enter Tryz.func169, Tryz.ntmps169
  go_wp2_with fail
  refine ((IH.out n (Nat.le_refl _)).no d k c σ _ (by omega) (by show 32 * Sp.rem s.data.toList σ + 7 ≤ n; omega) HP.out).mono ?_
  rintro r w1 ⟨q1, rfl, hp1, hk1⟩
  have HP1 : Hid (RS b s d (k) c (Sp.run s.data.toList n .no d σ) w1) := hp1
  have HK1 : Hid (RK b w w1) := hk1
  clear hp1 hk1
  go_wp2_with fail
  go_loopg [3] n (fun m u0 wr => m ≤ n ∧ ∃ (q : Int) (σ' : Sp.St), u0 = .int .i64 q ∧ 32 * Sp.rem s.data.toList σ' + 1 ≤ m ∧ Hid (Sp.run s.data.toList (n + 1) .both d σ = Sp.run s.data.toList m .andL d σ') ∧ Hid (RS b s d k c σ' wr) ∧ Hid (RK b w wr))
  case atStart => exact ⟨Nat.le_refl _, _, _, rfl, by omega, rfl, HP1.out, HK1.out⟩
  case round =>
    obtain ⟨hmn, q, σ', rfl, hms, HR, HPr, HKr⟩ := hrel
    obtain ⟨m, rfl⟩ : ∃ m, gk = m + 1 := ⟨gk - 1, by omega⟩
    have c7 := HPr.out.err
    cases hs : σ'.is s.data.toList [97, 110, 100]
    · have HV : Hid (Sp.run s.data.toList (m + 1) .andL d σ' = σ') := by show _ = _; rw [Sp.run, hs]; rfl
      cases σ' with
      | dead y a =>
        have hz := er_dead HPr.out
        clear hs
        go_wp2_with fail
        go_ret
        exact ⟨_, rfl, by rw [HR.out, HV.out]; exact HPr.out, HKr.out⟩
      | live e =>
        have hz : (((er (.live e) : Nat) : Int) == 0) = true := rfl
        go_wp2_with fail
        refine (ris_any HPr.out [97, 110, 100]).mono ?_
        rintro r w9 ⟨rfl, rfl⟩
        go_wp2_with fail
        go_ret
        exact ⟨_, rfl, by rw [HR.out, HV.out]; exact HPr.out, HKr.out⟩
    · have HV : Hid (Sp.run s.data.toList (m + 1) .andL d σ' = Sp.run s.data.toList m .andL d (Sp.run s.data.toList m .no d (σ'.step s.data.toList))) := by show _ = _; rw [Sp.run, hs]; rfl
      have h1 := Sp.rem_step_lt hs
      have h2 := Sp.rem_run s.data.toList m .no d (σ'.step s.data.toList)
      obtain ⟨ta, c2⟩ := HPr.out.tat
      obtain ⟨ts, c3⟩ := HPr.out.tts
      have hz : (((er σ' : Nat) : Int) == 0) = true := by obtain ⟨e, rfl, _⟩ := is_live hs; rfl
      have HS : Hid (σ'.is s.data.toList [97, 110, 100] = true) := hs
      go_wp2_with fail
      refine (ris_any HPr.out [97, 110, 100]).mono ?_
      rintro r w9 ⟨rfl, rfl⟩
      go_wp2_with fail
      refine (rstep_is HPr.out HS.out).mono ?_
      rintro r w2 ⟨rfl, hp2, hk2⟩
      have HP2 : Hid (RS b s d (k + 1) c (σ'.step s.data.toList) w2) := hp2
      have HK2 : Hid (RK b w w2) := HKr.out.trans hk2
      clear hp2 hk2
      go_wp2_with fail
      refine ((IH.out m (by omega)).no d (k + 1) c _ _ (by omega) (by show 32 * Sp.rem s.data.toList _ + 7 ≤ m; omega) HP2.out).mono ?_
      rintro r w3 ⟨q3, rfl, hp3, hk3⟩
      have HP3 : Hid (RS b s d (k + 1) c (Sp.run s.data.toList m .no d (σ'.step s.data.toList)) w3) := hp3
      have HK3 : Hid (RK b w w3) := HK2.out.trans hk3
      clear hp3 hk3
      go_wp2_with fail
      refine (rpair_any HP3.out _ _ _ _).mono ?_
      rintro r w4 ⟨q4, rfl, hp4, hk4⟩
      have HP4 : Hid (RS b s d (k) c (Sp.run s.data.toList m .no d (σ'.step s.data.toList)) w4) := hp4
      have HK4 : Hid (RK b w w4) := HK3.out.trans hk4
      clear hp4 hk4
      go_wp2_with fail
      go_roundg m
      case measure => omega
      case rel => exact ⟨by omega, _, _, rfl, by omega, by show _ = _; rw [HR.out, HV.out], HP4.out, HK4.out⟩

set_option maxHeartbeats 2000000 in
theorem rsum_step {b : Nat} {s : ByteArray} {n : Nat} (IH : Hid (∀ m, m ≤ n → RAll b s m)) : Rd b s (n + 1) .sum 276 := by
  intro d k c σ w hd hm hp
  have hr := Sp.rem_run s.data.toList n .product d σ
  have hm' : 32 * Sp.rem s.data.toList σ + 5 ≤ n + 1 := hm
  clear hm
  have HP : Hid (RS b s d k c σ w) := hp
  clear hp
  go_enter Tryz.func276, Tryz.ntmps276
  go_wp2_with fail
  refine ((IH.out n (Nat.le_refl _)).product d k c σ _ (by omega) (by show 32 * Sp.rem s.data.toList σ + 4 ≤ n; omega) HP.out).mono ?_
  rintro r w1 ⟨q1, rfl, hp1, hk1⟩
  have HP1 : Hid (RS b s d (k) c (Sp.run s.data.toList n .product d σ) w1) := hp1
  have HK1 : Hid (RK b w w1) := hk1
  clear hp1 hk1
  go_wp2_with fail
  go_loopg [3] n (fun m u0 wr => m ≤ n ∧ ∃ (q : Int) (σ' : Sp.St), u0 = .int .i64 q ∧ 32 * Sp.rem s.data.toList σ' + 1 ≤ m ∧ Hid (Sp.run s.data.toList (n + 1) .sum d σ = Sp.run s.data.toList m .sumL d σ') ∧ Hid (RS b s d k c σ' wr) ∧ Hid (RK b w wr))
  case atStart => exact ⟨Nat.le_refl _, _, _, rfl, by omega, rfl, HP1.out, HK1.out⟩
  case round =>
    obtain ⟨hmn, q, σ', rfl, hms, HR, HPr, HKr⟩ := hrel
    obtain ⟨m, rfl⟩ : ∃ m, gk = m + 1 := ⟨gk - 1, by omega⟩
    have c7 := HPr.out.err
    cases hs : (σ'.is s.data.toList [43] || σ'.is s.data.toList [45])
    · have HV : Hid (Sp.run s.data.toList (m + 1) .sumL d σ' = σ') := by show _ = _; rw [Sp.run, hs]; rfl
      cases σ' with
      | dead y a =>
        have hz := er_dead HPr.out
        clear hs
        go_wp2_with fail
        go_ret
        exact ⟨_, rfl, by rw [HR.out, HV.out]; exact HPr.out, HKr.out⟩
      | live e =>
        have hz : (((er (.live e) : Nat) : Int) == 0) = true := rfl
        obtain ⟨hs1, hs2⟩ := Bool.or_eq_false_iff.1 hs
        clear hs
        go_wp2_with fail
        refine (ris_any HPr.out [43]).mono ?_
        rintro r w9 ⟨rfl, rfl⟩
        go_wp2_with fail
        refine (ris_any HPr.out [45]).mono ?_
        rintro r w9 ⟨rfl, rfl⟩
        go_wp2_with fail
        go_ret
        exact ⟨_, rfl, by rw [HR.out, HV.out]; exact HPr.out, HKr.out⟩
    · cases hs1 : σ'.is s.data.toList [43]
      · have hs2 : σ'.is s.data.toList [45] = true := by rw [hs1] at hs; exact hs
        have HV : Hid (Sp.run s.data.toList (m + 1) .sumL d σ' = Sp.run s.data.toList m .sumL d (Sp.run s.data.toList m .product d (σ'.step s.data.toList))) := by show _ = _; rw [Sp.run, hs]; rfl
        have h1 := Sp.rem_step_lt hs2
        have h2 := Sp.rem_run s.data.toList m .product d (σ'.step s.data.toList)
        obtain ⟨ta, c2⟩ := HPr.out.tat
        obtain ⟨ts, c3⟩ := HPr.out.tts
        have hz : (((er σ' : Nat) : Int) == 0) = true := by obtain ⟨e, rfl, _⟩ := is_live hs2; rfl
        have HS : Hid (σ'.is s.data.toList [45] = true) := hs2
        clear hs
        go_wp2_with fail
        refine (ris_any HPr.out [43]).mono ?_
        rintro r w9 ⟨rfl, rfl⟩
        go_wp2_with fail
        refine (ris_any HPr.out [45]).mono ?_
        rintro r w9 ⟨rfl, rfl⟩
        go_wp2_with fail
        refine (rstep_is HPr.out HS.out).mono ?_
        rintro r w2 ⟨rfl, hp2, hk2⟩
        have HP2 : Hid (RS b s d (k + 1) c (σ'.step s.data.toList) w2) := hp2
        have HK2 : Hid (RK b w w2) := HKr.out.trans hk2
        clear hp2 hk2
        go_wp2_with fail
        refine ((IH.out m (by omega)).product d (k + 1) c _ _ (by omega) (by show 32 * Sp.rem s.data.toList _ + 4 ≤ m; omega) HP2.out).mono ?_
        rintro r w3 ⟨q3, rfl, hp3, hk3⟩
        have HP3 : Hid (RS b s d (k + 1) c (Sp.run s.data.toList m .product d (σ'.step s.data.toList)) w3) := hp3
        have HK3 : Hid (RK b w w3) := HK2.out.trans hk3
        clear hp3 hk3
        go_wp2_with fail
        refine (rpair_any HP3.out _ _ _ _).mono ?_
        rintro r w4 ⟨q4, rfl, hp4, hk4⟩
        have HP4 : Hid (RS b s d (k) c (Sp.run s.data.toList m .product d (σ'.step s.data.toList)) w4) := hp4
        have HK4 : Hid (RK b w w4) := HK3.out.trans hk4
        clear hp4 hk4
        go_wp2_with fail
        go_roundg m
        case measure => omega
        case rel => exact ⟨by omega, _, _, rfl, by omega, by show _ = _; rw [HR.out, HV.out], HP4.out, HK4.out⟩
      · have HV : Hid (Sp.run s.data.toList (m + 1) .sumL d σ' = Sp.run s.data.toList m .sumL d (Sp.run s.data.toList m .product d (σ'.step s.data.toList))) := by show _ = _; rw [Sp.run, hs]; rfl
        have h1 := Sp.rem_step_lt hs1
        have h2 := Sp.rem_run s.data.toList m .product d (σ'.step s.data.toList)
        obtain ⟨ta, c2⟩ := HPr.out.tat
        obtain ⟨ts, c3⟩ := HPr.out.tts
        have hz : (((er σ' : Nat) : Int) == 0) = true := by obtain ⟨e, rfl, _⟩ := is_live hs1; rfl
        have HS : Hid (σ'.is s.data.toList [43] = true) := hs1
        clear hs
        go_wp2_with fail
        refine (ris_any HPr.out [43]).mono ?_
        rintro r w9 ⟨rfl, rfl⟩
        go_wp2_with fail
        refine (rstep_is HPr.out HS.out).mono ?_
        rintro r w2 ⟨rfl, hp2, hk2⟩
        have HP2 : Hid (RS b s d (k + 1) c (σ'.step s.data.toList) w2) := hp2
        have HK2 : Hid (RK b w w2) := HKr.out.trans hk2
        clear hp2 hk2
        go_wp2_with fail
        refine ((IH.out m (by omega)).product d (k + 1) c _ _ (by omega) (by show 32 * Sp.rem s.data.toList _ + 4 ≤ m; omega) HP2.out).mono ?_
        rintro r w3 ⟨q3, rfl, hp3, hk3⟩
        have HP3 : Hid (RS b s d (k + 1) c (Sp.run s.data.toList m .product d (σ'.step s.data.toList)) w3) := hp3
        have HK3 : Hid (RK b w w3) := HK2.out.trans hk3
        clear hp3 hk3
        go_wp2_with fail
        refine (rpair_any HP3.out _ _ _ _).mono ?_
        rintro r w4 ⟨q4, rfl, hp4, hk4⟩
        have HP4 : Hid (RS b s d (k) c (Sp.run s.data.toList m .product d (σ'.step s.data.toList)) w4) := hp4
        have HK4 : Hid (RK b w w4) := HK3.out.trans hk4
        clear hp4 hk4
        go_wp2_with fail
        go_roundg m
        case measure => omega
        case rel => exact ⟨by omega, _, _, rfl, by omega, by show _ = _; rw [HR.out, HV.out], HP4.out, HK4.out⟩

set_option maxHeartbeats 2000000 in
theorem rproduct_step {b : Nat} {s : ByteArray} {n : Nat} (IH : Hid (∀ m, m ≤ n → RAll b s m)) : Rd b s (n + 1) .product 306 := by
  intro d k c σ w hd hm hp
  have hr := Sp.rem_run s.data.toList n .unary d σ
  have hm' : 32 * Sp.rem s.data.toList σ + 4 ≤ n + 1 := hm
  clear hm
  have HP : Hid (RS b s d k c σ w) := hp
  clear hp
  go_enter Tryz.func306, Tryz.ntmps306
  go_wp2_with fail
  refine ((IH.out n (Nat.le_refl _)).unary d k c σ _ (by omega) (by show 32 * Sp.rem s.data.toList σ + 3 ≤ n; omega) HP.out).mono ?_
  rintro r w1 ⟨q1, rfl, hp1, hk1⟩
  have HP1 : Hid (RS b s d (k) c (Sp.run s.data.toList n .unary d σ) w1) := hp1
  have HK1 : Hid (RK b w w1) := hk1
  clear hp1 hk1
  go_wp2_with fail
  go_loopg [3] n (fun m u0 wr => m ≤ n ∧ ∃ (q : Int) (σ' : Sp.St), u0 = .int .i64 q ∧ 32 * Sp.rem s.data.toList σ' + 1 ≤ m ∧ Hid (Sp.run s.data.toList (n + 1) .product d σ = Sp.run s.data.toList m .prodL d σ') ∧ Hid (RS b s d k c σ' wr) ∧ Hid (RK b w wr))
  case atStart => exact ⟨Nat.le_refl _, _, _, rfl, by omega, rfl, HP1.out, HK1.out⟩
  case round =>
    obtain ⟨hmn, q, σ', rfl, hms, HR, HPr, HKr⟩ := hrel
    obtain ⟨m, rfl⟩ : ∃ m, gk = m + 1 := ⟨gk - 1, by omega⟩
    have c7 := HPr.out.err
    cases hs : (σ'.is s.data.toList [42] || σ'.is s.data.toList [47])
    · have HV : Hid (Sp.run s.data.toList (m + 1) .prodL d σ' = σ') := by show _ = _; rw [Sp.run, hs]; rfl
      cases σ' with
      | dead y a =>
        have hz := er_dead HPr.out
        clear hs
        go_wp2_with fail
        go_ret
        exact ⟨_, rfl, by rw [HR.out, HV.out]; exact HPr.out, HKr.out⟩
      | live e =>
        have hz : (((er (.live e) : Nat) : Int) == 0) = true := rfl
        obtain ⟨hs1, hs2⟩ := Bool.or_eq_false_iff.1 hs
        clear hs
        go_wp2_with fail
        refine (ris_any HPr.out [42]).mono ?_
        rintro r w9 ⟨rfl, rfl⟩
        go_wp2_with fail
        refine (ris_any HPr.out [47]).mono ?_
        rintro r w9 ⟨rfl, rfl⟩
        go_wp2_with fail
        go_ret
        exact ⟨_, rfl, by rw [HR.out, HV.out]; exact HPr.out, HKr.out⟩
    · cases hs1 : σ'.is s.data.toList [42]
      · have hs2 : σ'.is s.data.toList [47] = true := by rw [hs1] at hs; exact hs
        have HV : Hid (Sp.run s.data.toList (m + 1) .prodL d σ' = Sp.run s.data.toList m .prodL d (Sp.run s.data.toList m .unary d (σ'.step s.data.toList))) := by show _ = _; rw [Sp.run, hs]; rfl
        have h1 := Sp.rem_step_lt hs2
        have h2 := Sp.rem_run s.data.toList m .unary d (σ'.step s.data.toList)
        obtain ⟨ta, c2⟩ := HPr.out.tat
        obtain ⟨ts, c3⟩ := HPr.out.tts
        have hz : (((er σ' : Nat) : Int) == 0) = true := by obtain ⟨e, rfl, _⟩ := is_live hs2; rfl
        have HS : Hid (σ'.is s.data.toList [47] = true) := hs2
        clear hs
        go_wp2_with fail
        refine (ris_any HPr.out [42]).mono ?_
        rintro r w9 ⟨rfl, rfl⟩
        go_wp2_with fail
        refine (ris_any HPr.out [47]).mono ?_
        rintro r w9 ⟨rfl, rfl⟩
        go_wp2_with fail
        refine (rstep_is HPr.out HS.out).mono ?_
        rintro r w2 ⟨rfl, hp2, hk2⟩
        have HP2 : Hid (RS b s d (k + 1) c (σ'.step s.data.toList) w2) := hp2
        have HK2 : Hid (RK b w w2) := HKr.out.trans hk2
        clear hp2 hk2
        go_wp2_with fail
        refine ((IH.out m (by omega)).unary d (k + 1) c _ _ (by omega) (by show 32 * Sp.rem s.data.toList _ + 3 ≤ m; omega) HP2.out).mono ?_
        rintro r w3 ⟨q3, rfl, hp3, hk3⟩
        have HP3 : Hid (RS b s d (k + 1) c (Sp.run s.data.toList m .unary d (σ'.step s.data.toList)) w3) := hp3
        have HK3 : Hid (RK b w w3) := HK2.out.trans hk3
        clear hp3 hk3
        go_wp2_with fail
        refine (rpair_any HP3.out _ _ _ _).mono ?_
        rintro r w4 ⟨q4, rfl, hp4, hk4⟩
        have HP4 : Hid (RS b s d (k) c (Sp.run s.data.toList m .unary d (σ'.step s.data.toList)) w4) := hp4
        have HK4 : Hid (RK b w w4) := HK3.out.trans hk4
        clear hp4 hk4
        go_wp2_with fail
        go_roundg m
        case measure => omega
        case rel => exact ⟨by omega, _, _, rfl, by omega, by show _ = _; rw [HR.out, HV.out], HP4.out, HK4.out⟩
      · have HV : Hid (Sp.run s.data.toList (m + 1) .prodL d σ' = Sp.run s.data.toList m .prodL d (Sp.run s.data.toList m .unary d (σ'.step s.data.toList))) := by show _ = _; rw [Sp.run, hs]; rfl
        have h1 := Sp.rem_step_lt hs1
        have h2 := Sp.rem_run s.data.toList m .unary d (σ'.step s.data.toList)
        obtain ⟨ta, c2⟩ := HPr.out.tat
        obtain ⟨ts, c3⟩ := HPr.out.tts
        have hz : (((er σ' : Nat) : Int) == 0) = true := by obtain ⟨e, rfl, _⟩ := is_live hs1; rfl
        have HS : Hid (σ'.is s.data.toList [42] = true) := hs1
        clear hs
        go_wp2_with fail
        refine (ris_any HPr.out [42]).mono ?_
        rintro r w9 ⟨rfl, rfl⟩
        go_wp2_with fail
        refine (rstep_is HPr.out HS.out).mono ?_
        rintro r w2 ⟨rfl, hp2, hk2⟩
        have HP2 : Hid (RS b s d (k + 1) c (σ'.step s.data.toList) w2) := hp2
        have HK2 : Hid (RK b w w2) := HKr.out.trans hk2
        clear hp2 hk2
        go_wp2_with fail
        refine ((IH.out m (by omega)).unary d (k + 1) c _ _ (by omega) (by show 32 * Sp.rem s.data.toList _ + 3 ≤ m; omega) HP2.out).mono ?_
        rintro r w3 ⟨q3, rfl, hp3, hk3⟩
        have HP3 : Hid (RS b s d (k + 1) c (Sp.run s.data.toList m .unary d (σ'.step s.data.toList)) w3) := hp3
        have HK3 : Hid (RK b w w3) := HK2.out.trans hk3
        clear hp3 hk3
        go_wp2_with fail
        refine (rpair_any HP3.out _ _ _ _).mono ?_
        rintro r w4 ⟨q4, rfl, hp4, hk4⟩
        have HP4 : Hid (RS b s d (k) c (Sp.run s.data.toList m .unary d (σ'.step s.data.toList)) w4) := hp4
        have HK4 : Hid (RK b w w4) := HK3.out.trans hk4
        clear hp4 hk4
        go_wp2_with fail
        go_roundg m
        case measure => omega
        case rel => exact ⟨by omega, _, _, rfl, by omega, by show _ = _; rw [HR.out, HV.out], HP4.out, HK4.out⟩

end Go.Proofs.YtgnncnhkgmhngaaGreatDoor

namespace Go.Proofs.YtgnncnhkgmhngaaGreatDoor
open Go.RowKit

set_option maxHeartbeats 2000000 in
theorem rno_step {b : Nat} {s : ByteArray} {n : Nat} (IH : Hid (∀ m, m ≤ n → RAll b s m)) : Rd b s (n + 1) .no 207 := by
  intro d k c σ w hd hm hp
  have hm' : 32 * Sp.rem s.data.toList σ + 7 ≤ n + 1 := hm
  clear hm
  have HP : Hid (RS b s d k c σ w) := hp
  have lb := hp.lb
  clear hp
  cases hs : σ.is s.data.toList [110, 111, 116]
  · have HV : Hid (Sp.run s.data.toList (n + 1) .no d σ = Sp.run s.data.toList n .compare d σ) := by show _ = _; rw [Sp.run, hs]; rfl
    go_enter Tryz.func207, Tryz.ntmps207
    go_wp2_with fail
    refine (ris_any HP.out [110, 111, 116]).mono ?_
    rintro r w9 ⟨rfl, rfl⟩
    go_wp2_with fail
    refine ((IH.out n (Nat.le_refl _)).compare d k c _ _ (by omega) (by show 32 * Sp.rem s.data.toList _ + 6 ≤ n; omega) HP.out).mono ?_
    rintro r w2 ⟨q2, rfl, hp2, hk2⟩
    have HP2 : Hid (RS b s d (k) c (Sp.run s.data.toList n .compare d σ) w2) := hp2
    have HK2 : Hid (RK b w9 w2) := hk2
    clear hp2 hk2
    go_wp2_with fail
    go_ret
    exact ⟨_, rfl, by rw [HV.out]; exact HP2.out, HK2.out⟩
  · have HV : Hid (Sp.run s.data.toList (n + 1) .no d σ = Sp.run s.data.toList n .no (d + 1) (σ.openT s.data.toList d)) := by show _ = _; rw [Sp.run, hs]; rfl
    have h1 := Sp.rem_openT_lt (d := d) hs
    obtain ⟨ta, c2⟩ := HP.out.tat
    go_enter Tryz.func207, Tryz.ntmps207
    go_wp2_with fail
    refine (ris_any HP.out [110, 111, 116]).mono ?_
    rintro r w9 ⟨rfl, rfl⟩
    go_wp2_with fail
    refine (ropen_any HP.out hs (by omega)).mono ?_
    rintro r w2 ⟨rfl, hp2, hk2⟩
    have HP2 : Hid (RS b s (d + 1) (k + 1) c (σ.openT s.data.toList d) w2) := hp2
    have HK2 : Hid (RK b w9 w2) := hk2
    clear hp2 hk2
    have c7 := HP2.out.err
    clear c2
    cases ho : σ.openT s.data.toList d with
    | dead y a =>
      rw [ho] at HP2 c7
      have hz := er_dead HP2.out
      obtain ⟨c6, f6⟩ := HP2.out.opn
      have HV2 : Hid (Sp.run s.data.toList n .no (d + 1) (.dead y a) = .dead y a) := run_dead _ _ _ _ _ _
      have l2 := HP2.out.lb
      go_wp2_with fail
      refine (rnode_any ((HP2.out.deep (d' := d) _ (by omega)).alloc _) _ _ _ _ _ _ _ _ _ (one9 _ _ _ _ _ _ _ _ _ rfl rfl rfl)).mono ?_
      rintro r w3 ⟨q3, rfl, hp3, hk3⟩
      have HP3 : Hid (RS b s d (k) c (.dead y a) w3) := hp3
      have HK3 : Hid (RK b w9 w3) := ((HK2.out.set 6 (by decide) _).alloc (by simpa using l2) _).trans hk3
      clear hp3 hk3
      go_wp2_with fail
      go_ret
      exact ⟨_, rfl, by rw [HV.out, ho, HV2.out]; exact HP3.out, HK3.out⟩
    | live e =>
      rw [ho] at HP2 c7 h1
      have hz : (((er (.live e) : Nat) : Int) == 0) = true := rfl
      go_wp2_with fail
      refine ((IH.out n (Nat.le_refl _)).no (d + 1) (k + 1) c _ _ (by omega) (by show 32 * Sp.rem s.data.toList _ + 7 ≤ n; omega) HP2.out).mono ?_
      rintro r w3 ⟨q3, rfl, hp3, hk3⟩
      have HP3 : Hid (RS b s (d + 1) (k + 1) c (Sp.run s.data.toList n .no (d + 1) (.live e)) w3) := hp3
      have HK3 : Hid (RK b w9 w3) := HK2.out.trans hk3
      clear hp3 hk3 c7
      obtain ⟨c6, f6⟩ := HP3.out.opn
      have l3 := HP3.out.lb
      go_wp2_with fail
      refine (rnode_any ((HP3.out.deep (d' := d) _ (by omega)).alloc _) _ _ _ _ _ _ _ _ _ (one9 _ _ _ _ _ _ _ _ _ rfl rfl rfl)).mono ?_
      rintro r w4 ⟨q4, rfl, hp4, hk4⟩
      have HP4 : Hid (RS b s d (k) c (Sp.run s.data.toList n .no (d + 1) (.live e)) w4) := hp4
      have HK4 : Hid (RK b w9 w4) := ((HK3.out.set 6 (by decide) _).alloc (by simpa using l3) _).trans hk4
      clear hp4 hk4
      go_wp2_with fail
      go_ret
      exact ⟨_, rfl, by rw [HV.out, ho]; exact HP4.out, HK4.out⟩

set_option maxHeartbeats 2000000 in
theorem runary_step {b : Nat} {s : ByteArray} {n : Nat} (IH : Hid (∀ m, m ≤ n → RAll b s m)) : Rd b s (n + 1) .unary 322 := by
  intro d k c σ w hd hm hp
  have hm' : 32 * Sp.rem s.data.toList σ + 3 ≤ n + 1 := hm
  clear hm
  have HP : Hid (RS b s d k c σ w) := hp
  have lb := hp.lb
  clear hp
  cases hs : σ.is s.data.toList [45]
  · have HV : Hid (Sp.run s.data.toList (n + 1) .unary d σ = Sp.run s.data.toList n .atom d σ) := by show _ = _; rw [Sp.run, hs]; rfl
    go_enter Tryz.func322, Tryz.ntmps322
    go_wp2_with fail
    refine (ris_any HP.out [45]).mono ?_
    rintro r w9 ⟨rfl, rfl⟩
    go_wp2_with fail
    refine ((IH.out n (Nat.le_refl _)).atom d k c _ _ (by omega) (by show 32 * Sp.rem s.data.toList _ + 2 ≤ n; omega) HP.out).mono ?_
    rintro r w2 ⟨q2, rfl, hp2, hk2⟩
    have HP2 : Hid (RS b s d (k) c (Sp.run s.data.toList n .atom d σ) w2) := hp2
    have HK2 : Hid (RK b w9 w2) := hk2
    clear hp2 hk2
    go_wp2_with fail
    go_ret
    exact ⟨_, rfl, by rw [HV.out]; exact HP2.out, HK2.out⟩
  · have HV : Hid (Sp.run s.data.toList (n + 1) .unary d σ = Sp.run s.data.toList n .unary (d + 1) (σ.openT s.data.toList d)) := by show _ = _; rw [Sp.run, hs]; rfl
    have h1 := Sp.rem_openT_lt (d := d) hs
    obtain ⟨ta, c2⟩ := HP.out.tat
    go_enter Tryz.func322, Tryz.ntmps322
    go_wp2_with fail
    refine (ris_any HP.out [45]).mono ?_
    rintro r w9 ⟨rfl, rfl⟩
    go_wp2_with fail
    refine (ropen_any HP.out hs (by omega)).mono ?_
    rintro r w2 ⟨rfl, hp2, hk2⟩
    have HP2 : Hid (RS b s (d + 1) (k + 1) c (σ.openT s.data.toList d) w2) := hp2
    have HK2 : Hid (RK b w9 w2) := hk2
    clear hp2 hk2
    have c7 := HP2.out.err
    clear c2
    cases ho : σ.openT s.data.toList d with
    | dead y a =>
      rw [ho] at HP2 c7
      have hz := er_dead HP2.out
      obtain ⟨c6, f6⟩ := HP2.out.opn
      have HV2 : Hid (Sp.run s.data.toList n .unary (d + 1) (.dead y a) = .dead y a) := run_dead _ _ _ _ _ _
      have l2 := HP2.out.lb
      go_wp2_with fail
      refine (rnode_any ((HP2.out.deep (d' := d) _ (by omega)).alloc _) _ _ _ _ _ _ _ _ _ (one9 _ _ _ _ _ _ _ _ _ rfl rfl rfl)).mono ?_
      rintro r w3 ⟨q3, rfl, hp3, hk3⟩
      have HP3 : Hid (RS b s d (k) c (.dead y a) w3) := hp3
      have HK3 : Hid (RK b w9 w3) := ((HK2.out.set 6 (by decide) _).alloc (by simpa using l2) _).trans hk3
      clear hp3 hk3
      go_wp2_with fail
      go_ret
      exact ⟨_, rfl, by rw [HV.out, ho, HV2.out]; exact HP3.out, HK3.out⟩
    | live e =>
      rw [ho] at HP2 c7 h1
      have hz : (((er (.live e) : Nat) : Int) == 0) = true := rfl
      go_wp2_with fail
      refine ((IH.out n (Nat.le_refl _)).unary (d + 1) (k + 1) c _ _ (by omega) (by show 32 * Sp.rem s.data.toList _ + 3 ≤ n; omega) HP2.out).mono ?_
      rintro r w3 ⟨q3, rfl, hp3, hk3⟩
      have HP3 : Hid (RS b s (d + 1) (k + 1) c (Sp.run s.data.toList n .unary (d + 1) (.live e)) w3) := hp3
      have HK3 : Hid (RK b w9 w3) := HK2.out.trans hk3
      clear hp3 hk3 c7
      obtain ⟨c6, f6⟩ := HP3.out.opn
      have l3 := HP3.out.lb
      go_wp2_with fail
      refine (rnode_any ((HP3.out.deep (d' := d) _ (by omega)).alloc _) _ _ _ _ _ _ _ _ _ (one9 _ _ _ _ _ _ _ _ _ rfl rfl rfl)).mono ?_
      rintro r w4 ⟨q4, rfl, hp4, hk4⟩
      have HP4 : Hid (RS b s d (k) c (Sp.run s.data.toList n .unary (d + 1) (.live e)) w4) := hp4
      have HK4 : Hid (RK b w9 w4) := ((HK3.out.set 6 (by decide) _).alloc (by simpa using l3) _).trans hk4
      clear hp4 hk4
      go_wp2_with fail
      go_ret
      exact ⟨_, rfl, by rw [HV.out, ho]; exact HP4.out, HK4.out⟩

/-- A query in ( ). -/
theorem inside_eq (s : Sp.Bs) (n d : Nat) (σ : Sp.St) (h : σ.is s [40] = false) : (Sp.run s n .query (d + 1) (σ.opened s [40] d)).must s [41] = σ.fail s 2 := by
  have e : σ.opened s [40] d = σ.fail s 2 := by rw [Sp.St.opened, h]; rfl
  rw [e]
  have : ∃ x a, σ.fail s 2 = .dead x a := by cases σ <;> exact ⟨_, _, rfl⟩
  obtain ⟨x, a, hx⟩ := this
  rw [hx, run_dead]; rfl

theorem far_must (s : Sp.Bs) (z : Sp.Bs) (σ : Sp.St) : far s σ ≤ far s (σ.must s z) := by
  cases h : σ.is s z
  · rw [Sp.St.must, h]; exact far_fail s 2 σ
  · rw [Sp.St.must, h]; exact Nat.le_of_lt (far_is h)

set_option maxHeartbeats 2000000 in
theorem rinside_any {b : Nat} {s : ByteArray} {n d k : Nat} {c : Ct} {σ : Sp.St} {w : World} (IA : Hid (RAll b s n)) (hd : d + n + 1 ≤ 1000000) (hm : 32 * Sp.rem s.data.toList (σ.opened s.data.toList [40] d) + 15 ≤ n) (HP : Hid (RS b s d k c σ w)) :
    Calls Tryz.prog 206 #[.pointer (some ⟨b, 0, none⟩)] w (RI b s d k c ((Sp.run s.data.toList n .query (d + 1) (σ.opened s.data.toList [40] d)).must s.data.toList [41]) w) := by
  cases hs : σ.is s.data.toList [40]
  · rw [inside_eq _ _ _ _ hs]
    go_enter Tryz.func206, Tryz.ntmps206
    go_wp2_with fail
    refine (ris_any HP.out [40]).mono ?_
    rintro r w9 ⟨rfl, rfl⟩
    go_wp2_with fail
    refine (rfail_any HP.out 2 (by decide) k (by have := far_fail s.data.toList 2 σ; omega)).mono ?_
    rintro r w2 ⟨rfl, hp2, hk2⟩
    have HP2 : Hid (RS b s d (k) c (σ.fail s.data.toList 2) w2) := hp2
    have HK2 : Hid (RK b w9 w2) := hk2
    clear hp2 hk2
    go_wp2_with fail
    go_ret
    exact ⟨_, rfl, HP2.out, HK2.out⟩
  · rw [opened_is hs] at hm ⊢
    go_enter Tryz.func206, Tryz.ntmps206
    go_wp2_with fail
    refine (ris_any HP.out [40]).mono ?_
    rintro r w9 ⟨rfl, rfl⟩
    go_wp2_with fail
    refine (ropen_any HP.out hs (by omega)).mono ?_
    rintro r w2 ⟨rfl, hp2, hk2⟩
    have HP2 : Hid (RS b s (d + 1) (k + 1) c (σ.openT s.data.toList d) w2) := hp2
    have HK2 : Hid (RK b w9 w2) := hk2
    clear hp2 hk2
    go_wp2_with fail
    refine (IA.out.query (d + 1) (k + 1) c _ _ (by omega) hm HP2.out).mono ?_
    rintro r w3 ⟨q3, rfl, hp3, hk3⟩
    have HP3 : Hid (RS b s (d + 1) (k + 1) c (Sp.run s.data.toList n .query (d + 1) (σ.openT s.data.toList d)) w3) := hp3
    have HK3 : Hid (RK b w9 w3) := HK2.out.trans hk3
    clear hp3 hk3
    go_wp2_with fail
    refine (rmust_any HP3.out [41] k (by have := far_must s.data.toList [41] (Sp.run s.data.toList n .query (d + 1) (σ.openT s.data.toList d)); omega)).mono ?_
    rintro r w4 ⟨rfl, hp4, hk4⟩
    have HP4 : Hid (RS b s (d + 1) (k) c ((Sp.run s.data.toList n .query (d + 1) (σ.openT s.data.toList d)).must s.data.toList [41]) w4) := hp4
    have HK4 : Hid (RK b w9 w4) := HK3.out.trans hk4
    clear hp4 hk4
    obtain ⟨c6, f6⟩ := HP4.out.opn
    go_wp2_with fail
    go_ret
    exact ⟨_, rfl, HP4.out.deep (d' := d) _ (by omega), HK4.out.set 6 (by decide) _⟩

set_option maxHeartbeats 2000000 in
theorem rwhere_step {b : Nat} {s : ByteArray} {n : Nat} (IH : Hid (∀ m, m ≤ n → RAll b s m)) : RdW b s (n + 1) := by
  intro d k c σ w hd hm hp
  have HP : Hid (RS b s d k c σ w) := hp
  clear hp
  obtain ⟨ta, c2⟩ := HP.out.tat
  cases hs : σ.is s.data.toList [119, 104, 101, 114, 101]
  · have HV : Hid (Sp.run s.data.toList (n + 1) .where_ d σ = σ) := by show _ = _; rw [Sp.run, hs]; rfl
    have HT : Hid (σ.take s.data.toList [119, 104, 101, 114, 101] = σ) := take_no hs
    go_enter Tryz.func70, Tryz.ntmps70
    go_wp2_with fail
    refine (rtake_any HP.out [119, 104, 101, 114, 101]).mono ?_
    rintro r w2 ⟨rfl, hp2, hk2⟩
    rw [HT.out] at hp2
    have HP2 : Hid (RS b s d (k) c (σ) w2) := hp2
    have HK2 : Hid (RK b w w2) := hk2
    clear hp2 hk2
    go_wp2_with fail
    go_ret2
    exact ⟨_, _, rfl, by rw [HV.out]; exact HP2.out, HK2.out⟩
  · have HV : Hid (Sp.run s.data.toList (n + 1) .where_ d σ = Sp.run s.data.toList n .expr d (σ.step s.data.toList)) := by show _ = _; rw [Sp.run, hs]; rfl
    have HT : Hid (σ.take s.data.toList [119, 104, 101, 114, 101] = σ.step s.data.toList) := take_yes hs
    have h1 := Sp.rem_step_lt hs
    go_enter Tryz.func70, Tryz.ntmps70
    go_wp2_with fail
    refine (rtake_any HP.out [119, 104, 101, 114, 101]).mono ?_
    rintro r w2 ⟨rfl, hp2, hk2⟩
    rw [HT.out] at hp2
    have HP2 : Hid (RS b s d (k) c (σ.step s.data.toList) w2) := hp2
    have HK2 : Hid (RK b w w2) := hk2
    clear hp2 hk2
    go_wp2_with fail
    refine ((IH.out n (Nat.le_refl _)).expr d k c _ _ (by omega) (by show 32 * Sp.rem s.data.toList _ + 9 ≤ n; omega) HP2.out).mono ?_
    rintro r w3 ⟨q3, rfl, hp3, hk3⟩
    have HP3 : Hid (RS b s d (k) c (Sp.run s.data.toList n .expr d (σ.step s.data.toList)) w3) := hp3
    have HK3 : Hid (RK b w w3) := HK2.out.trans hk3
    clear hp3 hk3
    go_wp2_with fail
    go_ret2
    exact ⟨_, _, rfl, by rw [HV.out]; exact HP3.out, HK3.out⟩
end Go.Proofs.YtgnncnhkgmhngaaGreatDoor
