import Derived.Test.YtpgeiieapkbjhaaGreatDoorR13
namespace Go.Proofs.YtpgeiieapkbjhaaGreatDoor
open Go.RowKit

set_option maxHeartbeats 4000000 in
theorem rquery_step {b : Nat} {s : ByteArray} {n : Nat} (IH : Hid (∀ m, m ≤ n → RAll b s m)) : Rd b s (n + 1) .query 39 := by
  intro d k c σ w hd hm hp
  have hr := Sp.rem_run s.data.toList n .term d σ
  have hm' : 32 * Sp.rem s.data.toList σ + 15 ≤ n + 1 := hm
  clear hm
  have HP : Hid (RS b s d k c σ w) := hp
  have lb := hp.lb
  clear hp
  go_enter Tryz.func39, Tryz.ntmps39
  go_wp2_with fail
  refine ((IH.out n (Nat.le_refl _)).term d k c σ _ (by omega) (by show 32 * Sp.rem s.data.toList σ + 14 ≤ n; omega) HP.out).mono ?_
  rintro r w1 ⟨q1, rfl, hp1, hk1⟩
  have HP1 : Hid (RS b s d (k) c (Sp.run s.data.toList n .term d σ) w1) := hp1
  have HK1 : Hid (RK b w w1) := hk1
  clear hp1 hk1
  go_wp2_with fail
  go_loopg [3] n (fun m u0 wr => m ≤ n ∧ ∃ (q : Int) (σ' : Sp.St), u0 = .int .i64 q ∧ 32 * Sp.rem s.data.toList σ' + 1 ≤ m ∧ Hid (Sp.run s.data.toList (n + 1) .query d σ = Sp.run s.data.toList m .queryL d σ') ∧ Hid (RS b s d k c σ' wr) ∧ Hid (RK b w wr))
  case atStart => exact ⟨Nat.le_refl _, _, _, rfl, by omega, rfl, HP1.out, HK1.out⟩
  case round =>
    obtain ⟨hmn, q, σ', rfl, hms, HR, HPr, HKr⟩ := hrel
    obtain ⟨m, rfl⟩ : ∃ m, gk = m + 1 := ⟨gk - 1, by omega⟩
    have c7 := HPr.out.err
    cases hs : (σ'.is s.data.toList [117, 110, 105, 111, 110] || σ'.is s.data.toList [101, 120, 99, 101, 112, 116])
    · have HV : Hid (Sp.run s.data.toList (m + 1) .queryL d σ' = σ') := by show _ = _; rw [Sp.run, hs]; rfl
      cases σ' with
      | dead y a =>
        have hz := er_dead HPr.out
        clear hs
        go_wp2_with fail
        go_ret
        exact ⟨_, rfl, by rw [HR.out, HV.out]; exact HPr.out, HKr.out⟩
      | live e =>
        have hz : (((er (.live e) : Nat) : Int) == 0) = true := rfl
        obtain ⟨hs1, hs2⟩ := Bool.or_eq_false_iff.1 hs
        clear hs
        go_wp2_with fail
        refine (ris_any HPr.out [117, 110, 105, 111, 110]).mono ?_
        rintro r w9 ⟨rfl, rfl⟩
        go_wp2_with fail
        refine (ris_any HPr.out [101, 120, 99, 101, 112, 116]).mono ?_
        rintro r w9 ⟨rfl, rfl⟩
        go_wp2_with fail
        go_ret
        exact ⟨_, rfl, by rw [HR.out, HV.out]; exact HPr.out, HKr.out⟩
    · cases hs1 : σ'.is s.data.toList [117, 110, 105, 111, 110]
      · have hs2 : σ'.is s.data.toList [101, 120, 99, 101, 112, 116] = true := by rw [hs1] at hs; exact hs
        have HV : Hid (Sp.run s.data.toList (m + 1) .queryL d σ' = Sp.run s.data.toList m .queryL d (Sp.run s.data.toList m .term d ((σ'.step s.data.toList).take s.data.toList [97, 108, 108]))) := by show _ = _; rw [Sp.run, hs]; rfl
        have h1 := Sp.rem_step_lt hs2
        have h3 := Sp.rem_take s.data.toList [97, 108, 108] (σ'.step s.data.toList)
        have h2 := Sp.rem_run s.data.toList m .term d ((σ'.step s.data.toList).take s.data.toList [97, 108, 108])
        have hz : (((er σ' : Nat) : Int) == 0) = true := by obtain ⟨e, rfl, _⟩ := is_live hs2; rfl
        have HS : Hid (σ'.is s.data.toList [101, 120, 99, 101, 112, 116] = true) := hs2
        clear hs
        go_wp2_with fail
        refine (ris_any HPr.out [117, 110, 105, 111, 110]).mono ?_
        rintro r w9 ⟨rfl, rfl⟩
        go_wp2_with fail
        refine (ris_any HPr.out [101, 120, 99, 101, 112, 116]).mono ?_
        rintro r w9 ⟨rfl, rfl⟩
        go_wp2_with fail
        refine (rset_any _ HPr.out HS.out).mono ?_
        rintro r w2 ⟨t5, al5, at5, rfl, hp2, hk2⟩
        have HP2 : Hid (RS b s d (k + 1) c ((σ'.step s.data.toList).take s.data.toList [97, 108, 108]) w2) := hp2
        have HK2 : Hid (RK b w w2) := HKr.out.trans hk2
        have LQ : Hid (LB b w w2.heap.size #[.string t5, .bool al5, .int .i64 at5, .int .i64 q, .int .i64 0, .bool false, .int .i64 (-1), .slice none 0 0, .slice none 0 0, .int .i64 (-1), .int .i64 0].toList (w2.alloc (.cells #[.string t5, .bool al5, .int .i64 at5, .int .i64 q, .int .i64 0, .bool false, .int .i64 (-1), .slice none 0 0, .slice none 0 0, .int .i64 (-1), .int .i64 0] 135))) := LB.new hp2 HK2.out.size #[.string t5, .bool al5, .int .i64 at5, .int .i64 q, .int .i64 0, .bool false, .int .i64 (-1), .slice none 0 0, .slice none 0 0, .int .i64 (-1), .int .i64 0] 135
        have l2 := hp2.lb
        clear hp2 hk2
        have hqs : qset t5 al5 at5 q = .agg #[.string t5, .bool al5, .int .i64 at5, .int .i64 q, .int .i64 0, .bool false, .int .i64 (-1), .slice none 0 0, .slice none 0 0, .int .i64 (-1), .int .i64 0] := rfl
        rw [hqs]
        go_wp2_with fail
        refine ((IH.out m (by omega)).term d (k + 1) c _ _ (by omega) (by show 32 * Sp.rem s.data.toList _ + 14 ≤ m; omega) (HP2.out.alloc _)).mono ?_
        rintro r w3 ⟨q3, rfl, hp3, hk3⟩
        have HP3 : Hid (RS b s d (k + 1) c (Sp.run s.data.toList m .term d ((σ'.step s.data.toList).take s.data.toList [97, 108, 108])) w3) := hp3
        have HK3 : Hid (RK b w w3) := (HK2.out.alloc l2 _).trans hk3
        have LQ3 : Hid (LB b w w2.heap.size #[.string t5, .bool al5, .int .i64 at5, .int .i64 q, .int .i64 0, .bool false, .int .i64 (-1), .slice none 0 0, .slice none 0 0, .int .i64 (-1), .int .i64 0].toList w3) := LQ.out.keep hk3
        have b3 := hp3.lb
        clear hp3 hk3
        have q0 := LQ3.out.cl 0 _ rfl
        have q1 := LQ3.out.cl 1 _ rfl
        have q2 := LQ3.out.cl 2 _ rfl
        have q3' := LQ3.out.cl 3 _ rfl
        have q4' := LQ3.out.cl 4 _ rfl
        have q5 := LQ3.out.cl 5 _ rfl
        have q6 := LQ3.out.cl 6 _ rfl
        have q7 := LQ3.out.cl 7 _ rfl
        have q8 := LQ3.out.cl 8 _ rfl
        have q9 := LQ3.out.cl 9 _ rfl
        have q10 := LQ3.out.cl 10 _ rfl
        have g4 := LQ3.out.fz 4
        go_wp2_with fail
        refine (radd_any (HP3.out.other w2.heap.size 4 LQ3.out.nf _) _ _ _ _ _ _ _ _ _ _ _ (one11 _ _ _ _ _ _ _ _ _ _ _ rfl rfl)).mono ?_
        rintro r w4 ⟨q4, rfl, hp4, hk4⟩
        have HP4 : Hid (RS b s d k c (Sp.run s.data.toList m .term d ((σ'.step s.data.toList).take s.data.toList [97, 108, 108])) w4) := hp4
        have HK4 : Hid (RK b w w4) := (HK3.out.new lb (p := ⟨w2.heap.size, 4, none⟩) HK2.out.size _).trans hk4
        clear hp4 hk4 q0 q1 q2 q3' q4' q5 q6 q7 q8 q9 q10
        go_wp2_with fail
        go_roundg m
        case measure => omega
        case rel => exact ⟨by omega, _, _, rfl, by omega, by show _ = _; rw [HR.out, HV.out], HP4.out, HK4.out⟩
      · have HV : Hid (Sp.run s.data.toList (m + 1) .queryL d σ' = Sp.run s.data.toList m .queryL d (Sp.run s.data.toList m .term d ((σ'.step s.data.toList).take s.data.toList [97, 108, 108]))) := by show _ = _; rw [Sp.run, hs]; rfl
        have h1 := Sp.rem_step_lt hs1
        have h3 := Sp.rem_take s.data.toList [97, 108, 108] (σ'.step s.data.toList)
        have h2 := Sp.rem_run s.data.toList m .term d ((σ'.step s.data.toList).take s.data.toList [97, 108, 108])
        have hz : (((er σ' : Nat) : Int) == 0) = true := by obtain ⟨e, rfl, _⟩ := is_live hs1; rfl
        have HS : Hid (σ'.is s.data.toList [117, 110, 105, 111, 110] = true) := hs1
        clear hs
        go_wp2_with fail
        refine (ris_any HPr.out [117, 110, 105, 111, 110]).mono ?_
        rintro r w9 ⟨rfl, rfl⟩
        go_wp2_with fail
        refine (rset_any _ HPr.out HS.out).mono ?_
        rintro r w2 ⟨t5, al5, at5, rfl, hp2, hk2⟩
        have HP2 : Hid (RS b s d (k + 1) c ((σ'.step s.data.toList).take s.data.toList [97, 108, 108]) w2) := hp2
        have HK2 : Hid (RK b w w2) := HKr.out.trans hk2
        have LQ : Hid (LB b w w2.heap.size #[.string t5, .bool al5, .int .i64 at5, .int .i64 q, .int .i64 0, .bool false, .int .i64 (-1), .slice none 0 0, .slice none 0 0, .int .i64 (-1), .int .i64 0].toList (w2.alloc (.cells #[.string t5, .bool al5, .int .i64 at5, .int .i64 q, .int .i64 0, .bool false, .int .i64 (-1), .slice none 0 0, .slice none 0 0, .int .i64 (-1), .int .i64 0] 135))) := LB.new hp2 HK2.out.size #[.string t5, .bool al5, .int .i64 at5, .int .i64 q, .int .i64 0, .bool false, .int .i64 (-1), .slice none 0 0, .slice none 0 0, .int .i64 (-1), .int .i64 0] 135
        have l2 := hp2.lb
        clear hp2 hk2
        have hqs : qset t5 al5 at5 q = .agg #[.string t5, .bool al5, .int .i64 at5, .int .i64 q, .int .i64 0, .bool false, .int .i64 (-1), .slice none 0 0, .slice none 0 0, .int .i64 (-1), .int .i64 0] := rfl
        rw [hqs]
        go_wp2_with fail
        refine ((IH.out m (by omega)).term d (k + 1) c _ _ (by omega) (by show 32 * Sp.rem s.data.toList _ + 14 ≤ m; omega) (HP2.out.alloc _)).mono ?_
        rintro r w3 ⟨q3, rfl, hp3, hk3⟩
        have HP3 : Hid (RS b s d (k + 1) c (Sp.run s.data.toList m .term d ((σ'.step s.data.toList).take s.data.toList [97, 108, 108])) w3) := hp3
        have HK3 : Hid (RK b w w3) := (HK2.out.alloc l2 _).trans hk3
        have LQ3 : Hid (LB b w w2.heap.size #[.string t5, .bool al5, .int .i64 at5, .int .i64 q, .int .i64 0, .bool false, .int .i64 (-1), .slice none 0 0, .slice none 0 0, .int .i64 (-1), .int .i64 0].toList w3) := LQ.out.keep hk3
        have b3 := hp3.lb
        clear hp3 hk3
        have q0 := LQ3.out.cl 0 _ rfl
        have q1 := LQ3.out.cl 1 _ rfl
        have q2 := LQ3.out.cl 2 _ rfl
        have q3' := LQ3.out.cl 3 _ rfl
        have q4' := LQ3.out.cl 4 _ rfl
        have q5 := LQ3.out.cl 5 _ rfl
        have q6 := LQ3.out.cl 6 _ rfl
        have q7 := LQ3.out.cl 7 _ rfl
        have q8 := LQ3.out.cl 8 _ rfl
        have q9 := LQ3.out.cl 9 _ rfl
        have q10 := LQ3.out.cl 10 _ rfl
        have g4 := LQ3.out.fz 4
        go_wp2_with fail
        refine (radd_any (HP3.out.other w2.heap.size 4 LQ3.out.nf _) _ _ _ _ _ _ _ _ _ _ _ (one11 _ _ _ _ _ _ _ _ _ _ _ rfl rfl)).mono ?_
        rintro r w4 ⟨q4, rfl, hp4, hk4⟩
        have HP4 : Hid (RS b s d k c (Sp.run s.data.toList m .term d ((σ'.step s.data.toList).take s.data.toList [97, 108, 108])) w4) := hp4
        have HK4 : Hid (RK b w w4) := (HK3.out.new lb (p := ⟨w2.heap.size, 4, none⟩) HK2.out.size _).trans hk4
        clear hp4 hk4 q0 q1 q2 q3' q4' q5 q6 q7 q8 q9 q10
        go_wp2_with fail
        go_roundg m
        case measure => omega
        case rel => exact ⟨by omega, _, _, rfl, by omega, by show _ = _; rw [HR.out, HV.out], HP4.out, HK4.out⟩

set_option maxHeartbeats 4000000 in
theorem rterm_step {b : Nat} {s : ByteArray} {n : Nat} (IH : Hid (∀ m, m ≤ n → RAll b s m)) : Rd b s (n + 1) .term 69 := by
  intro d k c σ w hd hm hp
  have hr := Sp.rem_run s.data.toList n .factor d σ
  have hm' : 32 * Sp.rem s.data.toList σ + 14 ≤ n + 1 := hm
  clear hm
  have HP : Hid (RS b s d k c σ w) := hp
  have lb := hp.lb
  clear hp
  go_enter Tryz.func69, Tryz.ntmps69
  go_wp2_with fail
  refine ((IH.out n (Nat.le_refl _)).factor d k c σ _ (by omega) (by show 32 * Sp.rem s.data.toList σ + 12 ≤ n; omega) HP.out).mono ?_
  rintro r w1 ⟨q1, rfl, hp1, hk1⟩
  have HP1 : Hid (RS b s d (k) c (Sp.run s.data.toList n .factor d σ) w1) := hp1
  have HK1 : Hid (RK b w w1) := hk1
  clear hp1 hk1
  go_wp2_with fail
  go_loopg [3] n (fun m u0 wr => m ≤ n ∧ ∃ (q : Int) (σ' : Sp.St), u0 = .int .i64 q ∧ 32 * Sp.rem s.data.toList σ' + 1 ≤ m ∧ Hid (Sp.run s.data.toList (n + 1) .term d σ = Sp.run s.data.toList m .termL d σ') ∧ Hid (RS b s d k c σ' wr) ∧ Hid (RK b w wr))
  case atStart => exact ⟨Nat.le_refl _, _, _, rfl, by omega, rfl, HP1.out, HK1.out⟩
  case round =>
    obtain ⟨hmn, q, σ', rfl, hms, HR, HPr, HKr⟩ := hrel
    obtain ⟨m, rfl⟩ : ∃ m, gk = m + 1 := ⟨gk - 1, by omega⟩
    have c7 := HPr.out.err
    cases hs : σ'.is s.data.toList [105, 110, 116, 101, 114, 115, 101, 99, 116]
    · have HV : Hid (Sp.run s.data.toList (m + 1) .termL d σ' = σ') := by show _ = _; rw [Sp.run, hs]; rfl
      cases σ' with
      | dead y a =>
        have hz := er_dead HPr.out
        clear hs
        go_wp2_with fail
        go_ret
        exact ⟨_, rfl, by rw [HR.out, HV.out]; exact HPr.out, HKr.out⟩
      | live e =>
        have hz : (((er (.live e) : Nat) : Int) == 0) = true := rfl
        go_wp2_with fail
        refine (ris_any HPr.out [105, 110, 116, 101, 114, 115, 101, 99, 116]).mono ?_
        rintro r w9 ⟨rfl, rfl⟩
        go_wp2_with fail
        go_ret
        exact ⟨_, rfl, by rw [HR.out, HV.out]; exact HPr.out, HKr.out⟩
    · have HV : Hid (Sp.run s.data.toList (m + 1) .termL d σ' = Sp.run s.data.toList m .termL d (Sp.run s.data.toList m .factor d ((σ'.step s.data.toList).take s.data.toList [97, 108, 108]))) := by show _ = _; rw [Sp.run, hs]; rfl
      have h1 := Sp.rem_step_lt hs
      have h3 := Sp.rem_take s.data.toList [97, 108, 108] (σ'.step s.data.toList)
      have h2 := Sp.rem_run s.data.toList m .factor d ((σ'.step s.data.toList).take s.data.toList [97, 108, 108])
      have hz : (((er σ' : Nat) : Int) == 0) = true := by obtain ⟨e, rfl, _⟩ := is_live hs; rfl
      have HS : Hid (σ'.is s.data.toList [105, 110, 116, 101, 114, 115, 101, 99, 116] = true) := hs
      go_wp2_with fail
      refine (ris_any HPr.out [105, 110, 116, 101, 114, 115, 101, 99, 116]).mono ?_
      rintro r w9 ⟨rfl, rfl⟩
      go_wp2_with fail
      refine (rset_any _ HPr.out HS.out).mono ?_
      rintro r w2 ⟨t5, al5, at5, rfl, hp2, hk2⟩
      have HP2 : Hid (RS b s d (k + 1) c ((σ'.step s.data.toList).take s.data.toList [97, 108, 108]) w2) := hp2
      have HK2 : Hid (RK b w w2) := HKr.out.trans hk2
      have LQ : Hid (LB b w w2.heap.size #[.string t5, .bool al5, .int .i64 at5, .int .i64 q, .int .i64 0, .bool false, .int .i64 (-1), .slice none 0 0, .slice none 0 0, .int .i64 (-1), .int .i64 0].toList (w2.alloc (.cells #[.string t5, .bool al5, .int .i64 at5, .int .i64 q, .int .i64 0, .bool false, .int .i64 (-1), .slice none 0 0, .slice none 0 0, .int .i64 (-1), .int .i64 0] 135))) := LB.new hp2 HK2.out.size #[.string t5, .bool al5, .int .i64 at5, .int .i64 q, .int .i64 0, .bool false, .int .i64 (-1), .slice none 0 0, .slice none 0 0, .int .i64 (-1), .int .i64 0] 135
      have l2 := hp2.lb
      clear hp2 hk2
      have hqs : qset t5 al5 at5 q = .agg #[.string t5, .bool al5, .int .i64 at5, .int .i64 q, .int .i64 0, .bool false, .int .i64 (-1), .slice none 0 0, .slice none 0 0, .int .i64 (-1), .int .i64 0] := rfl
      rw [hqs]
      go_wp2_with fail
      refine ((IH.out m (by omega)).factor d (k + 1) c _ _ (by omega) (by show 32 * Sp.rem s.data.toList _ + 12 ≤ m; omega) (HP2.out.alloc _)).mono ?_
      rintro r w3 ⟨q3, rfl, hp3, hk3⟩
      have HP3 : Hid (RS b s d (k + 1) c (Sp.run s.data.toList m .factor d ((σ'.step s.data.toList).take s.data.toList [97, 108, 108])) w3) := hp3
      have HK3 : Hid (RK b w w3) := (HK2.out.alloc l2 _).trans hk3
      have LQ3 : Hid (LB b w w2.heap.size #[.string t5, .bool al5, .int .i64 at5, .int .i64 q, .int .i64 0, .bool false, .int .i64 (-1), .slice none 0 0, .slice none 0 0, .int .i64 (-1), .int .i64 0].toList w3) := LQ.out.keep hk3
      have b3 := hp3.lb
      clear hp3 hk3
      have q0 := LQ3.out.cl 0 _ rfl
      have q1 := LQ3.out.cl 1 _ rfl
      have q2 := LQ3.out.cl 2 _ rfl
      have q3' := LQ3.out.cl 3 _ rfl
      have q4' := LQ3.out.cl 4 _ rfl
      have q5 := LQ3.out.cl 5 _ rfl
      have q6 := LQ3.out.cl 6 _ rfl
      have q7 := LQ3.out.cl 7 _ rfl
      have q8 := LQ3.out.cl 8 _ rfl
      have q9 := LQ3.out.cl 9 _ rfl
      have q10 := LQ3.out.cl 10 _ rfl
      have g4 := LQ3.out.fz 4
      go_wp2_with fail
      refine (radd_any (HP3.out.other w2.heap.size 4 LQ3.out.nf _) _ _ _ _ _ _ _ _ _ _ _ (one11 _ _ _ _ _ _ _ _ _ _ _ rfl rfl)).mono ?_
      rintro r w4 ⟨q4, rfl, hp4, hk4⟩
      have HP4 : Hid (RS b s d k c (Sp.run s.data.toList m .factor d ((σ'.step s.data.toList).take s.data.toList [97, 108, 108])) w4) := hp4
      have HK4 : Hid (RK b w w4) := (HK3.out.new lb (p := ⟨w2.heap.size, 4, none⟩) HK2.out.size _).trans hk4
      clear hp4 hk4 q0 q1 q2 q3' q4' q5 q6 q7 q8 q9 q10
      go_wp2_with fail
      go_roundg m
      case measure => omega
      case rel => exact ⟨by omega, _, _, rfl, by omega, by show _ = _; rw [HR.out, HV.out], HP4.out, HK4.out⟩

end Go.Proofs.YtpgeiieapkbjhaaGreatDoor
