import Derived.Test.YtpgeiieapkbjhaaGreatDoorR11
namespace Go.Proofs.YtpgeiieapkbjhaaGreatDoor
open Go.RowKit

set_option maxHeartbeats 2000000 in
theorem rno_step {b : Nat} {s : ByteArray} {n : Nat} (IH : Hid (∀ m, m ≤ n → RAll b s m)) : Rd b s (n + 1) .no 119 := by
  intro d k c σ w hd hm hp
  have hm' : 32 * Sp.rem s.data.toList σ + 7 ≤ n + 1 := hm
  clear hm
  have HP : Hid (RS b s d k c σ w) := hp
  have lb := hp.lb
  clear hp
  cases hs : σ.is s.data.toList [110, 111, 116]
  · have HV : Hid (Sp.run s.data.toList (n + 1) .no d σ = Sp.run s.data.toList n .compare d σ) := by show _ = _; rw [Sp.run, hs]; rfl
    go_enter Tryz.func119, Tryz.ntmps119
    go_wp2_with fail
    refine (ris_any HP.out [110, 111, 116]).mono ?_
    rintro r w9 ⟨rfl, rfl⟩
    go_wp2_with fail
    refine ((IH.out n (Nat.le_refl _)).compare d k c _ _ (by omega) (by show 32 * Sp.rem s.data.toList _ + 6 ≤ n; omega) HP.out).mono ?_
    rintro r w2 ⟨q2, rfl, hp2, hk2⟩
    have HP2 : Hid (RS b s d (k) c (Sp.run s.data.toList n .compare d σ) w2) := hp2
    have HK2 : Hid (RK b w9 w2) := hk2
    clear hp2 hk2
    go_wp2_with fail
    go_ret
    exact ⟨_, rfl, by rw [HV.out]; exact HP2.out, HK2.out⟩
  · have HV : Hid (Sp.run s.data.toList (n + 1) .no d σ = Sp.run s.data.toList n .no (d + 1) (σ.openT s.data.toList d)) := by show _ = _; rw [Sp.run, hs]; rfl
    have h1 := Sp.rem_openT_lt (d := d) hs
    obtain ⟨ta, c2⟩ := HP.out.tat
    go_enter Tryz.func119, Tryz.ntmps119
    go_wp2_with fail
    refine (ris_any HP.out [110, 111, 116]).mono ?_
    rintro r w9 ⟨rfl, rfl⟩
    go_wp2_with fail
    refine (ropen_any HP.out hs (by omega)).mono ?_
    rintro r w2 ⟨rfl, hp2, hk2⟩
    have HP2 : Hid (RS b s (d + 1) (k + 1) c (σ.openT s.data.toList d) w2) := hp2
    have HK2 : Hid (RK b w9 w2) := hk2
    clear hp2 hk2
    have c7 := HP2.out.err
    clear c2
    cases ho : σ.openT s.data.toList d with
    | dead y a =>
      rw [ho] at HP2 c7
      have hz := er_dead HP2.out
      obtain ⟨c6, f6⟩ := HP2.out.opn
      have HV2 : Hid (Sp.run s.data.toList n .no (d + 1) (.dead y a) = .dead y a) := run_dead _ _ _ _ _ _
      have l2 := HP2.out.lb
      go_wp2_with fail
      refine (rnode_any ((HP2.out.deep (d' := d) _ (by omega)).alloc _) _ _ _ _ _ _ _ _ _ (one9 _ _ _ _ _ _ _ _ _ rfl rfl rfl)).mono ?_
      rintro r w3 ⟨q3, rfl, hp3, hk3⟩
      have HP3 : Hid (RS b s d (k) c (.dead y a) w3) := hp3
      have HK3 : Hid (RK b w9 w3) := ((HK2.out.set 6 (by decide) _).alloc (by simpa using l2) _).trans hk3
      clear hp3 hk3
      go_wp2_with fail
      go_ret
      exact ⟨_, rfl, by rw [HV.out, ho, HV2.out]; exact HP3.out, HK3.out⟩
    | live e =>
      rw [ho] at HP2 c7 h1
      have hz : (((er (.live e) : Nat) : Int) == 0) = true := rfl
      go_wp2_with fail
      refine ((IH.out n (Nat.le_refl _)).no (d + 1) (k + 1) c _ _ (by omega) (by show 32 * Sp.rem s.data.toList _ + 7 ≤ n; omega) HP2.out).mono ?_
      rintro r w3 ⟨q3, rfl, hp3, hk3⟩
      have HP3 : Hid (RS b s (d + 1) (k + 1) c (Sp.run s.data.toList n .no (d + 1) (.live e)) w3) := hp3
      have HK3 : Hid (RK b w9 w3) := HK2.out.trans hk3
      clear hp3 hk3 c7
      obtain ⟨c6, f6⟩ := HP3.out.opn
      have l3 := HP3.out.lb
      go_wp2_with fail
      refine (rnode_any ((HP3.out.deep (d' := d) _ (by omega)).alloc _) _ _ _ _ _ _ _ _ _ (one9 _ _ _ _ _ _ _ _ _ rfl rfl rfl)).mono ?_
      rintro r w4 ⟨q4, rfl, hp4, hk4⟩
      have HP4 : Hid (RS b s d (k) c (Sp.run s.data.toList n .no (d + 1) (.live e)) w4) := hp4
      have HK4 : Hid (RK b w9 w4) := ((HK3.out.set 6 (by decide) _).alloc (by simpa using l3) _).trans hk4
      clear hp4 hk4
      go_wp2_with fail
      go_ret
      exact ⟨_, rfl, by rw [HV.out, ho]; exact HP4.out, HK4.out⟩

set_option maxHeartbeats 2000000 in
theorem runary_step {b : Nat} {s : ByteArray} {n : Nat} (IH : Hid (∀ m, m ≤ n → RAll b s m)) : Rd b s (n + 1) .unary 151 := by
  intro d k c σ w hd hm hp
  have hm' : 32 * Sp.rem s.data.toList σ + 3 ≤ n + 1 := hm
  clear hm
  have HP : Hid (RS b s d k c σ w) := hp
  have lb := hp.lb
  clear hp
  cases hs : σ.is s.data.toList [45]
  · have HV : Hid (Sp.run s.data.toList (n + 1) .unary d σ = Sp.run s.data.toList n .atom d σ) := by show _ = _; rw [Sp.run, hs]; rfl
    go_enter Tryz.func151, Tryz.ntmps151
    go_wp2_with fail
    refine (ris_any HP.out [45]).mono ?_
    rintro r w9 ⟨rfl, rfl⟩
    go_wp2_with fail
    refine ((IH.out n (Nat.le_refl _)).atom d k c _ _ (by omega) (by show 32 * Sp.rem s.data.toList _ + 2 ≤ n; omega) HP.out).mono ?_
    rintro r w2 ⟨q2, rfl, hp2, hk2⟩
    have HP2 : Hid (RS b s d (k) c (Sp.run s.data.toList n .atom d σ) w2) := hp2
    have HK2 : Hid (RK b w9 w2) := hk2
    clear hp2 hk2
    go_wp2_with fail
    go_ret
    exact ⟨_, rfl, by rw [HV.out]; exact HP2.out, HK2.out⟩
  · have HV : Hid (Sp.run s.data.toList (n + 1) .unary d σ = Sp.run s.data.toList n .unary (d + 1) (σ.openT s.data.toList d)) := by show _ = _; rw [Sp.run, hs]; rfl
    have h1 := Sp.rem_openT_lt (d := d) hs
    obtain ⟨ta, c2⟩ := HP.out.tat
    go_enter Tryz.func151, Tryz.ntmps151
    go_wp2_with fail
    refine (ris_any HP.out [45]).mono ?_
    rintro r w9 ⟨rfl, rfl⟩
    go_wp2_with fail
    refine (ropen_any HP.out hs (by omega)).mono ?_
    rintro r w2 ⟨rfl, hp2, hk2⟩
    have HP2 : Hid (RS b s (d + 1) (k + 1) c (σ.openT s.data.toList d) w2) := hp2
    have HK2 : Hid (RK b w9 w2) := hk2
    clear hp2 hk2
    have c7 := HP2.out.err
    clear c2
    cases ho : σ.openT s.data.toList d with
    | dead y a =>
      rw [ho] at HP2 c7
      have hz := er_dead HP2.out
      obtain ⟨c6, f6⟩ := HP2.out.opn
      have HV2 : Hid (Sp.run s.data.toList n .unary (d + 1) (.dead y a) = .dead y a) := run_dead _ _ _ _ _ _
      have l2 := HP2.out.lb
      go_wp2_with fail
      refine (rnode_any ((HP2.out.deep (d' := d) _ (by omega)).alloc _) _ _ _ _ _ _ _ _ _ (one9 _ _ _ _ _ _ _ _ _ rfl rfl rfl)).mono ?_
      rintro r w3 ⟨q3, rfl, hp3, hk3⟩
      have HP3 : Hid (RS b s d (k) c (.dead y a) w3) := hp3
      have HK3 : Hid (RK b w9 w3) := ((HK2.out.set 6 (by decide) _).alloc (by simpa using l2) _).trans hk3
      clear hp3 hk3
      go_wp2_with fail
      go_ret
      exact ⟨_, rfl, by rw [HV.out, ho, HV2.out]; exact HP3.out, HK3.out⟩
    | live e =>
      rw [ho] at HP2 c7 h1
      have hz : (((er (.live e) : Nat) : Int) == 0) = true := rfl
      go_wp2_with fail
      refine ((IH.out n (Nat.le_refl _)).unary (d + 1) (k + 1) c _ _ (by omega) (by show 32 * Sp.rem s.data.toList _ + 3 ≤ n; omega) HP2.out).mono ?_
      rintro r w3 ⟨q3, rfl, hp3, hk3⟩
      have HP3 : Hid (RS b s (d + 1) (k + 1) c (Sp.run s.data.toList n .unary (d + 1) (.live e)) w3) := hp3
      have HK3 : Hid (RK b w9 w3) := HK2.out.trans hk3
      clear hp3 hk3 c7
      obtain ⟨c6, f6⟩ := HP3.out.opn
      have l3 := HP3.out.lb
      go_wp2_with fail
      refine (rnode_any ((HP3.out.deep (d' := d) _ (by omega)).alloc _) _ _ _ _ _ _ _ _ _ (one9 _ _ _ _ _ _ _ _ _ rfl rfl rfl)).mono ?_
      rintro r w4 ⟨q4, rfl, hp4, hk4⟩
      have HP4 : Hid (RS b s d (k) c (Sp.run s.data.toList n .unary (d + 1) (.live e)) w4) := hp4
      have HK4 : Hid (RK b w9 w4) := ((HK3.out.set 6 (by decide) _).alloc (by simpa using l3) _).trans hk4
      clear hp4 hk4
      go_wp2_with fail
      go_ret
      exact ⟨_, rfl, by rw [HV.out, ho]; exact HP4.out, HK4.out⟩

/-- A query in ( ). -/
theorem inside_eq (s : Sp.Bs) (n d : Nat) (σ : Sp.St) (h : σ.is s [40] = false) : (Sp.run s n .query (d + 1) (σ.opened s [40] d)).must s [41] = σ.fail s 2 := by
  have e : σ.opened s [40] d = σ.fail s 2 := by rw [Sp.St.opened, h]; rfl
  rw [e]
  have : ∃ x a, σ.fail s 2 = .dead x a := by cases σ <;> exact ⟨_, _, rfl⟩
  obtain ⟨x, a, hx⟩ := this
  rw [hx, run_dead]; rfl

theorem far_must (s : Sp.Bs) (z : Sp.Bs) (σ : Sp.St) : far s σ ≤ far s (σ.must s z) := by
  cases h : σ.is s z
  · rw [Sp.St.must, h]; exact far_fail s 2 σ
  · rw [Sp.St.must, h]; exact Nat.le_of_lt (far_is h)

set_option maxHeartbeats 2000000 in
theorem rinside_any {b : Nat} {s : ByteArray} {n d k : Nat} {c : Ct} {σ : Sp.St} {w : World} (IA : Hid (RAll b s n)) (hd : d + n + 1 ≤ 1000000) (hm : 32 * Sp.rem s.data.toList (σ.opened s.data.toList [40] d) + 15 ≤ n) (HP : Hid (RS b s d k c σ w)) :
    Calls Tryz.prog 118 #[.pointer (some ⟨b, 0, none⟩)] w (RI b s d k c ((Sp.run s.data.toList n .query (d + 1) (σ.opened s.data.toList [40] d)).must s.data.toList [41]) w) := by
  cases hs : σ.is s.data.toList [40]
  · rw [inside_eq _ _ _ _ hs]
    go_enter Tryz.func118, Tryz.ntmps118
    go_wp2_with fail
    refine (ris_any HP.out [40]).mono ?_
    rintro r w9 ⟨rfl, rfl⟩
    go_wp2_with fail
    refine (rfail_any HP.out 2 (by decide) k (by have := far_fail s.data.toList 2 σ; omega)).mono ?_
    rintro r w2 ⟨rfl, hp2, hk2⟩
    have HP2 : Hid (RS b s d (k) c (σ.fail s.data.toList 2) w2) := hp2
    have HK2 : Hid (RK b w9 w2) := hk2
    clear hp2 hk2
    go_wp2_with fail
    go_ret
    exact ⟨_, rfl, HP2.out, HK2.out⟩
  · rw [opened_is hs] at hm ⊢
    go_enter Tryz.func118, Tryz.ntmps118
    go_wp2_with fail
    refine (ris_any HP.out [40]).mono ?_
    rintro r w9 ⟨rfl, rfl⟩
    go_wp2_with fail
    refine (ropen_any HP.out hs (by omega)).mono ?_
    rintro r w2 ⟨rfl, hp2, hk2⟩
    have HP2 : Hid (RS b s (d + 1) (k + 1) c (σ.openT s.data.toList d) w2) := hp2
    have HK2 : Hid (RK b w9 w2) := hk2
    clear hp2 hk2
    go_wp2_with fail
    refine (IA.out.query (d + 1) (k + 1) c _ _ (by omega) hm HP2.out).mono ?_
    rintro r w3 ⟨q3, rfl, hp3, hk3⟩
    have HP3 : Hid (RS b s (d + 1) (k + 1) c (Sp.run s.data.toList n .query (d + 1) (σ.openT s.data.toList d)) w3) := hp3
    have HK3 : Hid (RK b w9 w3) := HK2.out.trans hk3
    clear hp3 hk3
    go_wp2_with fail
    refine (rmust_any HP3.out [41] k (by have := far_must s.data.toList [41] (Sp.run s.data.toList n .query (d + 1) (σ.openT s.data.toList d)); omega)).mono ?_
    rintro r w4 ⟨rfl, hp4, hk4⟩
    have HP4 : Hid (RS b s (d + 1) (k) c ((Sp.run s.data.toList n .query (d + 1) (σ.openT s.data.toList d)).must s.data.toList [41]) w4) := hp4
    have HK4 : Hid (RK b w9 w4) := HK3.out.trans hk4
    clear hp4 hk4
    obtain ⟨c6, f6⟩ := HP4.out.opn
    go_wp2_with fail
    go_ret
    exact ⟨_, rfl, HP4.out.deep (d' := d) _ (by omega), HK4.out.set 6 (by decide) _⟩

set_option maxHeartbeats 2000000 in
theorem rwhere_step {b : Nat} {s : ByteArray} {n : Nat} (IH : Hid (∀ m, m ≤ n → RAll b s m)) : RdW b s (n + 1) := by
  intro d k c σ w hd hm hp
  have HP : Hid (RS b s d k c σ w) := hp
  clear hp
  obtain ⟨ta, c2⟩ := HP.out.tat
  cases hs : σ.is s.data.toList [119, 104, 101, 114, 101]
  · have HV : Hid (Sp.run s.data.toList (n + 1) .where_ d σ = σ) := by show _ = _; rw [Sp.run, hs]; rfl
    have HT : Hid (σ.take s.data.toList [119, 104, 101, 114, 101] = σ) := take_no hs
    go_enter Tryz.func41, Tryz.ntmps41
    go_wp2_with fail
    refine (rtake_any HP.out [119, 104, 101, 114, 101]).mono ?_
    rintro r w2 ⟨rfl, hp2, hk2⟩
    rw [HT.out] at hp2
    have HP2 : Hid (RS b s d (k) c (σ) w2) := hp2
    have HK2 : Hid (RK b w w2) := hk2
    clear hp2 hk2
    go_wp2_with fail
    go_ret2
    exact ⟨_, _, rfl, by rw [HV.out]; exact HP2.out, HK2.out⟩
  · have HV : Hid (Sp.run s.data.toList (n + 1) .where_ d σ = Sp.run s.data.toList n .expr d (σ.step s.data.toList)) := by show _ = _; rw [Sp.run, hs]; rfl
    have HT : Hid (σ.take s.data.toList [119, 104, 101, 114, 101] = σ.step s.data.toList) := take_yes hs
    have h1 := Sp.rem_step_lt hs
    go_enter Tryz.func41, Tryz.ntmps41
    go_wp2_with fail
    refine (rtake_any HP.out [119, 104, 101, 114, 101]).mono ?_
    rintro r w2 ⟨rfl, hp2, hk2⟩
    rw [HT.out] at hp2
    have HP2 : Hid (RS b s d (k) c (σ.step s.data.toList) w2) := hp2
    have HK2 : Hid (RK b w w2) := hk2
    clear hp2 hk2
    go_wp2_with fail
    refine ((IH.out n (Nat.le_refl _)).expr d k c _ _ (by omega) (by show 32 * Sp.rem s.data.toList _ + 9 ≤ n; omega) HP2.out).mono ?_
    rintro r w3 ⟨q3, rfl, hp3, hk3⟩
    have HP3 : Hid (RS b s d (k) c (Sp.run s.data.toList n .expr d (σ.step s.data.toList)) w3) := hp3
    have HK3 : Hid (RK b w w3) := HK2.out.trans hk3
    clear hp3 hk3
    go_wp2_with fail
    go_ret2
    exact ⟨_, _, rfl, by rw [HV.out]; exact HP3.out, HK3.out⟩
end Go.Proofs.YtpgeiieapkbjhaaGreatDoor
