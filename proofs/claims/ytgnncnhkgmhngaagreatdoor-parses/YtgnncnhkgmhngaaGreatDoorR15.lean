import Derived.Test.YtgnncnhkgmhngaaGreatDoorR14
import Derived.Test.YtgnncnhkgmhngaaGreatDoorRx
namespace Go.Proofs.YtgnncnhkgmhngaaGreatDoor
open Go.RowKit

def cmpB (l : Sp.Bs) : Bool := l == [61] || l == [60, 62] || l == [60] || l == [60, 61] || l == [62] || l == [62, 61]

set_option maxHeartbeats 1000000 in
theorem compares_any (t : ByteArray) (w : World) :
    Calls Tryz.prog 277 #[.string t] w fun r w' => r = .returned (.bool (cmpB t.toList)) ∧ w' = w := by
  cases h1 : (t.toList == [61])
  · cases h2 : (t.toList == [60, 62])
    · cases h3 : (t.toList == [60])
      · cases h4 : (t.toList == [60, 61])
        · cases h5 : (t.toList == [62])
          · have HV : Hid (cmpB t.toList = (t.toList == [62, 61])) := by show _ = _; rw [cmpB, h1, h2, h3, h4, h5]; rfl
            go_enter Tryz.func277, Tryz.ntmps277
            go_wp2_with fail
            go_ret
            exact ⟨ret_bool (by rw [HV.out]), rfl⟩
          · have HV : Hid (cmpB t.toList = true) := by show _ = _; rw [cmpB, h1, h2, h3, h4, h5]; rfl
            go_enter Tryz.func277, Tryz.ntmps277
            go_wp2_with fail
            go_ret
            exact ⟨ret_bool (by rw [HV.out]), rfl⟩
        · have HV : Hid (cmpB t.toList = true) := by show _ = _; rw [cmpB, h1, h2, h3, h4]; rfl
          go_enter Tryz.func277, Tryz.ntmps277
          go_wp2_with fail
          go_ret
          exact ⟨ret_bool (by rw [HV.out]), rfl⟩
      · have HV : Hid (cmpB t.toList = true) := by show _ = _; rw [cmpB, h1, h2, h3]; rfl
        go_enter Tryz.func277, Tryz.ntmps277
        go_wp2_with fail
        go_ret
        exact ⟨ret_bool (by rw [HV.out]), rfl⟩
    · have HV : Hid (cmpB t.toList = true) := by show _ = _; rw [cmpB, h1, h2]; rfl
      go_enter Tryz.func277, Tryz.ntmps277
      go_wp2_with fail
      go_ret
      exact ⟨ret_bool (by rw [HV.out]), rfl⟩
  · have HV : Hid (cmpB t.toList = true) := by show _ = _; rw [cmpB, h1]; rfl
    go_enter Tryz.func277, Tryz.ntmps277
    go_wp2_with fail
    go_ret
    exact ⟨ret_bool (by rw [HV.out]), rfl⟩

theorem cmp_is {s : Sp.Bs} {x : RD} {σ : Sp.St} (h : RT s x σ) (hk : x.kd.toList = [107, 101, 121]) : σ.isCmp s = cmpB x.ts.toList := by
  simp only [Sp.St.isCmp, cmpB, rt_key h, hk, decide_true, Bool.true_and]
theorem is_word {s : Sp.Bs} {x : RD} {σ : Sp.St} (h : RT s x σ) (hk : x.kd.toList = [107, 101, 121]) (z : Sp.Bs) : σ.is s z = (x.ts.toList == z) := by
  simp only [rt_key h, hk, decide_true, Bool.true_and]
theorem is_nokey {s : Sp.Bs} {x : RD} {σ : Sp.St} (h : RT s x σ) (hk : ¬ x.kd.toList = [107, 101, 121]) (z : Sp.Bs) : σ.is s z = false := by
  rw [rt_key h, decide_eq_false hk]; rfl
theorem cmp_nokey {s : Sp.Bs} {x : RD} {σ : Sp.St} (h : RT s x σ) (hk : ¬ x.kd.toList = [107, 101, 121]) : σ.isCmp s = false := by
  simp only [Sp.St.isCmp, is_nokey h hk, Bool.or_self]

theorem erne_dead {b : Nat} {s : ByteArray} {d k : Nat} {c : Ct} {y a : Nat} {w : World} (h : RS b s d k c (.dead y a) w) : (((er (.dead y a) : Nat) : Int) != 0) = true := by
  have := er_dead h
  rw [bne, this]; rfl

set_option maxHeartbeats 4000000 in
theorem rcmp_dead {b : Nat} {s : ByteArray} {n d k : Nat} {c : Ct} {σ : Sp.St} {w : World} (IH : Hid (∀ m, m ≤ n → RAll b s m)) (hd : d + (n + 1) ≤ 1000000) (hm' : 32 * Sp.rem s.data.toList σ + 6 ≤ n + 1) (HP : Hid (RS b s d k c σ w)) (σ1 : Sp.St) (E1 : Hid (Sp.run s.data.toList n .sum d σ = σ1)) (y a : Nat) (hd1 : σ1 = .dead y a) :
    Calls Tryz.prog 245 #[.pointer (some ⟨b, 0, none⟩)] w (RI b s d k c (cmpR s.data.toList n d σ1) w) := by
  have r1 : Sp.rem s.data.toList σ1 ≤ Sp.rem s.data.toList σ := by rw [← E1.out]; exact Sp.rem_run _ _ _ _ _
  have HV : Hid (cmpR s.data.toList n d σ1 = σ1) := by show _ = _; rw [hd1]; rfl
  go_enter Tryz.func245, Tryz.ntmps245
  go_wp2_with fail
  refine ((IH.out n (Nat.le_refl _)).sum d k c σ _ (by omega) (by show 32 * Sp.rem s.data.toList σ + 5 ≤ n; omega) HP.out).mono ?_
  rintro r w1 ⟨q1, rfl, hp1, hk1⟩
  rw [E1.out] at hp1
  have HP1 : Hid (RS b s d k c σ1 w1) := hp1
  have HK1 : Hid (RK b w w1) := hk1
  clear hp1 hk1
  have c7 := HP1.out.err
  subst hd1
  have hz := erne_dead HP1.out
  go_wp2_with fail
  go_ret
  exact ⟨_, rfl, by rw [HV.out]; exact HP1.out, HK1.out⟩

set_option maxHeartbeats 4000000 in
theorem rcmp_nokey {b : Nat} {s : ByteArray} {n d k : Nat} {c : Ct} {σ : Sp.St} {w : World} (IH : Hid (∀ m, m ≤ n → RAll b s m)) (hd : d + (n + 1) ≤ 1000000) (hm' : 32 * Sp.rem s.data.toList σ + 6 ≤ n + 1) (HP : Hid (RS b s d k c σ w)) (σ1 : Sp.St) (E1 : Hid (Sp.run s.data.toList n .sum d σ = σ1)) (e : Nat) (hd1 : σ1 = .live e) (h0 : ¬ Sp.tokCl s.data.toList e = .key) :
    Calls Tryz.prog 245 #[.pointer (some ⟨b, 0, none⟩)] w (RI b s d k c (cmpR s.data.toList n d σ1) w) := by
  have r1 : Sp.rem s.data.toList σ1 ≤ Sp.rem s.data.toList σ := by rw [← E1.out]; exact Sp.rem_run _ _ _ _ _
  have HV : Hid (cmpR s.data.toList n d σ1 = σ1) := by
    have hi : ∀ z, σ1.is s.data.toList z = false := fun z => by subst hd1; simp [Sp.St.is, h0]
    show _ = _
    simp only [cmpR, Sp.St.isCmp, hi, Bool.or_self, Bool.false_eq_true, if_false]
  go_enter Tryz.func245, Tryz.ntmps245
  go_wp2_with fail
  refine ((IH.out n (Nat.le_refl _)).sum d k c σ _ (by omega) (by show 32 * Sp.rem s.data.toList σ + 5 ≤ n; omega) HP.out).mono ?_
  rintro r w1 ⟨q1, rfl, hp1, hk1⟩
  rw [E1.out] at hp1
  have HP1 : Hid (RS b s d k c σ1 w1) := hp1
  have HK1 : Hid (RK b w w1) := hk1
  clear hp1 hk1
  have c7 := HP1.out.err
  subst hd1
  have hz : (((er (.live e) : Nat) : Int) != 0) = false := rfl
  obtain ⟨_, x, hc, _, ht⟩ := HP1.out
  have c1 := hc.c1
  have c2 := hc.c2
  have c3 := hc.c3
  have hk : (x.kd.toList == [107, 101, 121]) = false := by
    rw [ht.2.1]
    cases hh : (kname (Sp.tokCl s.data.toList e) == [107, 101, 121])
    · rfl
    · exact absurd (kname_key (eq_of_beq hh)) h0
  clear hc ht
  go_wp2_with fail
  go_ret
  exact ⟨_, rfl, by rw [HV.out]; exact HP1.out, HK1.out⟩

set_option maxHeartbeats 4000000 in
theorem rcmp_cmp {b : Nat} {s : ByteArray} {n d k : Nat} {c : Ct} {σ : Sp.St} {w : World} (IH : Hid (∀ m, m ≤ n → RAll b s m)) (hd : d + (n + 1) ≤ 1000000) (hm' : 32 * Sp.rem s.data.toList σ + 6 ≤ n + 1) (HP : Hid (RS b s d k c σ w)) (σ1 : Sp.St) (E1 : Hid (Sp.run s.data.toList n .sum d σ = σ1)) (e : Nat) (hd1 : σ1 = .live e) (h0 : Sp.tokCl s.data.toList e = .key) (h_c : σ1.isCmp s.data.toList = true) :
    Calls Tryz.prog 245 #[.pointer (some ⟨b, 0, none⟩)] w (RI b s d k c (cmpR s.data.toList n d σ1) w) := by
  have r1 : Sp.rem s.data.toList σ1 ≤ Sp.rem s.data.toList σ := by rw [← E1.out]; exact Sp.rem_run _ _ _ _ _
  have HV : Hid (cmpR s.data.toList n d σ1 = Sp.run s.data.toList n .sum d (σ1.step s.data.toList)) := by show _ = _; rw [cmpR, h_c]; rfl
  have r2 := rem_cmp h_c
  go_enter Tryz.func245, Tryz.ntmps245
  go_wp2_with fail
  refine ((IH.out n (Nat.le_refl _)).sum d k c σ _ (by omega) (by show 32 * Sp.rem s.data.toList σ + 5 ≤ n; omega) HP.out).mono ?_
  rintro r w1 ⟨q1, rfl, hp1, hk1⟩
  rw [E1.out] at hp1
  have HP1 : Hid (RS b s d k c σ1 w1) := hp1
  have HK1 : Hid (RK b w w1) := hk1
  clear hp1 hk1
  have c7 := HP1.out.err
  subst hd1
  have hz : (((er (.live e) : Nat) : Int) != 0) = false := rfl
  obtain ⟨_, x, hc, _, ht⟩ := HP1.out
  have c1 := hc.c1
  have c2 := hc.c2
  have c3 := hc.c3
  have hk : (x.kd.toList == [107, 101, 121]) = true := by rw [ht.2.1, h0]; rfl
  have hkk := eq_of_beq hk
  have tc : cmpB x.ts.toList = true := by rw [← cmp_is ht hkk]; exact h_c
  clear hc ht hkk
  go_wp2_with fail
  refine (compares_any _ _).mono ?_
  rintro r w9 ⟨rfl, rfl⟩
  go_wp2_with fail
  refine (rstep_any HP1.out (by rw [h0]; decide) (by rw [h0]; decide)).mono ?_
  rintro r w2 ⟨rfl, hp2, hk2⟩
  have HP2 : Hid (RS b s d (k + 1) c ((Sp.St.live e).step s.data.toList) w2) := hp2
  have HK2 : Hid (RK b w w2) := HK1.out.trans hk2
  clear hp2 hk2
  go_wp2_with fail
  refine ((IH.out n (Nat.le_refl _)).sum d (k + 1) c _ _ (by omega) (by show 32 * Sp.rem s.data.toList _ + 5 ≤ n; omega) HP2.out).mono ?_
  rintro r w3 ⟨q3, rfl, hp3, hk3⟩
  have HP3 : Hid (RS b s d (k + 1) c (Sp.run s.data.toList n .sum d ((Sp.St.live e).step s.data.toList)) w3) := hp3
  have HK3 : Hid (RK b w w3) := HK2.out.trans hk3
  clear hp3 hk3
  go_wp2_with fail
  refine (rpair_any HP3.out _ _ _ _).mono ?_
  rintro r w4 ⟨q4, rfl, hp4, hk4⟩
  have HP4 : Hid (RS b s d (k) c (Sp.run s.data.toList n .sum d ((Sp.St.live e).step s.data.toList)) w4) := hp4
  have HK4 : Hid (RK b w w4) := HK3.out.trans hk4
  clear hp4 hk4
  go_wp2_with fail
  go_ret
  exact ⟨_, rfl, by rw [HV.out]; exact HP4.out, HK4.out⟩

set_option maxHeartbeats 4000000 in
theorem rcmp_is {b : Nat} {s : ByteArray} {n d k : Nat} {c : Ct} {σ : Sp.St} {w : World} (IH : Hid (∀ m, m ≤ n → RAll b s m)) (hd : d + (n + 1) ≤ 1000000) (hm' : 32 * Sp.rem s.data.toList σ + 6 ≤ n + 1) (HP : Hid (RS b s d k c σ w)) (σ1 : Sp.St) (E1 : Hid (Sp.run s.data.toList n .sum d σ = σ1)) (e : Nat) (hd1 : σ1 = .live e) (h0 : Sp.tokCl s.data.toList e = .key) (h_c : σ1.isCmp s.data.toList = false) (h_is : σ1.is s.data.toList [105, 115] = true) :
    Calls Tryz.prog 245 #[.pointer (some ⟨b, 0, none⟩)] w (RI b s d k c (cmpR s.data.toList n d σ1) w) := by
  have r1 : Sp.rem s.data.toList σ1 ≤ Sp.rem s.data.toList σ := by rw [← E1.out]; exact Sp.rem_run _ _ _ _ _
  have HV : Hid (cmpR s.data.toList n d σ1 = ((σ1.step s.data.toList).take s.data.toList [110, 111, 116]).must s.data.toList [110, 117, 108, 108]) := by show _ = _; rw [cmpR, h_c, h_is]; rfl
  go_enter Tryz.func245, Tryz.ntmps245
  go_wp2_with fail
  refine ((IH.out n (Nat.le_refl _)).sum d k c σ _ (by omega) (by show 32 * Sp.rem s.data.toList σ + 5 ≤ n; omega) HP.out).mono ?_
  rintro r w1 ⟨q1, rfl, hp1, hk1⟩
  rw [E1.out] at hp1
  have HP1 : Hid (RS b s d k c σ1 w1) := hp1
  have HK1 : Hid (RK b w w1) := hk1
  clear hp1 hk1
  have c7 := HP1.out.err
  subst hd1
  have hz : (((er (.live e) : Nat) : Int) != 0) = false := rfl
  obtain ⟨_, x, hc, _, ht⟩ := HP1.out
  have c1 := hc.c1
  have c2 := hc.c2
  have c3 := hc.c3
  have hk : (x.kd.toList == [107, 101, 121]) = true := by rw [ht.2.1, h0]; rfl
  have hkk := eq_of_beq hk
  have tc : cmpB x.ts.toList = false := by rw [← cmp_is ht hkk]; exact h_c
  have t_is : (x.ts.toList == [105, 115]) = true := by rw [← is_word ht hkk]; exact h_is
  clear hc ht hkk
  go_wp2_with fail
  refine (compares_any _ _).mono ?_
  rintro r w9 ⟨rfl, rfl⟩
  go_wp2_with fail
  refine (rstep_any HP1.out (by rw [h0]; decide) (by rw [h0]; decide)).mono ?_
  rintro r w2 ⟨rfl, hp2, hk2⟩
  have HP2 : Hid (RS b s d (k + 1) c ((Sp.St.live e).step s.data.toList) w2) := hp2
  have HK2 : Hid (RK b w w2) := HK1.out.trans hk2
  clear hp2 hk2
  go_wp2_with fail
  refine (rtake_any HP2.out [110, 111, 116]).mono ?_
  rintro r w3 ⟨rfl, hp3, hk3⟩
  have HP3 : Hid (RS b s d (k + 1) c (((Sp.St.live e).step s.data.toList).take s.data.toList [110, 111, 116]) w3) := hp3
  have HK3 : Hid (RK b w w3) := HK2.out.trans hk3
  clear hp3 hk3
  cases hnn : ((Sp.St.live e).step s.data.toList).is s.data.toList [110, 111, 116]
  all_goals
    go_wp2_with fail
    refine (rmust_any HP3.out [110, 117, 108, 108] (k + 1) (by have := far_must s.data.toList [110, 117, 108, 108] (((Sp.St.live e).step s.data.toList).take s.data.toList [110, 111, 116]); omega)).mono ?_
    rintro r w4 ⟨rfl, hp4, hk4⟩
    have HP4 : Hid (RS b s d (k + 1) c ((((Sp.St.live e).step s.data.toList).take s.data.toList [110, 111, 116]).must s.data.toList [110, 117, 108, 108]) w4) := hp4
    have HK4 : Hid (RK b w w4) := HK3.out.trans hk4
    clear hp4 hk4
    have l4 := HP4.out.lb
    go_wp2_with fail
    refine (rnode_any (HP4.out.alloc _) _ _ _ _ _ _ _ _ _ (one9 _ _ _ _ _ _ _ _ _ rfl rfl rfl)).mono ?_
    rintro r w5 ⟨q5, rfl, hp5, hk5⟩
    have HP5 : Hid (RS b s d (k) c ((((Sp.St.live e).step s.data.toList).take s.data.toList [110, 111, 116]).must s.data.toList [110, 117, 108, 108]) w5) := hp5
    have HK5 : Hid (RK b w w5) := (HK4.out.alloc l4 _).trans hk5
    clear hp5 hk5
    go_wp2_with fail
    go_ret
    exact ⟨_, rfl, by rw [HV.out]; exact HP5.out, HK5.out⟩

set_option maxHeartbeats 4000000 in
theorem rcmp_in {b : Nat} {s : ByteArray} {n d k : Nat} {c : Ct} {σ : Sp.St} {w : World} (IH : Hid (∀ m, m ≤ n → RAll b s m)) (hd : d + (n + 1) ≤ 1000000) (hm' : 32 * Sp.rem s.data.toList σ + 6 ≤ n + 1) (HP : Hid (RS b s d k c σ w)) (σ1 : Sp.St) (E1 : Hid (Sp.run s.data.toList n .sum d σ = σ1)) (e : Nat) (hd1 : σ1 = .live e) (h0 : Sp.tokCl s.data.toList e = .key) (h_c : σ1.isCmp s.data.toList = false) (h_is : σ1.is s.data.toList [105, 115] = false) (h_not : σ1.is s.data.toList [110, 111, 116] = false) (h_in : σ1.is s.data.toList [105, 110] = true) :
    Calls Tryz.prog 245 #[.pointer (some ⟨b, 0, none⟩)] w (RI b s d k c (cmpR s.data.toList n d σ1) w) := by
  have r1 : Sp.rem s.data.toList σ1 ≤ Sp.rem s.data.toList σ := by rw [← E1.out]; exact Sp.rem_run _ _ _ _ _
  have HV : Hid (cmpR s.data.toList n d σ1 = (Sp.run s.data.toList n .query (d + 1) ((σ1.step s.data.toList).opened s.data.toList [40] d)).must s.data.toList [41]) := by show _ = _; rw [cmpR, h_c, h_is, h_not, h_in]; rfl
  have r2 := Sp.rem_step_lt h_in
  have r4 := Sp.rem_opened s.data.toList [40] d (σ1.step s.data.toList)
  go_enter Tryz.func245, Tryz.ntmps245
  go_wp2_with fail
  refine ((IH.out n (Nat.le_refl _)).sum d k c σ _ (by omega) (by show 32 * Sp.rem s.data.toList σ + 5 ≤ n; omega) HP.out).mono ?_
  rintro r w1 ⟨q1, rfl, hp1, hk1⟩
  rw [E1.out] at hp1
  have HP1 : Hid (RS b s d k c σ1 w1) := hp1
  have HK1 : Hid (RK b w w1) := hk1
  clear hp1 hk1
  have c7 := HP1.out.err
  subst hd1
  have hz : (((er (.live e) : Nat) : Int) != 0) = false := rfl
  obtain ⟨_, x, hc, _, ht⟩ := HP1.out
  have c1 := hc.c1
  have c2 := hc.c2
  have c3 := hc.c3
  have hk : (x.kd.toList == [107, 101, 121]) = true := by rw [ht.2.1, h0]; rfl
  have hkk := eq_of_beq hk
  have tc : cmpB x.ts.toList = false := by rw [← cmp_is ht hkk]; exact h_c
  have t_is : (x.ts.toList == [105, 115]) = false := by rw [← is_word ht hkk]; exact h_is
  have t_in : (x.ts.toList == [105, 110]) = true := by rw [← is_word ht hkk]; exact h_in
  have t_not : (x.ts.toList == [110, 111, 116]) = false := by rw [← is_word ht hkk]; exact h_not
  clear hc ht hkk
  have HMU : Hid ((Sp.St.live e).must s.data.toList [105, 110] = (Sp.St.live e).step s.data.toList) := by show _ = _; rw [Sp.St.must, h_in]; rfl
  have HFA : Hid (far s.data.toList (.live e) + (k + 1) ≤ far s.data.toList ((Sp.St.live e).must s.data.toList [105, 110]) + k) := by
    have := far_is h_in
    show _ ≤ _
    rw [HMU.out]; omega
  go_wp2_with fail
  refine (compares_any _ _).mono ?_
  rintro r w9 ⟨rfl, rfl⟩
  go_wp2_with fail
  refine (rmust_any HP1.out [105, 110] (k + 1) HFA.out).mono ?_
  rintro r w2 ⟨rfl, hp2, hk2⟩
  rw [HMU.out] at hp2
  have HP2 : Hid (RS b s d (k + 1) c ((Sp.St.live e).step s.data.toList) w2) := hp2
  have HK2 : Hid (RK b w w2) := HK1.out.trans hk2
  clear hp2 hk2
  clear c7 c1 c2 c3
  have c7 := HP2.out.err
  have hz2 : (((er ((Sp.St.live e).step s.data.toList) : Nat) : Int) != 0) = false := rfl
  go_wp2_with fail
  refine (rinside_any (n := n) (IH.out n (Nat.le_refl _)) (by omega) (by omega) HP2).mono ?_
  rintro r w3 ⟨q3, rfl, hp3, hk3⟩
  have HP3 : Hid (RS b s d (k + 1) c ((Sp.run s.data.toList n .query (d + 1) (((Sp.St.live e).step s.data.toList).opened s.data.toList [40] d)).must s.data.toList [41]) w3) := hp3
  have HK3 : Hid (RK b w w3) := HK2.out.trans hk3
  clear hp3 hk3
  have l3 := HP3.out.lb
  go_wp2_with fail
  refine (rnode_any (HP3.out.alloc _) _ _ _ _ _ _ _ _ _ (one9 _ _ _ _ _ _ _ _ _ rfl rfl rfl)).mono ?_
  rintro r w4 ⟨q4, rfl, hp4, hk4⟩
  have HP4 : Hid (RS b s d (k) c ((Sp.run s.data.toList n .query (d + 1) (((Sp.St.live e).step s.data.toList).opened s.data.toList [40] d)).must s.data.toList [41]) w4) := hp4
  have HK4 : Hid (RK b w w4) := (HK3.out.alloc l3 _).trans hk4
  clear hp4 hk4
  go_wp2_with fail
  go_ret
  exact ⟨_, rfl, by rw [HV.out]; exact HP4.out, HK4.out⟩

set_option maxHeartbeats 4000000 in
theorem rcmp_not {b : Nat} {s : ByteArray} {n d k : Nat} {c : Ct} {σ : Sp.St} {w : World} (IH : Hid (∀ m, m ≤ n → RAll b s m)) (hd : d + (n + 1) ≤ 1000000) (hm' : 32 * Sp.rem s.data.toList σ + 6 ≤ n + 1) (HP : Hid (RS b s d k c σ w)) (σ1 : Sp.St) (E1 : Hid (Sp.run s.data.toList n .sum d σ = σ1)) (e : Nat) (hd1 : σ1 = .live e) (h0 : Sp.tokCl s.data.toList e = .key) (h_c : σ1.isCmp s.data.toList = false) (h_is : σ1.is s.data.toList [105, 115] = false) (h_not : σ1.is s.data.toList [110, 111, 116] = true) :
    Calls Tryz.prog 245 #[.pointer (some ⟨b, 0, none⟩)] w (RI b s d k c (cmpR s.data.toList n d σ1) w) := by
  have r1 : Sp.rem s.data.toList σ1 ≤ Sp.rem s.data.toList σ := by rw [← E1.out]; exact Sp.rem_run _ _ _ _ _
  have HV : Hid (cmpR s.data.toList n d σ1 = (Sp.run s.data.toList n .query (d + 1) (((σ1.step s.data.toList).must s.data.toList [105, 110]).opened s.data.toList [40] d)).must s.data.toList [41]) := by show _ = _; rw [cmpR, h_c, h_is, h_not]; rfl
  have r2 := Sp.rem_step_lt h_not
  have r3 := Sp.rem_must s.data.toList [105, 110] (σ1.step s.data.toList)
  have r4 := Sp.rem_opened s.data.toList [40] d ((σ1.step s.data.toList).must s.data.toList [105, 110])
  go_enter Tryz.func245, Tryz.ntmps245
  go_wp2_with fail
  refine ((IH.out n (Nat.le_refl _)).sum d k c σ _ (by omega) (by show 32 * Sp.rem s.data.toList σ + 5 ≤ n; omega) HP.out).mono ?_
  rintro r w1 ⟨q1, rfl, hp1, hk1⟩
  rw [E1.out] at hp1
  have HP1 : Hid (RS b s d k c σ1 w1) := hp1
  have HK1 : Hid (RK b w w1) := hk1
  clear hp1 hk1
  have c7 := HP1.out.err
  subst hd1
  have hz : (((er (.live e) : Nat) : Int) != 0) = false := rfl
  obtain ⟨_, x, hc, _, ht⟩ := HP1.out
  have c1 := hc.c1
  have c2 := hc.c2
  have c3 := hc.c3
  have hk : (x.kd.toList == [107, 101, 121]) = true := by rw [ht.2.1, h0]; rfl
  have hkk := eq_of_beq hk
  have tc : cmpB x.ts.toList = false := by rw [← cmp_is ht hkk]; exact h_c
  have t_in : (x.ts.toList == [105, 110]) = false := by
    have : (x.ts.toList == [110, 111, 116]) = true := by rw [← is_word ht hkk]; exact h_not
    rw [eq_of_beq this]; rfl
  have t_is : (x.ts.toList == [105, 115]) = false := by rw [← is_word ht hkk]; exact h_is
  have t_not : (x.ts.toList == [110, 111, 116]) = true := by rw [← is_word ht hkk]; exact h_not
  clear hc ht hkk
  go_wp2_with fail
  refine (compares_any _ _).mono ?_
  rintro r w9 ⟨rfl, rfl⟩
  go_wp2_with fail
  refine (rstep_any HP1.out (by rw [h0]; decide) (by rw [h0]; decide)).mono ?_
  rintro r w2 ⟨rfl, hp2, hk2⟩
  have HP2 : Hid (RS b s d (k + 1) c ((Sp.St.live e).step s.data.toList) w2) := hp2
  have HK2 : Hid (RK b w w2) := HK1.out.trans hk2
  clear hp2 hk2
  clear c7 c1 c2 c3
  obtain ⟨ta, c2⟩ := HP2.out.tat
  go_wp2_with fail
  refine (rmust_any HP2.out [105, 110] (k + 1) (by have := far_must s.data.toList [105, 110] ((Sp.St.live e).step s.data.toList); omega)).mono ?_
  rintro r w3 ⟨rfl, hp3, hk3⟩
  have HP3 : Hid (RS b s d (k + 1) c (((Sp.St.live e).step s.data.toList).must s.data.toList [105, 110]) w3) := hp3
  have HK3 : Hid (RK b w w3) := HK2.out.trans hk3
  clear hp3 hk3
  clear c2
  have c7 := HP3.out.err
  generalize hτ : ((Sp.St.live e).step s.data.toList).must s.data.toList [105, 110] = τ at *
  clear hτ
  cases τ with
  | dead y a =>
    have hz3 := erne_dead HP3.out
    have HDD : Hid ((Sp.run s.data.toList n .query (d + 1) ((Sp.St.dead y a).opened s.data.toList [40] d)).must s.data.toList [41] = .dead y a) := by show _ = _; rw [show (Sp.St.dead y a).opened s.data.toList [40] d = .dead y a from rfl, run_dead]; rfl
    go_wp2_with fail
    go_ret
    exact ⟨_, rfl, by rw [HV.out, HDD.out]; exact HP3.out.weak (by omega), HK3.out⟩
  | live e2 =>
    have hz3 : (((er (.live e2) : Nat) : Int) != 0) = false := rfl
    go_wp2_with fail
    refine (rinside_any (n := n) (IH.out n (Nat.le_refl _)) (by omega) (by omega) HP3).mono ?_
    rintro r w4 ⟨q4, rfl, hp4, hk4⟩
    have HP4 : Hid (RS b s d (k + 1) c ((Sp.run s.data.toList n .query (d + 1) ((Sp.St.live e2).opened s.data.toList [40] d)).must s.data.toList [41]) w4) := hp4
    have HK4 : Hid (RK b w w4) := HK3.out.trans hk4
    clear hp4 hk4
    have l4 := HP4.out.lb
    go_wp2_with fail
    refine (rnode_any (HP4.out.alloc _) _ _ _ _ _ _ _ _ _ (one9 _ _ _ _ _ _ _ _ _ rfl rfl rfl)).mono ?_
    rintro r w5 ⟨q5, rfl, hp5, hk5⟩
    have HP5 : Hid (RS b s d (k) c ((Sp.run s.data.toList n .query (d + 1) ((Sp.St.live e2).opened s.data.toList [40] d)).must s.data.toList [41]) w5) := hp5
    have HK5 : Hid (RK b w w5) := (HK4.out.alloc l4 _).trans hk5
    clear hp5 hk5
    go_wp2_with fail
    go_ret
    exact ⟨_, rfl, by rw [HV.out]; exact HP5.out, HK5.out⟩

set_option maxHeartbeats 4000000 in
theorem rcmp_none {b : Nat} {s : ByteArray} {n d k : Nat} {c : Ct} {σ : Sp.St} {w : World} (IH : Hid (∀ m, m ≤ n → RAll b s m)) (hd : d + (n + 1) ≤ 1000000) (hm' : 32 * Sp.rem s.data.toList σ + 6 ≤ n + 1) (HP : Hid (RS b s d k c σ w)) (σ1 : Sp.St) (E1 : Hid (Sp.run s.data.toList n .sum d σ = σ1)) (e : Nat) (hd1 : σ1 = .live e) (h0 : Sp.tokCl s.data.toList e = .key) (h_c : σ1.isCmp s.data.toList = false) (h_is : σ1.is s.data.toList [105, 115] = false) (h_not : σ1.is s.data.toList [110, 111, 116] = false) (h_in : σ1.is s.data.toList [105, 110] = false) :
    Calls Tryz.prog 245 #[.pointer (some ⟨b, 0, none⟩)] w (RI b s d k c (cmpR s.data.toList n d σ1) w) := by
  have r1 : Sp.rem s.data.toList σ1 ≤ Sp.rem s.data.toList σ := by rw [← E1.out]; exact Sp.rem_run _ _ _ _ _
  have HV : Hid (cmpR s.data.toList n d σ1 = σ1) := by show _ = _; rw [cmpR, h_c, h_is, h_not, h_in]; rfl
  go_enter Tryz.func245, Tryz.ntmps245
  go_wp2_with fail
  refine ((IH.out n (Nat.le_refl _)).sum d k c σ _ (by omega) (by show 32 * Sp.rem s.data.toList σ + 5 ≤ n; omega) HP.out).mono ?_
  rintro r w1 ⟨q1, rfl, hp1, hk1⟩
  rw [E1.out] at hp1
  have HP1 : Hid (RS b s d k c σ1 w1) := hp1
  have HK1 : Hid (RK b w w1) := hk1
  clear hp1 hk1
  have c7 := HP1.out.err
  subst hd1
  have hz : (((er (.live e) : Nat) : Int) != 0) = false := rfl
  obtain ⟨_, x, hc, _, ht⟩ := HP1.out
  have c1 := hc.c1
  have c2 := hc.c2
  have c3 := hc.c3
  have hk : (x.kd.toList == [107, 101, 121]) = true := by rw [ht.2.1, h0]; rfl
  have hkk := eq_of_beq hk
  have tc : cmpB x.ts.toList = false := by rw [← cmp_is ht hkk]; exact h_c
  have t_is : (x.ts.toList == [105, 115]) = false := by rw [← is_word ht hkk]; exact h_is
  have t_in : (x.ts.toList == [105, 110]) = false := by rw [← is_word ht hkk]; exact h_in
  have t_not : (x.ts.toList == [110, 111, 116]) = false := by rw [← is_word ht hkk]; exact h_not
  clear hc ht hkk
  go_wp2_with fail
  refine (compares_any _ _).mono ?_
  rintro r w9 ⟨rfl, rfl⟩
  go_wp2_with fail
  go_ret
  exact ⟨_, rfl, by rw [HV.out]; exact HP1.out, HK1.out⟩

theorem rcompare_step {b : Nat} {s : ByteArray} {n : Nat} (IH : Hid (∀ m, m ≤ n → RAll b s m)) : Rd b s (n + 1) .compare 245 := by
  intro d k c σ w hd hm hp
  rw [cmp_eq]
  cases hσ : Sp.run s.data.toList n .sum d σ with
  | dead y a => exact rcmp_dead IH hd hm hp _ hσ y a rfl
  | live e =>
    by_cases h0 : Sp.tokCl s.data.toList e = .key
    · cases h1 : (Sp.St.live e).isCmp s.data.toList
      · cases h2 : (Sp.St.live e).is s.data.toList [105, 115]
        · cases h3 : (Sp.St.live e).is s.data.toList [110, 111, 116]
          · cases h4 : (Sp.St.live e).is s.data.toList [105, 110]
            · exact rcmp_none IH hd hm hp _ hσ e rfl h0 h1 h2 h3 h4
            · exact rcmp_in IH hd hm hp _ hσ e rfl h0 h1 h2 h3 h4
          · exact rcmp_not IH hd hm hp _ hσ e rfl h0 h1 h2 h3
        · exact rcmp_is IH hd hm hp _ hσ e rfl h0 h1 h2
      · exact rcmp_cmp IH hd hm hp _ hσ e rfl h0 h1
    · exact rcmp_nokey IH hd hm hp _ hσ e rfl h0
end Go.Proofs.YtgnncnhkgmhngaaGreatDoor
