import Derived.Test.YtpgeiieapkbjhaaGreatDoorP10
namespace Go.Proofs.YtpgeiieapkbjhaaGreatDoor
open Go.RowKit

theorem isCmp_eq (s : Sp.Bs) (σ : Sp.St) : seesOne s [[61], [60, 62], [60], [60, 61], [62], [62, 61]] σ = σ.isCmp s := by
  simp only [seesOne, Sp.St.isCmp, List.any_cons, List.any_nil, Bool.or_false, Bool.or_assoc]

theorem accept6 {b c cap len : Nat} {s : Sp.Bs} {d : Nat} {σ : Sp.St} {w : World} (h : PS b c cap len s d σ w) :
    Calls Tryz.prog 57 #[.pointer (some ⟨b, 0, none⟩), .slice (some ⟨w.heap.size, 0, none⟩) 6 6] (w.alloc (.cells #[.string ⟨#[61]⟩, .string ⟨#[60, 62]⟩, .string ⟨#[60]⟩, .string ⟨#[60, 61]⟩, .string ⟨#[62]⟩, .string ⟨#[62, 61]⟩] 9)) fun r w' => r = .returned (.bool (σ.isCmp s)) ∧ PS b c cap len s d (stepIf (σ.isCmp s) s σ) w' ∧ Kept b w w' := by
  have A := accept_lit h [[61], [60, 62], [60], [60, 61], [62], [62, 61]] (by decide) (by decide) 6 rfl #[.string ⟨#[61]⟩, .string ⟨#[60, 62]⟩, .string ⟨#[60]⟩, .string ⟨#[60, 61]⟩, .string ⟨#[62]⟩, .string ⟨#[62, 61]⟩] rfl
  rw [isCmp_eq] at A
  exact A

theorem rem_cmp {s : Sp.Bs} {σ : Sp.St} (h : σ.isCmp s = true) : Sp.rem s (σ.step s) < Sp.rem s σ := by
  simp only [Sp.St.isCmp, Bool.or_eq_true] at h
  rcases h with ((((h | h) | h) | h) | h) | h <;> exact Sp.rem_step_lt h

theorem take_yes {s : Sp.Bs} {z : Sp.Bs} {σ : Sp.St} (h : σ.is s z = true) : σ.take s z = σ.step s := by rw [Sp.St.take, h]; rfl
theorem take_no {s : Sp.Bs} {z : Sp.Bs} {σ : Sp.St} (h : σ.is s z = false) : σ.take s z = σ := by rw [Sp.St.take, h]; rfl
theorem stepIf_yes {t : Bool} {s : Sp.Bs} {σ : Sp.St} (h : t = true) : stepIf t s σ = σ.step s := by rw [h]; rfl
theorem stepIf_no {t : Bool} {s : Sp.Bs} {σ : Sp.St} (h : t = false) : stepIf t s σ = σ := by rw [h]; rfl

/-- compare, by what comes behind the first sum. -/
def cmpR (s : Sp.Bs) (n d : Nat) (σ1 : Sp.St) : Sp.St :=
  if σ1.isCmp s then Sp.run s n .sum d (σ1.step s)
  else if σ1.is s [105, 115] then ((σ1.step s).take s [110, 111, 116]).must s [110, 117, 108, 108]
  else if σ1.is s [110, 111, 116] then (Sp.run s n .query (d + 1) (((σ1.step s).must s [105, 110]).opened s [40] d)).must s [41]
  else if σ1.is s [105, 110] then (Sp.run s n .query (d + 1) ((σ1.step s).opened s [40] d)).must s [41]
  else σ1
theorem cmp_eq (s : Sp.Bs) (n d : Nat) (σ : Sp.St) : Sp.run s (n + 1) .compare d σ = cmpR s n d (Sp.run s n .sum d σ) := by rw [Sp.run]; rfl

set_option maxHeartbeats 1000000 in
theorem compare_cmp {b c cap len : Nat} {s : Sp.Bs} {n d : Nat} {σ : Sp.St} {w : World} (IH : Hid (∀ m, m ≤ n → All b c cap len s m)) (hd : d + (n + 1) ≤ 1000000) (hm' : 32 * Sp.rem s σ + 6 ≤ n + 1) (HP : Hid (PS b c cap len s d σ w)) (σ1 : Sp.St) (E1 : Hid (Sp.run s n .sum d σ = σ1)) (h1 : σ1.isCmp s = true) :
    Calls Tryz.prog 138 #[.pointer (some ⟨b, 0, none⟩)] w (Post b c cap len s d (cmpR s n d σ1) w) := by
  have r1 : Sp.rem s σ1 ≤ Sp.rem s σ := by rw [← E1.out]; exact Sp.rem_run s n .sum d σ
  have HV : Hid (cmpR s n d σ1 = Sp.run s n .sum d (σ1.step s)) := by show _ = _; rw [cmpR, h1]; rfl
  have r2 := rem_cmp h1
  go_enter Tryz.func138, Tryz.ntmps138
  go_wp2_with fail
  refine ((IH.out n (by omega)).sum d _ _ (by omega) (by show 32 * Sp.rem s _ + 5 ≤ n; omega) HP.out).mono ?_
  rintro r w1 ⟨rfl, hp1, hk1⟩
  rw [E1.out] at hp1
  have HP1 : Hid (PS b c cap len s d σ1 w1) := hp1
  have HK1 : Hid (Kept b w w1) := hk1
  clear hp1 hk1
  go_wp2_with fail
  refine (accept6 HP1.out).mono ?_
  rintro r w2 ⟨rfl, hp2, hk2⟩
  rw [stepIf_yes h1] at hp2
  have HP2 : Hid (PS b c cap len s d (σ1.step s) w2) := hp2
  have HK2 : Hid (Kept b w w2) := HK1.out.trans hk2
  clear hp2 hk2
  go_wp2_with fail
  refine ((IH.out n (by omega)).sum d _ _ (by omega) (by show 32 * Sp.rem s _ + 5 ≤ n; omega) HP2.out).mono ?_
  rintro r w3 ⟨rfl, hp3, hk3⟩
  have HP3 : Hid (PS b c cap len s d (Sp.run s n .sum d (σ1.step s)) w3) := hp3
  have HK3 : Hid (Kept b w w3) := HK2.out.trans hk3
  clear hp3 hk3
  go_wp2_with fail
  go_end0
  exact ⟨rfl, by rw [HV.out]; exact HP3.out, HK3.out⟩

set_option maxHeartbeats 1000000 in
theorem compare_is {b c cap len : Nat} {s : Sp.Bs} {n d : Nat} {σ : Sp.St} {w : World} (IH : Hid (∀ m, m ≤ n → All b c cap len s m)) (hd : d + (n + 1) ≤ 1000000) (hm' : 32 * Sp.rem s σ + 6 ≤ n + 1) (HP : Hid (PS b c cap len s d σ w)) (σ1 : Sp.St) (E1 : Hid (Sp.run s n .sum d σ = σ1)) (h1 : σ1.isCmp s = false) (h2 : σ1.is s [105, 115] = true) :
    Calls Tryz.prog 138 #[.pointer (some ⟨b, 0, none⟩)] w (Post b c cap len s d (cmpR s n d σ1) w) := by
  have r1 : Sp.rem s σ1 ≤ Sp.rem s σ := by rw [← E1.out]; exact Sp.rem_run s n .sum d σ
  have HV : Hid (cmpR s n d σ1 = ((σ1.step s).take s [110, 111, 116]).must s [110, 117, 108, 108]) := by show _ = _; rw [cmpR, h1, h2]; rfl
  go_enter Tryz.func138, Tryz.ntmps138
  go_wp2_with fail
  refine ((IH.out n (by omega)).sum d _ _ (by omega) (by show 32 * Sp.rem s _ + 5 ≤ n; omega) HP.out).mono ?_
  rintro r w1 ⟨rfl, hp1, hk1⟩
  rw [E1.out] at hp1
  have HP1 : Hid (PS b c cap len s d σ1 w1) := hp1
  have HK1 : Hid (Kept b w w1) := hk1
  clear hp1 hk1
  go_wp2_with fail
  refine (accept6 HP1.out).mono ?_
  rintro r w2 ⟨rfl, hp2, hk2⟩
  rw [stepIf_no h1] at hp2
  have HP2 : Hid (PS b c cap len s d (σ1) w2) := hp2
  have HK2 : Hid (Kept b w w2) := HK1.out.trans hk2
  clear hp2 hk2
  go_wp2_with fail
  refine (accept1 HP2.out [105, 115] (by decide)).mono ?_
  rintro r w3 ⟨rfl, hp3, hk3⟩
  rw [take_yes h2] at hp3
  have HP3 : Hid (PS b c cap len s d (σ1.step s) w3) := hp3
  have HK3 : Hid (Kept b w w3) := HK2.out.trans hk3
  clear hp3 hk3
  go_wp2_with fail
  refine (accept1 HP3.out [110, 111, 116] (by decide)).mono ?_
  rintro r w4 ⟨rfl, hp4, hk4⟩
  have HP4 : Hid (PS b c cap len s d ((σ1.step s).take s [110, 111, 116]) w4) := hp4
  have HK4 : Hid (Kept b w w4) := HK3.out.trans hk4
  clear hp4 hk4
  go_wp2_with fail
  refine (expect_any HP4.out [110, 117, 108, 108] (by decide)).mono ?_
  rintro r w5 ⟨rfl, hp5, hk5⟩
  have HP5 : Hid (PS b c cap len s d (((σ1.step s).take s [110, 111, 116]).must s [110, 117, 108, 108]) w5) := hp5
  have HK5 : Hid (Kept b w w5) := HK4.out.trans hk5
  clear hp5 hk5
  go_wp2_with fail
  go_end0
  exact ⟨rfl, by rw [HV.out]; exact HP5.out, HK5.out⟩

set_option maxHeartbeats 1000000 in
theorem compare_not {b c cap len : Nat} {s : Sp.Bs} {n d : Nat} {σ : Sp.St} {w : World} (IH : Hid (∀ m, m ≤ n → All b c cap len s m)) (hd : d + (n + 1) ≤ 1000000) (hm' : 32 * Sp.rem s σ + 6 ≤ n + 1) (HP : Hid (PS b c cap len s d σ w)) (σ1 : Sp.St) (E1 : Hid (Sp.run s n .sum d σ = σ1)) (h1 : σ1.isCmp s = false) (h2 : σ1.is s [105, 115] = false) (h3 : σ1.is s [110, 111, 116] = true) :
    Calls Tryz.prog 138 #[.pointer (some ⟨b, 0, none⟩)] w (Post b c cap len s d (cmpR s n d σ1) w) := by
  have r1 : Sp.rem s σ1 ≤ Sp.rem s σ := by rw [← E1.out]; exact Sp.rem_run s n .sum d σ
  have HV : Hid (cmpR s n d σ1 = (Sp.run s n .query (d + 1) (((σ1.step s).must s [105, 110]).opened s [40] d)).must s [41]) := by show _ = _; rw [cmpR, h1, h2, h3]; rfl
  have r2 := Sp.rem_step_lt h3
  have r3 := Sp.rem_must s [105, 110] (σ1.step s)
  have r4 := Sp.rem_opened s [40] d ((σ1.step s).must s [105, 110])
  have hmf : ∀ (fn : Fn) (first cap : Array Value) (w : World), (Instr.makeFunc fn first cap).run Tryz.prog w = .ok (.func fn first cap) w := fun _ _ _ _ => rfl
  go_enter Tryz.func138, Tryz.ntmps138
  go_wp2_with fail
  refine ((IH.out n (by omega)).sum d _ _ (by omega) (by show 32 * Sp.rem s _ + 5 ≤ n; omega) HP.out).mono ?_
  rintro r w1 ⟨rfl, hp1, hk1⟩
  rw [E1.out] at hp1
  have HP1 : Hid (PS b c cap len s d σ1 w1) := hp1
  have HK1 : Hid (Kept b w w1) := hk1
  clear hp1 hk1
  go_wp2_with fail
  refine (accept6 HP1.out).mono ?_
  rintro r w2 ⟨rfl, hp2, hk2⟩
  rw [stepIf_no h1] at hp2
  have HP2 : Hid (PS b c cap len s d (σ1) w2) := hp2
  have HK2 : Hid (Kept b w w2) := HK1.out.trans hk2
  clear hp2 hk2
  go_wp2_with fail
  refine (accept1 HP2.out [105, 115] (by decide)).mono ?_
  rintro r w3 ⟨rfl, hp3, hk3⟩
  rw [take_no h2] at hp3
  have HP3 : Hid (PS b c cap len s d (σ1) w3) := hp3
  have HK3 : Hid (Kept b w w3) := HK2.out.trans hk3
  clear hp3 hk3
  go_wp2_with fail
  refine (accept1 HP3.out [110, 111, 116] (by decide)).mono ?_
  rintro r w4 ⟨rfl, hp4, hk4⟩
  rw [take_yes h3] at hp4
  have HP4 : Hid (PS b c cap len s d (σ1.step s) w4) := hp4
  have HK4 : Hid (Kept b w w4) := HK3.out.trans hk4
  clear hp4 hk4
  go_wp2_with fail
  refine (expect_any HP4.out [105, 110] (by decide)).mono ?_
  rintro r w5 ⟨rfl, hp5, hk5⟩
  have HP5 : Hid (PS b c cap len s d ((σ1.step s).must s [105, 110]) w5) := hp5
  have HK5 : Hid (Kept b w w5) := HK4.out.trans hk5
  clear hp5 hk5
  go_wp2_with fail
  refine (enclosed_query HP5.out (by omega) (Sp.run s n .query (d + 1)) (fun w' hp' => (IH.out n (by omega)).query (d + 1) _ _ (by omega) (by show 32 * Sp.rem s _ + 15 ≤ n; omega) hp')).mono ?_
  rintro r w6 ⟨rfl, hp6, hk6⟩
  have HP6 : Hid (PS b c cap len s d ((Sp.run s n .query (d + 1) (((σ1.step s).must s [105, 110]).opened s [40] d)).must s [41]) w6) := hp6
  have HK6 : Hid (Kept b w w6) := HK5.out.trans hk6
  clear hp6 hk6
  go_wp2_with fail
  go_end0
  exact ⟨rfl, by rw [HV.out]; exact HP6.out, HK6.out⟩

set_option maxHeartbeats 1000000 in
theorem compare_in {b c cap len : Nat} {s : Sp.Bs} {n d : Nat} {σ : Sp.St} {w : World} (IH : Hid (∀ m, m ≤ n → All b c cap len s m)) (hd : d + (n + 1) ≤ 1000000) (hm' : 32 * Sp.rem s σ + 6 ≤ n + 1) (HP : Hid (PS b c cap len s d σ w)) (σ1 : Sp.St) (E1 : Hid (Sp.run s n .sum d σ = σ1)) (h1 : σ1.isCmp s = false) (h2 : σ1.is s [105, 115] = false) (h3 : σ1.is s [110, 111, 116] = false) (h4 : σ1.is s [105, 110] = true) :
    Calls Tryz.prog 138 #[.pointer (some ⟨b, 0, none⟩)] w (Post b c cap len s d (cmpR s n d σ1) w) := by
  have r1 : Sp.rem s σ1 ≤ Sp.rem s σ := by rw [← E1.out]; exact Sp.rem_run s n .sum d σ
  have HV : Hid (cmpR s n d σ1 = (Sp.run s n .query (d + 1) ((σ1.step s).opened s [40] d)).must s [41]) := by show _ = _; rw [cmpR, h1, h2, h3, h4]; rfl
  have r2 := Sp.rem_step_lt h4
  have r4 := Sp.rem_opened s [40] d (σ1.step s)
  have hmf : ∀ (fn : Fn) (first cap : Array Value) (w : World), (Instr.makeFunc fn first cap).run Tryz.prog w = .ok (.func fn first cap) w := fun _ _ _ _ => rfl
  go_enter Tryz.func138, Tryz.ntmps138
  go_wp2_with fail
  refine ((IH.out n (by omega)).sum d _ _ (by omega) (by show 32 * Sp.rem s _ + 5 ≤ n; omega) HP.out).mono ?_
  rintro r w1 ⟨rfl, hp1, hk1⟩
  rw [E1.out] at hp1
  have HP1 : Hid (PS b c cap len s d σ1 w1) := hp1
  have HK1 : Hid (Kept b w w1) := hk1
  clear hp1 hk1
  go_wp2_with fail
  refine (accept6 HP1.out).mono ?_
  rintro r w2 ⟨rfl, hp2, hk2⟩
  rw [stepIf_no h1] at hp2
  have HP2 : Hid (PS b c cap len s d (σ1) w2) := hp2
  have HK2 : Hid (Kept b w w2) := HK1.out.trans hk2
  clear hp2 hk2
  go_wp2_with fail
  refine (accept1 HP2.out [105, 115] (by decide)).mono ?_
  rintro r w3 ⟨rfl, hp3, hk3⟩
  rw [take_no h2] at hp3
  have HP3 : Hid (PS b c cap len s d (σ1) w3) := hp3
  have HK3 : Hid (Kept b w w3) := HK2.out.trans hk3
  clear hp3 hk3
  go_wp2_with fail
  refine (accept1 HP3.out [110, 111, 116] (by decide)).mono ?_
  rintro r w4 ⟨rfl, hp4, hk4⟩
  rw [take_no h3] at hp4
  have HP4 : Hid (PS b c cap len s d (σ1) w4) := hp4
  have HK4 : Hid (Kept b w w4) := HK3.out.trans hk4
  clear hp4 hk4
  go_wp2_with fail
  refine (accept1 HP4.out [105, 110] (by decide)).mono ?_
  rintro r w5 ⟨rfl, hp5, hk5⟩
  rw [take_yes h4] at hp5
  have HP5 : Hid (PS b c cap len s d (σ1.step s) w5) := hp5
  have HK5 : Hid (Kept b w w5) := HK4.out.trans hk5
  clear hp5 hk5
  go_wp2_with fail
  refine (enclosed_query HP5.out (by omega) (Sp.run s n .query (d + 1)) (fun w' hp' => (IH.out n (by omega)).query (d + 1) _ _ (by omega) (by show 32 * Sp.rem s _ + 15 ≤ n; omega) hp')).mono ?_
  rintro r w6 ⟨rfl, hp6, hk6⟩
  have HP6 : Hid (PS b c cap len s d ((Sp.run s n .query (d + 1) ((σ1.step s).opened s [40] d)).must s [41]) w6) := hp6
  have HK6 : Hid (Kept b w w6) := HK5.out.trans hk6
  clear hp6 hk6
  go_wp2_with fail
  go_end0
  exact ⟨rfl, by rw [HV.out]; exact HP6.out, HK6.out⟩

set_option maxHeartbeats 1000000 in
theorem compare_none {b c cap len : Nat} {s : Sp.Bs} {n d : Nat} {σ : Sp.St} {w : World} (IH : Hid (∀ m, m ≤ n → All b c cap len s m)) (hd : d + (n + 1) ≤ 1000000) (hm' : 32 * Sp.rem s σ + 6 ≤ n + 1) (HP : Hid (PS b c cap len s d σ w)) (σ1 : Sp.St) (E1 : Hid (Sp.run s n .sum d σ = σ1)) (h1 : σ1.isCmp s = false) (h2 : σ1.is s [105, 115] = false) (h3 : σ1.is s [110, 111, 116] = false) (h4 : σ1.is s [105, 110] = false) :
    Calls Tryz.prog 138 #[.pointer (some ⟨b, 0, none⟩)] w (Post b c cap len s d (cmpR s n d σ1) w) := by
  have r1 : Sp.rem s σ1 ≤ Sp.rem s σ := by rw [← E1.out]; exact Sp.rem_run s n .sum d σ
  have HV : Hid (cmpR s n d σ1 = σ1) := by show _ = _; rw [cmpR, h1, h2, h3, h4]; rfl
  go_enter Tryz.func138, Tryz.ntmps138
  go_wp2_with fail
  refine ((IH.out n (by omega)).sum d _ _ (by omega) (by show 32 * Sp.rem s _ + 5 ≤ n; omega) HP.out).mono ?_
  rintro r w1 ⟨rfl, hp1, hk1⟩
  rw [E1.out] at hp1
  have HP1 : Hid (PS b c cap len s d σ1 w1) := hp1
  have HK1 : Hid (Kept b w w1) := hk1
  clear hp1 hk1
  go_wp2_with fail
  refine (accept6 HP1.out).mono ?_
  rintro r w2 ⟨rfl, hp2, hk2⟩
  rw [stepIf_no h1] at hp2
  have HP2 : Hid (PS b c cap len s d (σ1) w2) := hp2
  have HK2 : Hid (Kept b w w2) := HK1.out.trans hk2
  clear hp2 hk2
  go_wp2_with fail
  refine (accept1 HP2.out [105, 115] (by decide)).mono ?_
  rintro r w3 ⟨rfl, hp3, hk3⟩
  rw [take_no h2] at hp3
  have HP3 : Hid (PS b c cap len s d (σ1) w3) := hp3
  have HK3 : Hid (Kept b w w3) := HK2.out.trans hk3
  clear hp3 hk3
  go_wp2_with fail
  refine (accept1 HP3.out [110, 111, 116] (by decide)).mono ?_
  rintro r w4 ⟨rfl, hp4, hk4⟩
  rw [take_no h3] at hp4
  have HP4 : Hid (PS b c cap len s d (σ1) w4) := hp4
  have HK4 : Hid (Kept b w w4) := HK3.out.trans hk4
  clear hp4 hk4
  go_wp2_with fail
  refine (accept1 HP4.out [105, 110] (by decide)).mono ?_
  rintro r w5 ⟨rfl, hp5, hk5⟩
  rw [take_no h4] at hp5
  have HP5 : Hid (PS b c cap len s d (σ1) w5) := hp5
  have HK5 : Hid (Kept b w w5) := HK4.out.trans hk5
  clear hp5 hk5
  go_wp2_with fail
  go_end0
  exact ⟨rfl, by rw [HV.out]; exact HP5.out, HK5.out⟩

theorem compare_step {b c cap len : Nat} {s : Sp.Bs} {n : Nat} (IH : Hid (∀ m, m ≤ n → All b c cap len s m)) : Sd b c cap len s (n + 1) .compare 138 := by
  intro d σ w hd hm hp
  rw [cmp_eq]
  cases h1 : (Sp.run s n .sum d σ).isCmp s
  · cases h2 : (Sp.run s n .sum d σ).is s [105, 115]
    · cases h3 : (Sp.run s n .sum d σ).is s [110, 111, 116]
      · cases h4 : (Sp.run s n .sum d σ).is s [105, 110]
        · exact compare_none IH hd hm hp _ rfl h1 h2 h3 h4
        · exact compare_in IH hd hm hp _ rfl h1 h2 h3 h4
      · exact compare_not IH hd hm hp _ rfl h1 h2 h3
    · exact compare_is IH hd hm hp _ rfl h1 h2
  · exact compare_cmp IH hd hm hp _ rfl h1

end Go.Proofs.YtpgeiieapkbjhaaGreatDoor
