import Derived.Test.YtpgeiieapkbjhaaGreatDoorP11
namespace Go.Proofs.YtpgeiieapkbjhaaGreatDoor
open Go.RowKit

/-- Is the token at place j this word? -/
def tokIs (s : Sp.Bs) (j : Nat) (z : Sp.Bs) : Bool := Sp.tokCl s (pos s j) == .key && Sp.tokWord s (pos s j) == z

theorem is_lit {b c cap len : Nat} {s : Sp.Bs} {d : Nat} {σ : Sp.St} {w : World} (h : PS b c cap len s d σ w) (j : Nat) {wd : ByteArray} (ok : WordOK s (pos s j) wd.toList) (k a : Int) (z : Sp.Bs) (hf : z ∈ fixd) :
    Calls Tryz.prog 114 #[.agg #[.int .i64 k, .int .i64 a, .string wd], .slice (some ⟨w.heap.size, 0, none⟩) 1 1] (w.alloc (.cells #[.string ⟨z.toArray⟩] 9)) fun r w' => r = .returned (.bool (tokIs s j z)) ∧ PS b c cap len s d σ w' ∧ Below w.heap.size w w' := by
  refine (is_prog w.heap.size 0 1 1 [bz z] wd k a (w.alloc (.cells #[.string ⟨z.toArray⟩] 9)) rfl (by decide) (by simp) ?_).mono ?_
  · intro j hj
    have : j = 0 := by simpa using hj
    subst this
    rw [World.cell?_alloc_new]; rfl
  · rintro r w' ⟨rfl, rfl⟩
    refine ⟨ret_bool ?_, (h.alloc _).alloc _, ((Below.refl _ _).alloc (Nat.le_refl _) _).alloc (by simp) _⟩
    rw [oneOf, tokIs, List.any_cons, List.any_nil, Bool.or_false, bz_toList, ok z hf]

theorem asks_round {s : Sp.Bs} {f e : Nat} (h : (Sp.tokCl s e == .key && Sp.tokWord s e == [40]) = true) : Sp.asksAt s (f + 1) e = Sp.asksAt s f (Sp.tokEnd s e) := by
  rw [Sp.asksAt, h]; rfl
theorem asks_stop {s : Sp.Bs} {f e : Nat} (h : (Sp.tokCl s e == .key && Sp.tokWord s e == [40]) = false) : Sp.asksAt s (f + 1) e = (Sp.tokCl s e == .key && Sp.tokWord s e == [115, 101, 108, 101, 99, 116]) := by
  rw [Sp.asksAt, h]; rfl

theorem tokIs_live {s : Sp.Bs} {j : Nat} {z : Sp.Bs} (h : tokIs s j z = true) : Sp.tokCl s (pos s j) = .key := by
  unfold tokIs at h; simp only [Bool.and_eq_true, beq_iff_eq] at h; exact h.1

theorem pos_up {s : Sp.Bs} {j : Nat} {z : Sp.Bs} (h : tokIs s j z = true) : pos s j < pos s (j + 1) ∧ pos s j < s.length := by
  have := tokIs_live h
  exact ⟨Sp.tokEnd_gt (by rw [this]; decide) (by rw [this]; decide), Sp.lt_of_tok (by rw [this]; decide)⟩

theorem next_lt {s : Sp.Bs} {len j : Nat} {z : Sp.Bs} (tk : TK s len) (hj : j < len) (h : tokIs s j z = true) : j + 1 < len := by
  have := tokIs_live h
  rcases Nat.lt_or_ge (j + 1) len with x | x
  · exact x
  · exfalso
    rcases tk.last j (by omega) with y | y <;> rw [this] at y <;> cases y

/-- What inAtom hands back. -/
def inAtomF (b : Nat) (t : Bool) : Value := if t then .func (.func 64) #[.pointer (some ⟨b, 0, none⟩)] #[] else .func (.func 100) #[.pointer (some ⟨b, 0, none⟩)] #[]

set_option maxHeartbeats 2000000 in
theorem inAtom_any {b c cap len : Nat} {s : Sp.Bs} {d e : Nat} {w : World} (h : PS b c cap len s d (.live e) w) (h0 : Sp.St.is s [40] (.live e) = true) :
    Calls Tryz.prog 166 #[.pointer (some ⟨b, 0, none⟩)] w fun r w' => r = .returned (inAtomF b (Sp.St.asks s (.live e))) ∧ PS b c cap len s d (.live e) w' ∧ Kept b w w' := by
  obtain ⟨i, hi, h1⟩ := h.h1
  have hil := hi.1
  have HI : Hid (pos s i = e) := hi.2
  have hlt : e < s.length := by
    simp only [Sp.St.is, Bool.and_eq_true, beq_iff_eq] at h0
    exact Sp.lt_of_tok (by rw [h0.1]; decide)
  have HP : Hid (PS b c cap len s d (.live e) w) := h
  have hmf : ∀ (fn : Fn) (first cap : Array Value) (w : World), (Instr.makeFunc fn first cap).run Tryz.prog w = .ok (.func fn first cap) w := fun _ _ _ _ => rfl
  have lt := h.tk.top
  clear h hi h0
  go_enter Tryz.func166, Tryz.ntmps166
  go_wp2_with fail
  go_loopg [3] (s.length + 1 - e) (fun f x wr => 1 ≤ f ∧ ∃ j : Nat, j < len ∧ x = .int .i64 j ∧ s.length + 1 - pos s j ≤ f ∧ Hid (Sp.St.asks s (.live e) = Sp.asksAt s f (pos s j)) ∧ Hid (PS b c cap len s d (.live e) wr) ∧ Hid (Below w.heap.size w wr))
  case atStart => exact ⟨by omega, i, hil, rfl, by rw [HI.out]; omega, by show _ = _; rw [HI.out]; rfl, HP.out, Below.refl _ _⟩
  case round =>
    obtain ⟨hf1, j, hj, rfl, hf, HA, HPr, HBr⟩ := hrel
    obtain ⟨f, rfl⟩ : ∃ f, gk = f + 1 := ⟨gk - 1, by omega⟩
    have c0 := HPr.out.h0
    obtain ⟨wd, tc⟩ := HPr.out.tc j hj
    have tk := tc.k
    have ta := tc.a
    have tt := tc.t
    have HO : Hid (WordOK s (pos s j) wd.toList) := tc.ok
    clear tc
    cases hs : tokIs s j [40]
    · have HV : Hid (Sp.St.asks s (.live e) = tokIs s j [115, 101, 108, 101, 99, 116]) := by show _ = _; rw [HA.out]; exact asks_stop hs
      clear HA
      cases hq : tokIs s j [115, 101, 108, 101, 99, 116]
      · have HV2 : Hid (Sp.St.asks s (.live e) = false) := by show _ = _; rw [HV.out, hq]
        go_wp2_with fail
        refine (is_lit HPr.out j HO.out _ _ [40] (by decide)).mono ?_
        rintro r w2 ⟨rfl, hp2, hk2⟩
        have HP2 : Hid (PS b c cap len s d (.live e) w2) := hp2
        have HB2 : Hid (Below w.heap.size w w2) := HBr.out.trans (hk2.mono HBr.out.size)
        have c02 := hp2.h0
        have tk2 := (hk2.cell (p := ⟨c, j * 3, none⟩) HPr.out.lc).trans tk
        have ta2 := (hk2.cell (p := ⟨c, j * 3 + 1, none⟩) HPr.out.lc).trans ta
        have tt2 := (hk2.cell (p := ⟨c, j * 3 + 2, none⟩) HPr.out.lc).trans tt
        clear hp2 hk2 c0 tk ta tt
        go_wp2_with fail
        refine (is_lit HP2.out j HO.out _ _ [115, 101, 108, 101, 99, 116] (by decide)).mono ?_
        rintro r w3 ⟨rfl, hp3, hk3⟩
        have HP3 : Hid (PS b c cap len s d (.live e) w3) := hp3
        have HB3 : Hid (Below w.heap.size w w3) := HB2.out.trans (hk3.mono HB2.out.size)
        clear hp3 hk3 c02 tk2 ta2 tt2
        go_wp2_with fail
        go_ret
        exact ⟨by rw [HV2.out]; rfl, HP3.out, Kept.below HB3.out⟩
      · have HV2 : Hid (Sp.St.asks s (.live e) = true) := by show _ = _; rw [HV.out, hq]
        go_wp2_with fail
        refine (is_lit HPr.out j HO.out _ _ [40] (by decide)).mono ?_
        rintro r w2 ⟨rfl, hp2, hk2⟩
        have HP2 : Hid (PS b c cap len s d (.live e) w2) := hp2
        have HB2 : Hid (Below w.heap.size w w2) := HBr.out.trans (hk2.mono HBr.out.size)
        have c02 := hp2.h0
        have tk2 := (hk2.cell (p := ⟨c, j * 3, none⟩) HPr.out.lc).trans tk
        have ta2 := (hk2.cell (p := ⟨c, j * 3 + 1, none⟩) HPr.out.lc).trans ta
        have tt2 := (hk2.cell (p := ⟨c, j * 3 + 2, none⟩) HPr.out.lc).trans tt
        clear hp2 hk2 c0 tk ta tt
        go_wp2_with fail
        refine (is_lit HP2.out j HO.out _ _ [115, 101, 108, 101, 99, 116] (by decide)).mono ?_
        rintro r w3 ⟨rfl, hp3, hk3⟩
        have HP3 : Hid (PS b c cap len s d (.live e) w3) := hp3
        have HB3 : Hid (Below w.heap.size w w3) := HB2.out.trans (hk3.mono HB2.out.size)
        clear hp3 hk3 c02 tk2 ta2 tt2
        go_wp2_with fail
        go_ret
        exact ⟨by rw [HV2.out]; rfl, HP3.out, Kept.below HB3.out⟩
    · have HV : Hid (Sp.St.asks s (.live e) = Sp.asksAt s f (pos s (j + 1))) := by show _ = _; rw [HA.out]; exact asks_round hs
      have hup := pos_up hs
      have hnx := next_lt HPr.out.tk hj hs
      clear HA
      go_wp2_with fail
      refine (is_lit HPr.out j HO.out _ _ [40] (by decide)).mono ?_
      rintro r w2 ⟨rfl, hp2, hk2⟩
      have HP2 : Hid (PS b c cap len s d (.live e) w2) := hp2
      have HB2 : Hid (Below w.heap.size w w2) := HBr.out.trans (hk2.mono HBr.out.size)
      clear hp2 hk2 c0 tk ta tt
      go_wp2_with fail
      go_roundg f
      case measure => omega
      case rel => exact ⟨by omega, j + 1, hnx, by go_num, by omega, HV.out, HP2.out, HB2.out⟩

set_option maxHeartbeats 2000000 in
theorem factor_open {b c cap len : Nat} {s : Sp.Bs} {n d : Nat} {σ : Sp.St} {w : World} (IH : Hid (∀ m, m ≤ n → All b c cap len s m)) (_HL : Hid (SdL b c cap len s n .list 100)) (hd : d + (n + 1) ≤ 1000000) (hm' : 32 * Sp.rem s σ + 12 ≤ n + 1) (HP : Hid (PS b c cap len s d σ w)) (h1 : σ.is s [40] = true) :
    Calls Tryz.prog 117 #[.pointer (some ⟨b, 0, none⟩)] w (Post b c cap len s d (Sp.run s (n + 1) .factor d σ) w) := by
  have HV : Hid (Sp.run s (n + 1) .factor d σ = (Sp.run s n .query (d + 1) (σ.opened s [40] d)).must s [41]) := by show _ = _; rw [Sp.run, h1, opened_is h1]; rfl
  have r1 := Sp.rem_openT_lt (d := d) h1
  rw [← opened_is h1] at r1
  have hmf : ∀ (fn : Fn) (first cap : Array Value) (w : World), (Instr.makeFunc fn first cap).run Tryz.prog w = .ok (.func fn first cap) w := fun _ _ _ _ => rfl
  go_enter Tryz.func117, Tryz.ntmps117
  go_wp2_with fail
  refine (sees1 HP.out [40] (by decide)).mono ?_
  rintro r w1 ⟨rfl, hp1, hk1⟩
  have HP1 : Hid (PS b c cap len s d (σ) w1) := hp1
  have HK1 : Hid (Kept b w w1) := hk1
  clear hp1 hk1
  go_wp2_with fail
  refine (enclosed_query HP1.out (by omega) (Sp.run s n .query (d + 1)) (fun w' hp' => (IH.out n (by omega)).query (d + 1) _ _ (by omega) (by show 32 * Sp.rem s _ + 15 ≤ n; omega) hp')).mono ?_
  rintro r w2 ⟨rfl, hp2, hk2⟩
  have HP2 : Hid (PS b c cap len s d ((Sp.run s n .query (d + 1) (σ.opened s [40] d)).must s [41]) w2) := hp2
  have HK2 : Hid (Kept b w w2) := HK1.out.trans hk2
  clear hp2 hk2
  go_wp2_with fail
  exact bodyPost_ret (v := .tuple #[]) (by simp [results, Tryz.results117, go_sem]) rfl ⟨rfl, by rw [HV.out]; exact HP2.out, HK2.out⟩

set_option maxHeartbeats 2000000 in
theorem factor_starFrom {b c cap len : Nat} {s : Sp.Bs} {n d : Nat} {σ : Sp.St} {w : World} (IH : Hid (∀ m, m ≤ n → All b c cap len s m)) (_HL : Hid (SdL b c cap len s n .list 100)) (hd : d + (n + 1) ≤ 1000000) (hm' : 32 * Sp.rem s σ + 12 ≤ n + 1) (HP : Hid (PS b c cap len s d σ w)) (h1 : σ.is s [40] = false) (σ1 σ2 : Sp.St) (E1 : Hid ((σ.must s [115, 101, 108, 101, 99, 116]).take s [100, 105, 115, 116, 105, 110, 99, 116] = σ1)) (h2 : (σ1.is s [42]) = true) (E2 : Hid (σ1.step s = σ2)) (h3 : σ2.is s [102, 114, 111, 109] = true) :
    Calls Tryz.prog 117 #[.pointer (some ⟨b, 0, none⟩)] w (Post b c cap len s d (Sp.run s (n + 1) .factor d σ) w) := by
  have HV : Hid (Sp.run s (n + 1) .factor d σ = Sp.run s n .where_ d (Sp.run s n .fromL d (σ2.step s))) := by
    show _ = _
    rw [Sp.run, h1]
    simp only [Bool.false_eq_true, if_false, E1.out, h2, E2.out, h3, if_true]
  have r1 : Sp.rem s σ1 ≤ Sp.rem s σ := by rw [← E1.out]; exact Nat.le_trans (Sp.rem_take _ _ _) (Sp.rem_must _ _ _)
  have r2 : Sp.rem s σ2 ≤ Sp.rem s σ1 := by rw [← E2.out]; exact Sp.rem_step_le _ _
  have r3 := Sp.rem_step_lt h3
  have r4 := Sp.rem_run s n .fromL d (σ2.step s)
  have hmf : ∀ (fn : Fn) (first cap : Array Value) (w : World), (Instr.makeFunc fn first cap).run Tryz.prog w = .ok (.func fn first cap) w := fun _ _ _ _ => rfl
  go_enter Tryz.func117, Tryz.ntmps117
  go_wp2_with fail
  refine (sees1 HP.out [40] (by decide)).mono ?_
  rintro r w1 ⟨rfl, hp1, hk1⟩
  have HP1 : Hid (PS b c cap len s d (σ) w1) := hp1
  have HK1 : Hid (Kept b w w1) := hk1
  clear hp1 hk1
  go_wp2_with fail
  refine (expect_any HP1.out [115, 101, 108, 101, 99, 116] (by decide)).mono ?_
  rintro r w2 ⟨rfl, hp2, hk2⟩
  have HP2 : Hid (PS b c cap len s d (σ.must s [115, 101, 108, 101, 99, 116]) w2) := hp2
  have HK2 : Hid (Kept b w w2) := HK1.out.trans hk2
  clear hp2 hk2
  go_wp2_with fail
  refine (accept1 HP2.out [100, 105, 115, 116, 105, 110, 99, 116] (by decide)).mono ?_
  rintro r w3 ⟨rfl, hp3, hk3⟩
  rw [E1.out] at hp3
  have HP3 : Hid (PS b c cap len s d (σ1) w3) := hp3
  have HK3 : Hid (Kept b w w3) := HK2.out.trans hk3
  clear hp3 hk3
  go_wp2_with fail
  refine (accept1 HP3.out [42] (by decide)).mono ?_
  rintro r w4 ⟨rfl, hp4, hk4⟩
  rw [take_yes h2, E2.out] at hp4
  have HP4 : Hid (PS b c cap len s d (σ2) w4) := hp4
  have HK4 : Hid (Kept b w w4) := HK3.out.trans hk4
  clear hp4 hk4
  go_wp2_with fail
  refine (accept1 HP4.out [102, 114, 111, 109] (by decide)).mono ?_
  rintro r w5 ⟨rfl, hp5, hk5⟩
  rw [take_yes h3] at hp5
  have HP5 : Hid (PS b c cap len s d (σ2.step s) w5) := hp5
  have HK5 : Hid (Kept b w w5) := HK4.out.trans hk5
  clear hp5 hk5
  go_wp2_with fail
  refine (listS_any (n := n) (by omega) HP5.out).mono ?_
  rintro r w6 ⟨rfl, hp6, hk6⟩
  have HP6 : Hid (PS b c cap len s d (Sp.run s n .fromL d (σ2.step s)) w6) := hp6
  have HK6 : Hid (Kept b w w6) := HK5.out.trans hk6
  clear hp6 hk6
  go_wp2_with fail
  refine ((IH.out n (by omega)).where_ d _ _ (by omega) (by show 32 * Sp.rem s _ + 10 ≤ n; omega) HP6.out).mono ?_
  rintro r w7 ⟨rfl, hp7, hk7⟩
  have HP7 : Hid (PS b c cap len s d (Sp.run s n .where_ d (Sp.run s n .fromL d (σ2.step s))) w7) := hp7
  have HK7 : Hid (Kept b w w7) := HK6.out.trans hk7
  clear hp7 hk7
  go_wp2_with fail
  go_end0
  exact ⟨rfl, by rw [HV.out]; exact HP7.out, HK7.out⟩

set_option maxHeartbeats 2000000 in
theorem factor_starNo {b c cap len : Nat} {s : Sp.Bs} {n d : Nat} {σ : Sp.St} {w : World} (IH : Hid (∀ m, m ≤ n → All b c cap len s m)) (_HL : Hid (SdL b c cap len s n .list 100)) (hd : d + (n + 1) ≤ 1000000) (hm' : 32 * Sp.rem s σ + 12 ≤ n + 1) (HP : Hid (PS b c cap len s d σ w)) (h1 : σ.is s [40] = false) (σ1 σ2 : Sp.St) (E1 : Hid ((σ.must s [115, 101, 108, 101, 99, 116]).take s [100, 105, 115, 116, 105, 110, 99, 116] = σ1)) (h2 : (σ1.is s [42]) = true) (E2 : Hid (σ1.step s = σ2)) (h3 : σ2.is s [102, 114, 111, 109] = false) :
    Calls Tryz.prog 117 #[.pointer (some ⟨b, 0, none⟩)] w (Post b c cap len s d (Sp.run s (n + 1) .factor d σ) w) := by
  have HV : Hid (Sp.run s (n + 1) .factor d σ = Sp.run s n .where_ d (σ2)) := by
    show _ = _
    rw [Sp.run, h1]
    simp only [Bool.false_eq_true, if_false, E1.out, h2, E2.out, h3, if_true]
  have r1 : Sp.rem s σ1 ≤ Sp.rem s σ := by rw [← E1.out]; exact Nat.le_trans (Sp.rem_take _ _ _) (Sp.rem_must _ _ _)
  have r2 : Sp.rem s σ2 ≤ Sp.rem s σ1 := by rw [← E2.out]; exact Sp.rem_step_le _ _
  have hmf : ∀ (fn : Fn) (first cap : Array Value) (w : World), (Instr.makeFunc fn first cap).run Tryz.prog w = .ok (.func fn first cap) w := fun _ _ _ _ => rfl
  go_enter Tryz.func117, Tryz.ntmps117
  go_wp2_with fail
  refine (sees1 HP.out [40] (by decide)).mono ?_
  rintro r w1 ⟨rfl, hp1, hk1⟩
  have HP1 : Hid (PS b c cap len s d (σ) w1) := hp1
  have HK1 : Hid (Kept b w w1) := hk1
  clear hp1 hk1
  go_wp2_with fail
  refine (expect_any HP1.out [115, 101, 108, 101, 99, 116] (by decide)).mono ?_
  rintro r w2 ⟨rfl, hp2, hk2⟩
  have HP2 : Hid (PS b c cap len s d (σ.must s [115, 101, 108, 101, 99, 116]) w2) := hp2
  have HK2 : Hid (Kept b w w2) := HK1.out.trans hk2
  clear hp2 hk2
  go_wp2_with fail
  refine (accept1 HP2.out [100, 105, 115, 116, 105, 110, 99, 116] (by decide)).mono ?_
  rintro r w3 ⟨rfl, hp3, hk3⟩
  rw [E1.out] at hp3
  have HP3 : Hid (PS b c cap len s d (σ1) w3) := hp3
  have HK3 : Hid (Kept b w w3) := HK2.out.trans hk3
  clear hp3 hk3
  go_wp2_with fail
  refine (accept1 HP3.out [42] (by decide)).mono ?_
  rintro r w4 ⟨rfl, hp4, hk4⟩
  rw [take_yes h2, E2.out] at hp4
  have HP4 : Hid (PS b c cap len s d (σ2) w4) := hp4
  have HK4 : Hid (Kept b w w4) := HK3.out.trans hk4
  clear hp4 hk4
  go_wp2_with fail
  refine (accept1 HP4.out [102, 114, 111, 109] (by decide)).mono ?_
  rintro r w5 ⟨rfl, hp5, hk5⟩
  rw [take_no h3] at hp5
  have HP5 : Hid (PS b c cap len s d (σ2) w5) := hp5
  have HK5 : Hid (Kept b w w5) := HK4.out.trans hk5
  clear hp5 hk5
  go_wp2_with fail
  refine ((IH.out n (by omega)).where_ d _ _ (by omega) (by show 32 * Sp.rem s _ + 10 ≤ n; omega) HP5.out).mono ?_
  rintro r w6 ⟨rfl, hp6, hk6⟩
  have HP6 : Hid (PS b c cap len s d (Sp.run s n .where_ d (σ2)) w6) := hp6
  have HK6 : Hid (Kept b w w6) := HK5.out.trans hk6
  clear hp6 hk6
  go_wp2_with fail
  go_end0
  exact ⟨rfl, by rw [HV.out]; exact HP6.out, HK6.out⟩

set_option maxHeartbeats 2000000 in
theorem factor_listFrom {b c cap len : Nat} {s : Sp.Bs} {n d : Nat} {σ : Sp.St} {w : World} (IH : Hid (∀ m, m ≤ n → All b c cap len s m)) (_HL : Hid (SdL b c cap len s n .list 100)) (hd : d + (n + 1) ≤ 1000000) (hm' : 32 * Sp.rem s σ + 12 ≤ n + 1) (HP : Hid (PS b c cap len s d σ w)) (h1 : σ.is s [40] = false) (σ1 σ2 : Sp.St) (E1 : Hid ((σ.must s [115, 101, 108, 101, 99, 116]).take s [100, 105, 115, 116, 105, 110, 99, 116] = σ1)) (h2 : (σ1.is s [42]) = false) (E2 : Hid (Sp.run s n .list d σ1 = σ2)) (h3 : σ2.is s [102, 114, 111, 109] = true) :
    Calls Tryz.prog 117 #[.pointer (some ⟨b, 0, none⟩)] w (Post b c cap len s d (Sp.run s (n + 1) .factor d σ) w) := by
  have HV : Hid (Sp.run s (n + 1) .factor d σ = Sp.run s n .where_ d (Sp.run s n .fromL d (σ2.step s))) := by
    show _ = _
    rw [Sp.run, h1]
    simp only [Bool.false_eq_true, if_false, E1.out, h2, E2.out, h3, if_true]
  have r1 : Sp.rem s σ1 ≤ Sp.rem s σ := by rw [← E1.out]; exact Nat.le_trans (Sp.rem_take _ _ _) (Sp.rem_must _ _ _)
  have r2 : Sp.rem s σ2 ≤ Sp.rem s σ1 := by rw [← E2.out]; exact Sp.rem_run _ _ _ _ _
  have r3 := Sp.rem_step_lt h3
  have r4 := Sp.rem_run s n .fromL d (σ2.step s)
  have hmf : ∀ (fn : Fn) (first cap : Array Value) (w : World), (Instr.makeFunc fn first cap).run Tryz.prog w = .ok (.func fn first cap) w := fun _ _ _ _ => rfl
  go_enter Tryz.func117, Tryz.ntmps117
  go_wp2_with fail
  refine (sees1 HP.out [40] (by decide)).mono ?_
  rintro r w1 ⟨rfl, hp1, hk1⟩
  have HP1 : Hid (PS b c cap len s d (σ) w1) := hp1
  have HK1 : Hid (Kept b w w1) := hk1
  clear hp1 hk1
  go_wp2_with fail
  refine (expect_any HP1.out [115, 101, 108, 101, 99, 116] (by decide)).mono ?_
  rintro r w2 ⟨rfl, hp2, hk2⟩
  have HP2 : Hid (PS b c cap len s d (σ.must s [115, 101, 108, 101, 99, 116]) w2) := hp2
  have HK2 : Hid (Kept b w w2) := HK1.out.trans hk2
  clear hp2 hk2
  go_wp2_with fail
  refine (accept1 HP2.out [100, 105, 115, 116, 105, 110, 99, 116] (by decide)).mono ?_
  rintro r w3 ⟨rfl, hp3, hk3⟩
  rw [E1.out] at hp3
  have HP3 : Hid (PS b c cap len s d (σ1) w3) := hp3
  have HK3 : Hid (Kept b w w3) := HK2.out.trans hk3
  clear hp3 hk3
  go_wp2_with fail
  refine (accept1 HP3.out [42] (by decide)).mono ?_
  rintro r w4 ⟨rfl, hp4, hk4⟩
  rw [take_no h2] at hp4
  have HP4 : Hid (PS b c cap len s d (σ1) w4) := hp4
  have HK4 : Hid (Kept b w w4) := HK3.out.trans hk4
  clear hp4 hk4
  go_wp2_with fail
  refine (_HL.out d _ _ (by omega) (by show 32 * Sp.rem s _ + 10 ≤ n; omega) HP4.out).mono ?_
  rintro r w5 ⟨rfl, hp5, hk5⟩
  rw [E2.out] at hp5
  have HP5 : Hid (PS b c cap len s d (σ2) w5) := hp5
  have HK5 : Hid (Kept b w w5) := HK4.out.trans hk5
  clear hp5 hk5
  go_wp2_with fail
  refine (accept1 HP5.out [102, 114, 111, 109] (by decide)).mono ?_
  rintro r w6 ⟨rfl, hp6, hk6⟩
  rw [take_yes h3] at hp6
  have HP6 : Hid (PS b c cap len s d (σ2.step s) w6) := hp6
  have HK6 : Hid (Kept b w w6) := HK5.out.trans hk6
  clear hp6 hk6
  go_wp2_with fail
  refine (listS_any (n := n) (by omega) HP6.out).mono ?_
  rintro r w7 ⟨rfl, hp7, hk7⟩
  have HP7 : Hid (PS b c cap len s d (Sp.run s n .fromL d (σ2.step s)) w7) := hp7
  have HK7 : Hid (Kept b w w7) := HK6.out.trans hk7
  clear hp7 hk7
  go_wp2_with fail
  refine ((IH.out n (by omega)).where_ d _ _ (by omega) (by show 32 * Sp.rem s _ + 10 ≤ n; omega) HP7.out).mono ?_
  rintro r w8 ⟨rfl, hp8, hk8⟩
  have HP8 : Hid (PS b c cap len s d (Sp.run s n .where_ d (Sp.run s n .fromL d (σ2.step s))) w8) := hp8
  have HK8 : Hid (Kept b w w8) := HK7.out.trans hk8
  clear hp8 hk8
  go_wp2_with fail
  go_end0
  exact ⟨rfl, by rw [HV.out]; exact HP8.out, HK8.out⟩

set_option maxHeartbeats 2000000 in
theorem factor_listNo {b c cap len : Nat} {s : Sp.Bs} {n d : Nat} {σ : Sp.St} {w : World} (IH : Hid (∀ m, m ≤ n → All b c cap len s m)) (_HL : Hid (SdL b c cap len s n .list 100)) (hd : d + (n + 1) ≤ 1000000) (hm' : 32 * Sp.rem s σ + 12 ≤ n + 1) (HP : Hid (PS b c cap len s d σ w)) (h1 : σ.is s [40] = false) (σ1 σ2 : Sp.St) (E1 : Hid ((σ.must s [115, 101, 108, 101, 99, 116]).take s [100, 105, 115, 116, 105, 110, 99, 116] = σ1)) (h2 : (σ1.is s [42]) = false) (E2 : Hid (Sp.run s n .list d σ1 = σ2)) (h3 : σ2.is s [102, 114, 111, 109] = false) :
    Calls Tryz.prog 117 #[.pointer (some ⟨b, 0, none⟩)] w (Post b c cap len s d (Sp.run s (n + 1) .factor d σ) w) := by
  have HV : Hid (Sp.run s (n + 1) .factor d σ = Sp.run s n .where_ d (σ2)) := by
    show _ = _
    rw [Sp.run, h1]
    simp only [Bool.false_eq_true, if_false, E1.out, h2, E2.out, h3]
  have r1 : Sp.rem s σ1 ≤ Sp.rem s σ := by rw [← E1.out]; exact Nat.le_trans (Sp.rem_take _ _ _) (Sp.rem_must _ _ _)
  have r2 : Sp.rem s σ2 ≤ Sp.rem s σ1 := by rw [← E2.out]; exact Sp.rem_run _ _ _ _ _
  have hmf : ∀ (fn : Fn) (first cap : Array Value) (w : World), (Instr.makeFunc fn first cap).run Tryz.prog w = .ok (.func fn first cap) w := fun _ _ _ _ => rfl
  go_enter Tryz.func117, Tryz.ntmps117
  go_wp2_with fail
  refine (sees1 HP.out [40] (by decide)).mono ?_
  rintro r w1 ⟨rfl, hp1, hk1⟩
  have HP1 : Hid (PS b c cap len s d (σ) w1) := hp1
  have HK1 : Hid (Kept b w w1) := hk1
  clear hp1 hk1
  go_wp2_with fail
  refine (expect_any HP1.out [115, 101, 108, 101, 99, 116] (by decide)).mono ?_
  rintro r w2 ⟨rfl, hp2, hk2⟩
  have HP2 : Hid (PS b c cap len s d (σ.must s [115, 101, 108, 101, 99, 116]) w2) := hp2
  have HK2 : Hid (Kept b w w2) := HK1.out.trans hk2
  clear hp2 hk2
  go_wp2_with fail
  refine (accept1 HP2.out [100, 105, 115, 116, 105, 110, 99, 116] (by decide)).mono ?_
  rintro r w3 ⟨rfl, hp3, hk3⟩
  rw [E1.out] at hp3
  have HP3 : Hid (PS b c cap len s d (σ1) w3) := hp3
  have HK3 : Hid (Kept b w w3) := HK2.out.trans hk3
  clear hp3 hk3
  go_wp2_with fail
  refine (accept1 HP3.out [42] (by decide)).mono ?_
  rintro r w4 ⟨rfl, hp4, hk4⟩
  rw [take_no h2] at hp4
  have HP4 : Hid (PS b c cap len s d (σ1) w4) := hp4
  have HK4 : Hid (Kept b w w4) := HK3.out.trans hk4
  clear hp4 hk4
  go_wp2_with fail
  refine (_HL.out d _ _ (by omega) (by show 32 * Sp.rem s _ + 10 ≤ n; omega) HP4.out).mono ?_
  rintro r w5 ⟨rfl, hp5, hk5⟩
  rw [E2.out] at hp5
  have HP5 : Hid (PS b c cap len s d (σ2) w5) := hp5
  have HK5 : Hid (Kept b w w5) := HK4.out.trans hk5
  clear hp5 hk5
  go_wp2_with fail
  refine (accept1 HP5.out [102, 114, 111, 109] (by decide)).mono ?_
  rintro r w6 ⟨rfl, hp6, hk6⟩
  rw [take_no h3] at hp6
  have HP6 : Hid (PS b c cap len s d (σ2) w6) := hp6
  have HK6 : Hid (Kept b w w6) := HK5.out.trans hk6
  clear hp6 hk6
  go_wp2_with fail
  refine ((IH.out n (by omega)).where_ d _ _ (by omega) (by show 32 * Sp.rem s _ + 10 ≤ n; omega) HP6.out).mono ?_
  rintro r w7 ⟨rfl, hp7, hk7⟩
  have HP7 : Hid (PS b c cap len s d (Sp.run s n .where_ d (σ2)) w7) := hp7
  have HK7 : Hid (Kept b w w7) := HK6.out.trans hk7
  clear hp7 hk7
  go_wp2_with fail
  go_end0
  exact ⟨rfl, by rw [HV.out]; exact HP7.out, HK7.out⟩

theorem factor_step {b c cap len : Nat} {s : Sp.Bs} {n : Nat} (IH : Hid (∀ m, m ≤ n → All b c cap len s m)) (_HL : Hid (SdL b c cap len s n .list 100)) : Sd b c cap len s (n + 1) .factor 117 := by
  intro d σ w hd hm hp
  cases h1 : σ.is s [40]
  · cases h2 : ((σ.must s [115, 101, 108, 101, 99, 116]).take s [100, 105, 115, 116, 105, 110, 99, 116]).is s [42]
    · cases h3 : (Sp.run s n .list d ((σ.must s [115, 101, 108, 101, 99, 116]).take s [100, 105, 115, 116, 105, 110, 99, 116])).is s [102, 114, 111, 109]
      · exact factor_listNo IH _HL hd hm hp h1 _ _ rfl h2 rfl h3
      · exact factor_listFrom IH _HL hd hm hp h1 _ _ rfl h2 rfl h3
    · cases h3 : (((σ.must s [115, 101, 108, 101, 99, 116]).take s [100, 105, 115, 116, 105, 110, 99, 116]).step s).is s [102, 114, 111, 109]
      · exact factor_starNo IH _HL hd hm hp h1 _ _ rfl h2 rfl h3
      · exact factor_starFrom IH _HL hd hm hp h1 _ _ rfl h2 rfl h3
  · exact factor_open IH _HL hd hm hp h1

end Go.Proofs.YtpgeiieapkbjhaaGreatDoor
