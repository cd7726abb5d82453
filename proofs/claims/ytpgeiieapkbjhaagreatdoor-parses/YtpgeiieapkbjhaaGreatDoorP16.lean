import Derived.Test.YtpgeiieapkbjhaaGreatDoorP15
namespace Go.Proofs.YtpgeiieapkbjhaaGreatDoor
open Go.RowKit

theorem accept3b {b c cap len : Nat} {s : Sp.Bs} {d : Nat} {σ : Sp.St} {w : World} (h : PS b c cap len s d σ w) :
    Calls Tryz.prog 57 #[.pointer (some ⟨b, 0, none⟩), .slice (some ⟨w.heap.size, 0, none⟩) 3 3] (w.alloc (.cells #[.string ⟨#[98, 101, 103, 105, 110]⟩, .string ⟨#[99, 111, 109, 109, 105, 116]⟩, .string ⟨#[114, 111, 108, 108, 98, 97, 99, 107]⟩] 9)) fun r w' => r = .returned (.bool (seesOne s [[98, 101, 103, 105, 110], [99, 111, 109, 109, 105, 116], [114, 111, 108, 108, 98, 97, 99, 107]] σ)) ∧ PS b c cap len s d (stepIf (seesOne s [[98, 101, 103, 105, 110], [99, 111, 109, 109, 105, 116], [114, 111, 108, 108, 98, 97, 99, 107]] σ) s σ) w' ∧ Kept b w w' :=
  accept_lit h [[98, 101, 103, 105, 110], [99, 111, 109, 109, 105, 116], [114, 111, 108, 108, 98, 97, 99, 107]] (by decide) (by decide) 3 rfl #[.string ⟨#[98, 101, 103, 105, 110]⟩, .string ⟨#[99, 111, 109, 109, 105, 116]⟩, .string ⟨#[114, 111, 108, 108, 98, 97, 99, 107]⟩] rfl

set_option maxHeartbeats 2000000 in
theorem stmt_create {b c cap len : Nat} {s : Sp.Bs} {n : Nat} {σ : Sp.St} {w : World} (_IA : Hid (All b c cap len s n)) (_IL : Hid (SdL b c cap len s n .list 100)) (_hn : n ≤ 900000) (_hm : 32 * Sp.rem s σ + 20 ≤ n) (HP : Hid (PS b c cap len s 0 σ w))  (h_create : σ.is s [99, 114, 101, 97, 116, 101] = true) :
    Calls Tryz.prog 31 #[.pointer (some ⟨b, 0, none⟩)] w (Post b c cap len s 0 (Sp.stmt s n σ) w) := by
  have HV : Hid (Sp.stmt s n σ = (Sp.colL s n 0 ((((σ.step s).must s [116, 97, 98, 108, 101]).nameT s).must s [40])).must s [41]) := by
    show _ = _
    rw [Sp.stmt, ← three s [98, 101, 103, 105, 110] [99, 111, 109, 109, 105, 116] [114, 111, 108, 108, 98, 97, 99, 107]]
    simp only [h_create, if_true]
  have r1 := Sp.rem_step_lt h_create
  have hmf : ∀ (fn : Fn) (first cap : Array Value) (w : World), (Instr.makeFunc fn first cap).run Tryz.prog w = .ok (.func fn first cap) w := fun _ _ _ _ => rfl
  go_enter Tryz.func31, Tryz.ntmps31
  go_wp2_with fail
  refine (accept1 HP.out [99, 114, 101, 97, 116, 101] (by decide)).mono ?_
  rintro r w1 ⟨rfl, hp1, hk1⟩
  rw [take_yes h_create] at hp1
  have HP1 : Hid (PS b c cap len s 0 (σ.step s) w1) := hp1
  have HK1 : Hid (Kept b w w1) := hk1
  clear hp1 hk1
  go_wp2_with fail
  refine (create_any (n := n) (by omega) HP1.out).mono ?_
  rintro r w2 ⟨rfl, hp2, hk2⟩
  have HP2 : Hid (PS b c cap len s 0 ((Sp.colL s n 0 ((((σ.step s).must s [116, 97, 98, 108, 101]).nameT s).must s [40])).must s [41]) w2) := hp2
  have HK2 : Hid (Kept b w w2) := HK1.out.trans hk2
  clear hp2 hk2
  go_wp2_with fail
  go_end0
  exact ⟨rfl, by rw [HV.out]; exact HP2.out, HK2.out⟩

set_option maxHeartbeats 2000000 in
theorem stmt_drop {b c cap len : Nat} {s : Sp.Bs} {n : Nat} {σ : Sp.St} {w : World} (_IA : Hid (All b c cap len s n)) (_IL : Hid (SdL b c cap len s n .list 100)) (_hn : n ≤ 900000) (_hm : 32 * Sp.rem s σ + 20 ≤ n) (HP : Hid (PS b c cap len s 0 σ w)) (h_create : σ.is s [99, 114, 101, 97, 116, 101] = false) (h_drop : σ.is s [100, 114, 111, 112] = true) :
    Calls Tryz.prog 31 #[.pointer (some ⟨b, 0, none⟩)] w (Post b c cap len s 0 (Sp.stmt s n σ) w) := by
  have HV : Hid (Sp.stmt s n σ = ((σ.step s).must s [116, 97, 98, 108, 101]).nameT s) := by
    show _ = _
    rw [Sp.stmt, ← three s [98, 101, 103, 105, 110] [99, 111, 109, 109, 105, 116] [114, 111, 108, 108, 98, 97, 99, 107]]
    simp only [h_create, h_drop, Bool.false_eq_true, if_false, if_true]
  have hmf : ∀ (fn : Fn) (first cap : Array Value) (w : World), (Instr.makeFunc fn first cap).run Tryz.prog w = .ok (.func fn first cap) w := fun _ _ _ _ => rfl
  go_enter Tryz.func31, Tryz.ntmps31
  go_wp2_with fail
  refine (accept1 HP.out [99, 114, 101, 97, 116, 101] (by decide)).mono ?_
  rintro r w1 ⟨rfl, hp1, hk1⟩
  rw [take_no h_create] at hp1
  have HP1 : Hid (PS b c cap len s 0 (σ) w1) := hp1
  have HK1 : Hid (Kept b w w1) := hk1
  clear hp1 hk1
  go_wp2_with fail
  refine (accept1 HP1.out [100, 114, 111, 112] (by decide)).mono ?_
  rintro r w2 ⟨rfl, hp2, hk2⟩
  rw [take_yes h_drop] at hp2
  have HP2 : Hid (PS b c cap len s 0 (σ.step s) w2) := hp2
  have HK2 : Hid (Kept b w w2) := HK1.out.trans hk2
  clear hp2 hk2
  go_wp2_with fail
  refine (expect_any HP2.out [116, 97, 98, 108, 101] (by decide)).mono ?_
  rintro r w3 ⟨rfl, hp3, hk3⟩
  have HP3 : Hid (PS b c cap len s 0 ((σ.step s).must s [116, 97, 98, 108, 101]) w3) := hp3
  have HK3 : Hid (Kept b w w3) := HK2.out.trans hk3
  clear hp3 hk3
  go_wp2_with fail
  refine (name_any HP3.out).mono ?_
  rintro r w4 ⟨rfl, hp4, hk4⟩
  have HP4 : Hid (PS b c cap len s 0 (((σ.step s).must s [116, 97, 98, 108, 101]).nameT s) w4) := hp4
  have HK4 : Hid (Kept b w w4) := HK3.out.trans hk4
  clear hp4 hk4
  go_wp2_with fail
  go_end0
  exact ⟨rfl, by rw [HV.out]; exact HP4.out, HK4.out⟩

set_option maxHeartbeats 2000000 in
theorem stmt_insertV {b c cap len : Nat} {s : Sp.Bs} {n : Nat} {σ : Sp.St} {w : World} (_IA : Hid (All b c cap len s n)) (_IL : Hid (SdL b c cap len s n .list 100)) (_hn : n ≤ 900000) (_hm : 32 * Sp.rem s σ + 20 ≤ n) (HP : Hid (PS b c cap len s 0 σ w)) (h_create : σ.is s [99, 114, 101, 97, 116, 101] = false) (h_drop : σ.is s [100, 114, 111, 112] = false) (h_insert : σ.is s [105, 110, 115, 101, 114, 116] = true) (hv : (((σ.step s).must s [105, 110, 116, 111]).nameT s).is s [118, 97, 108, 117, 101, 115] = true) :
    Calls Tryz.prog 31 #[.pointer (some ⟨b, 0, none⟩)] w (Post b c cap len s 0 (Sp.stmt s n σ) w) := by
  have HV : Hid (Sp.stmt s n σ = Sp.rowL s n n ((((σ.step s).must s [105, 110, 116, 111]).nameT s).step s)) := by
    show _ = _
    rw [Sp.stmt, ← three s [98, 101, 103, 105, 110] [99, 111, 109, 109, 105, 116] [114, 111, 108, 108, 98, 97, 99, 107]]
    simp only [h_create, h_drop, h_insert, hv, Bool.false_eq_true, if_false, if_true]
  have r1 := Sp.rem_step_lt h_insert
  have hmf : ∀ (fn : Fn) (first cap : Array Value) (w : World), (Instr.makeFunc fn first cap).run Tryz.prog w = .ok (.func fn first cap) w := fun _ _ _ _ => rfl
  go_enter Tryz.func31, Tryz.ntmps31
  go_wp2_with fail
  refine (accept1 HP.out [99, 114, 101, 97, 116, 101] (by decide)).mono ?_
  rintro r w1 ⟨rfl, hp1, hk1⟩
  rw [take_no h_create] at hp1
  have HP1 : Hid (PS b c cap len s 0 (σ) w1) := hp1
  have HK1 : Hid (Kept b w w1) := hk1
  clear hp1 hk1
  go_wp2_with fail
  refine (accept1 HP1.out [100, 114, 111, 112] (by decide)).mono ?_
  rintro r w2 ⟨rfl, hp2, hk2⟩
  rw [take_no h_drop] at hp2
  have HP2 : Hid (PS b c cap len s 0 (σ) w2) := hp2
  have HK2 : Hid (Kept b w w2) := HK1.out.trans hk2
  clear hp2 hk2
  go_wp2_with fail
  refine (accept1 HP2.out [105, 110, 115, 101, 114, 116] (by decide)).mono ?_
  rintro r w3 ⟨rfl, hp3, hk3⟩
  rw [take_yes h_insert] at hp3
  have HP3 : Hid (PS b c cap len s 0 (σ.step s) w3) := hp3
  have HK3 : Hid (Kept b w w3) := HK2.out.trans hk3
  clear hp3 hk3
  go_wp2_with fail
  refine (insert_values (n := n) _IA _IL _hn (by omega) hv HP3).mono ?_
  rintro r w4 ⟨rfl, hp4, hk4⟩
  have HP4 : Hid (PS b c cap len s 0 (Sp.rowL s n n ((((σ.step s).must s [105, 110, 116, 111]).nameT s).step s)) w4) := hp4
  have HK4 : Hid (Kept b w w4) := HK3.out.trans hk4
  clear hp4 hk4
  go_wp2_with fail
  go_end0
  exact ⟨rfl, by rw [HV.out]; exact HP4.out, HK4.out⟩

set_option maxHeartbeats 2000000 in
theorem stmt_insertQ {b c cap len : Nat} {s : Sp.Bs} {n : Nat} {σ : Sp.St} {w : World} (_IA : Hid (All b c cap len s n)) (_IL : Hid (SdL b c cap len s n .list 100)) (_hn : n ≤ 900000) (_hm : 32 * Sp.rem s σ + 20 ≤ n) (HP : Hid (PS b c cap len s 0 σ w)) (h_create : σ.is s [99, 114, 101, 97, 116, 101] = false) (h_drop : σ.is s [100, 114, 111, 112] = false) (h_insert : σ.is s [105, 110, 115, 101, 114, 116] = true) (hv : (((σ.step s).must s [105, 110, 116, 111]).nameT s).is s [118, 97, 108, 117, 101, 115] = false) :
    Calls Tryz.prog 31 #[.pointer (some ⟨b, 0, none⟩)] w (Post b c cap len s 0 (Sp.stmt s n σ) w) := by
  have HV : Hid (Sp.stmt s n σ = Sp.run s n .query 0 (((σ.step s).must s [105, 110, 116, 111]).nameT s)) := by
    show _ = _
    rw [Sp.stmt, ← three s [98, 101, 103, 105, 110] [99, 111, 109, 109, 105, 116] [114, 111, 108, 108, 98, 97, 99, 107]]
    simp only [h_create, h_drop, h_insert, hv, Bool.false_eq_true, if_false, if_true]
  have r1 := Sp.rem_step_lt h_insert
  have hmf : ∀ (fn : Fn) (first cap : Array Value) (w : World), (Instr.makeFunc fn first cap).run Tryz.prog w = .ok (.func fn first cap) w := fun _ _ _ _ => rfl
  go_enter Tryz.func31, Tryz.ntmps31
  go_wp2_with fail
  refine (accept1 HP.out [99, 114, 101, 97, 116, 101] (by decide)).mono ?_
  rintro r w1 ⟨rfl, hp1, hk1⟩
  rw [take_no h_create] at hp1
  have HP1 : Hid (PS b c cap len s 0 (σ) w1) := hp1
  have HK1 : Hid (Kept b w w1) := hk1
  clear hp1 hk1
  go_wp2_with fail
  refine (accept1 HP1.out [100, 114, 111, 112] (by decide)).mono ?_
  rintro r w2 ⟨rfl, hp2, hk2⟩
  rw [take_no h_drop] at hp2
  have HP2 : Hid (PS b c cap len s 0 (σ) w2) := hp2
  have HK2 : Hid (Kept b w w2) := HK1.out.trans hk2
  clear hp2 hk2
  go_wp2_with fail
  refine (accept1 HP2.out [105, 110, 115, 101, 114, 116] (by decide)).mono ?_
  rintro r w3 ⟨rfl, hp3, hk3⟩
  rw [take_yes h_insert] at hp3
  have HP3 : Hid (PS b c cap len s 0 (σ.step s) w3) := hp3
  have HK3 : Hid (Kept b w w3) := HK2.out.trans hk3
  clear hp3 hk3
  go_wp2_with fail
  refine (insert_query (n := n) _IA _IL _hn (by omega) hv HP3).mono ?_
  rintro r w4 ⟨rfl, hp4, hk4⟩
  have HP4 : Hid (PS b c cap len s 0 (Sp.run s n .query 0 (((σ.step s).must s [105, 110, 116, 111]).nameT s)) w4) := hp4
  have HK4 : Hid (Kept b w w4) := HK3.out.trans hk4
  clear hp4 hk4
  go_wp2_with fail
  go_end0
  exact ⟨rfl, by rw [HV.out]; exact HP4.out, HK4.out⟩

set_option maxHeartbeats 2000000 in
theorem stmt_delete {b c cap len : Nat} {s : Sp.Bs} {n : Nat} {σ : Sp.St} {w : World} (_IA : Hid (All b c cap len s n)) (_IL : Hid (SdL b c cap len s n .list 100)) (_hn : n ≤ 900000) (_hm : 32 * Sp.rem s σ + 20 ≤ n) (HP : Hid (PS b c cap len s 0 σ w)) (h_create : σ.is s [99, 114, 101, 97, 116, 101] = false) (h_drop : σ.is s [100, 114, 111, 112] = false) (h_insert : σ.is s [105, 110, 115, 101, 114, 116] = false) (h_delete : σ.is s [100, 101, 108, 101, 116, 101] = true) :
    Calls Tryz.prog 31 #[.pointer (some ⟨b, 0, none⟩)] w (Post b c cap len s 0 (Sp.stmt s n σ) w) := by
  have HV : Hid (Sp.stmt s n σ = Sp.run s n .where_ 0 (((σ.step s).must s [102, 114, 111, 109]).nameT s)) := by
    show _ = _
    rw [Sp.stmt, ← three s [98, 101, 103, 105, 110] [99, 111, 109, 109, 105, 116] [114, 111, 108, 108, 98, 97, 99, 107]]
    simp only [h_create, h_drop, h_insert, h_delete, Bool.false_eq_true, if_false, if_true]
  have r1 := Sp.rem_step_lt h_delete
  have r2 := Sp.rem_must s [102, 114, 111, 109] (σ.step s)
  have r3 := Sp.rem_nameT s ((σ.step s).must s [102, 114, 111, 109])
  have hmf : ∀ (fn : Fn) (first cap : Array Value) (w : World), (Instr.makeFunc fn first cap).run Tryz.prog w = .ok (.func fn first cap) w := fun _ _ _ _ => rfl
  go_enter Tryz.func31, Tryz.ntmps31
  go_wp2_with fail
  refine (accept1 HP.out [99, 114, 101, 97, 116, 101] (by decide)).mono ?_
  rintro r w1 ⟨rfl, hp1, hk1⟩
  rw [take_no h_create] at hp1
  have HP1 : Hid (PS b c cap len s 0 (σ) w1) := hp1
  have HK1 : Hid (Kept b w w1) := hk1
  clear hp1 hk1
  go_wp2_with fail
  refine (accept1 HP1.out [100, 114, 111, 112] (by decide)).mono ?_
  rintro r w2 ⟨rfl, hp2, hk2⟩
  rw [take_no h_drop] at hp2
  have HP2 : Hid (PS b c cap len s 0 (σ) w2) := hp2
  have HK2 : Hid (Kept b w w2) := HK1.out.trans hk2
  clear hp2 hk2
  go_wp2_with fail
  refine (accept1 HP2.out [105, 110, 115, 101, 114, 116] (by decide)).mono ?_
  rintro r w3 ⟨rfl, hp3, hk3⟩
  rw [take_no h_insert] at hp3
  have HP3 : Hid (PS b c cap len s 0 (σ) w3) := hp3
  have HK3 : Hid (Kept b w w3) := HK2.out.trans hk3
  clear hp3 hk3
  go_wp2_with fail
  refine (accept1 HP3.out [100, 101, 108, 101, 116, 101] (by decide)).mono ?_
  rintro r w4 ⟨rfl, hp4, hk4⟩
  rw [take_yes h_delete] at hp4
  have HP4 : Hid (PS b c cap len s 0 (σ.step s) w4) := hp4
  have HK4 : Hid (Kept b w w4) := HK3.out.trans hk4
  clear hp4 hk4
  go_wp2_with fail
  refine (expect_any HP4.out [102, 114, 111, 109] (by decide)).mono ?_
  rintro r w5 ⟨rfl, hp5, hk5⟩
  have HP5 : Hid (PS b c cap len s 0 ((σ.step s).must s [102, 114, 111, 109]) w5) := hp5
  have HK5 : Hid (Kept b w w5) := HK4.out.trans hk5
  clear hp5 hk5
  go_wp2_with fail
  refine (name_any HP5.out).mono ?_
  rintro r w6 ⟨rfl, hp6, hk6⟩
  have HP6 : Hid (PS b c cap len s 0 (((σ.step s).must s [102, 114, 111, 109]).nameT s) w6) := hp6
  have HK6 : Hid (Kept b w w6) := HK5.out.trans hk6
  clear hp6 hk6
  go_wp2_with fail
  refine (_IA.out.where_ 0 _ _ (by omega) (by show 32 * Sp.rem s _ + 10 ≤ n; omega) HP6.out).mono ?_
  rintro r w7 ⟨rfl, hp7, hk7⟩
  have HP7 : Hid (PS b c cap len s 0 (Sp.run s n .where_ 0 (((σ.step s).must s [102, 114, 111, 109]).nameT s)) w7) := hp7
  have HK7 : Hid (Kept b w w7) := HK6.out.trans hk7
  clear hp7 hk7
  go_wp2_with fail
  go_end0
  exact ⟨rfl, by rw [HV.out]; exact HP7.out, HK7.out⟩

set_option maxHeartbeats 2000000 in
theorem stmt_update {b c cap len : Nat} {s : Sp.Bs} {n : Nat} {σ : Sp.St} {w : World} (_IA : Hid (All b c cap len s n)) (_IL : Hid (SdL b c cap len s n .list 100)) (_hn : n ≤ 900000) (_hm : 32 * Sp.rem s σ + 20 ≤ n) (HP : Hid (PS b c cap len s 0 σ w)) (h_create : σ.is s [99, 114, 101, 97, 116, 101] = false) (h_drop : σ.is s [100, 114, 111, 112] = false) (h_insert : σ.is s [105, 110, 115, 101, 114, 116] = false) (h_delete : σ.is s [100, 101, 108, 101, 116, 101] = false) (h_update : σ.is s [117, 112, 100, 97, 116, 101] = true) :
    Calls Tryz.prog 31 #[.pointer (some ⟨b, 0, none⟩)] w (Post b c cap len s 0 (Sp.stmt s n σ) w) := by
  have HV : Hid (Sp.stmt s n σ = Sp.run s n .where_ 0 (Sp.chgL s n n (((σ.step s).nameT s).must s [115, 101, 116]))) := by
    show _ = _
    rw [Sp.stmt, ← three s [98, 101, 103, 105, 110] [99, 111, 109, 109, 105, 116] [114, 111, 108, 108, 98, 97, 99, 107]]
    simp only [h_create, h_drop, h_insert, h_delete, h_update, Bool.false_eq_true, if_false, if_true]
  have r1 := Sp.rem_step_lt h_update
  have hmf : ∀ (fn : Fn) (first cap : Array Value) (w : World), (Instr.makeFunc fn first cap).run Tryz.prog w = .ok (.func fn first cap) w := fun _ _ _ _ => rfl
  go_enter Tryz.func31, Tryz.ntmps31
  go_wp2_with fail
  refine (accept1 HP.out [99, 114, 101, 97, 116, 101] (by decide)).mono ?_
  rintro r w1 ⟨rfl, hp1, hk1⟩
  rw [take_no h_create] at hp1
  have HP1 : Hid (PS b c cap len s 0 (σ) w1) := hp1
  have HK1 : Hid (Kept b w w1) := hk1
  clear hp1 hk1
  go_wp2_with fail
  refine (accept1 HP1.out [100, 114, 111, 112] (by decide)).mono ?_
  rintro r w2 ⟨rfl, hp2, hk2⟩
  rw [take_no h_drop] at hp2
  have HP2 : Hid (PS b c cap len s 0 (σ) w2) := hp2
  have HK2 : Hid (Kept b w w2) := HK1.out.trans hk2
  clear hp2 hk2
  go_wp2_with fail
  refine (accept1 HP2.out [105, 110, 115, 101, 114, 116] (by decide)).mono ?_
  rintro r w3 ⟨rfl, hp3, hk3⟩
  rw [take_no h_insert] at hp3
  have HP3 : Hid (PS b c cap len s 0 (σ) w3) := hp3
  have HK3 : Hid (Kept b w w3) := HK2.out.trans hk3
  clear hp3 hk3
  go_wp2_with fail
  refine (accept1 HP3.out [100, 101, 108, 101, 116, 101] (by decide)).mono ?_
  rintro r w4 ⟨rfl, hp4, hk4⟩
  rw [take_no h_delete] at hp4
  have HP4 : Hid (PS b c cap len s 0 (σ) w4) := hp4
  have HK4 : Hid (Kept b w w4) := HK3.out.trans hk4
  clear hp4 hk4
  go_wp2_with fail
  refine (accept1 HP4.out [117, 112, 100, 97, 116, 101] (by decide)).mono ?_
  rintro r w5 ⟨rfl, hp5, hk5⟩
  rw [take_yes h_update] at hp5
  have HP5 : Hid (PS b c cap len s 0 (σ.step s) w5) := hp5
  have HK5 : Hid (Kept b w w5) := HK4.out.trans hk5
  clear hp5 hk5
  go_wp2_with fail
  refine (update_any (n := n) _IA _IL _hn (by omega) HP5).mono ?_
  rintro r w6 ⟨rfl, hp6, hk6⟩
  have HP6 : Hid (PS b c cap len s 0 (Sp.run s n .where_ 0 (Sp.chgL s n n (((σ.step s).nameT s).must s [115, 101, 116]))) w6) := hp6
  have HK6 : Hid (Kept b w w6) := HK5.out.trans hk6
  clear hp6 hk6
  go_wp2_with fail
  go_end0
  exact ⟨rfl, by rw [HV.out]; exact HP6.out, HK6.out⟩

set_option maxHeartbeats 2000000 in
theorem stmt_begin {b c cap len : Nat} {s : Sp.Bs} {n : Nat} {σ : Sp.St} {w : World} (_IA : Hid (All b c cap len s n)) (_IL : Hid (SdL b c cap len s n .list 100)) (_hn : n ≤ 900000) (_hm : 32 * Sp.rem s σ + 20 ≤ n) (HP : Hid (PS b c cap len s 0 σ w)) (h_create : σ.is s [99, 114, 101, 97, 116, 101] = false) (h_drop : σ.is s [100, 114, 111, 112] = false) (h_insert : σ.is s [105, 110, 115, 101, 114, 116] = false) (h_delete : σ.is s [100, 101, 108, 101, 116, 101] = false) (h_update : σ.is s [117, 112, 100, 97, 116, 101] = false) (h_begin : seesOne s [[98, 101, 103, 105, 110], [99, 111, 109, 109, 105, 116], [114, 111, 108, 108, 98, 97, 99, 107]] σ = true) :
    Calls Tryz.prog 31 #[.pointer (some ⟨b, 0, none⟩)] w (Post b c cap len s 0 (Sp.stmt s n σ) w) := by
  have HV : Hid (Sp.stmt s n σ = σ.step s) := by
    show _ = _
    rw [Sp.stmt, ← three s [98, 101, 103, 105, 110] [99, 111, 109, 109, 105, 116] [114, 111, 108, 108, 98, 97, 99, 107]]
    simp only [h_create, h_drop, h_insert, h_delete, h_update, h_begin, Bool.false_eq_true, if_false, if_true]
  have hmf : ∀ (fn : Fn) (first cap : Array Value) (w : World), (Instr.makeFunc fn first cap).run Tryz.prog w = .ok (.func fn first cap) w := fun _ _ _ _ => rfl
  go_enter Tryz.func31, Tryz.ntmps31
  go_wp2_with fail
  refine (accept1 HP.out [99, 114, 101, 97, 116, 101] (by decide)).mono ?_
  rintro r w1 ⟨rfl, hp1, hk1⟩
  rw [take_no h_create] at hp1
  have HP1 : Hid (PS b c cap len s 0 (σ) w1) := hp1
  have HK1 : Hid (Kept b w w1) := hk1
  clear hp1 hk1
  go_wp2_with fail
  refine (accept1 HP1.out [100, 114, 111, 112] (by decide)).mono ?_
  rintro r w2 ⟨rfl, hp2, hk2⟩
  rw [take_no h_drop] at hp2
  have HP2 : Hid (PS b c cap len s 0 (σ) w2) := hp2
  have HK2 : Hid (Kept b w w2) := HK1.out.trans hk2
  clear hp2 hk2
  go_wp2_with fail
  refine (accept1 HP2.out [105, 110, 115, 101, 114, 116] (by decide)).mono ?_
  rintro r w3 ⟨rfl, hp3, hk3⟩
  rw [take_no h_insert] at hp3
  have HP3 : Hid (PS b c cap len s 0 (σ) w3) := hp3
  have HK3 : Hid (Kept b w w3) := HK2.out.trans hk3
  clear hp3 hk3
  go_wp2_with fail
  refine (accept1 HP3.out [100, 101, 108, 101, 116, 101] (by decide)).mono ?_
  rintro r w4 ⟨rfl, hp4, hk4⟩
  rw [take_no h_delete] at hp4
  have HP4 : Hid (PS b c cap len s 0 (σ) w4) := hp4
  have HK4 : Hid (Kept b w w4) := HK3.out.trans hk4
  clear hp4 hk4
  go_wp2_with fail
  refine (accept1 HP4.out [117, 112, 100, 97, 116, 101] (by decide)).mono ?_
  rintro r w5 ⟨rfl, hp5, hk5⟩
  rw [take_no h_update] at hp5
  have HP5 : Hid (PS b c cap len s 0 (σ) w5) := hp5
  have HK5 : Hid (Kept b w w5) := HK4.out.trans hk5
  clear hp5 hk5
  go_wp2_with fail
  refine (accept3b HP5.out).mono ?_
  rintro r w6 ⟨rfl, hp6, hk6⟩
  rw [stepIf_yes h_begin] at hp6
  have HP6 : Hid (PS b c cap len s 0 (σ.step s) w6) := hp6
  have HK6 : Hid (Kept b w w6) := HK5.out.trans hk6
  clear hp6 hk6
  go_wp2_with fail
  go_end0
  exact ⟨rfl, by rw [HV.out]; exact HP6.out, HK6.out⟩

set_option maxHeartbeats 2000000 in
theorem stmt_query {b c cap len : Nat} {s : Sp.Bs} {n : Nat} {σ : Sp.St} {w : World} (_IA : Hid (All b c cap len s n)) (_IL : Hid (SdL b c cap len s n .list 100)) (_hn : n ≤ 900000) (_hm : 32 * Sp.rem s σ + 20 ≤ n) (HP : Hid (PS b c cap len s 0 σ w)) (h_create : σ.is s [99, 114, 101, 97, 116, 101] = false) (h_drop : σ.is s [100, 114, 111, 112] = false) (h_insert : σ.is s [105, 110, 115, 101, 114, 116] = false) (h_delete : σ.is s [100, 101, 108, 101, 116, 101] = false) (h_update : σ.is s [117, 112, 100, 97, 116, 101] = false) (h_begin : seesOne s [[98, 101, 103, 105, 110], [99, 111, 109, 109, 105, 116], [114, 111, 108, 108, 98, 97, 99, 107]] σ = false) :
    Calls Tryz.prog 31 #[.pointer (some ⟨b, 0, none⟩)] w (Post b c cap len s 0 (Sp.stmt s n σ) w) := by
  have HV : Hid (Sp.stmt s n σ = Sp.run s n .query 0 σ) := by
    show _ = _
    rw [Sp.stmt, ← three s [98, 101, 103, 105, 110] [99, 111, 109, 109, 105, 116] [114, 111, 108, 108, 98, 97, 99, 107]]
    simp only [h_create, h_drop, h_insert, h_delete, h_update, h_begin, Bool.false_eq_true, if_false]
  have hmf : ∀ (fn : Fn) (first cap : Array Value) (w : World), (Instr.makeFunc fn first cap).run Tryz.prog w = .ok (.func fn first cap) w := fun _ _ _ _ => rfl
  go_enter Tryz.func31, Tryz.ntmps31
  go_wp2_with fail
  refine (accept1 HP.out [99, 114, 101, 97, 116, 101] (by decide)).mono ?_
  rintro r w1 ⟨rfl, hp1, hk1⟩
  rw [take_no h_create] at hp1
  have HP1 : Hid (PS b c cap len s 0 (σ) w1) := hp1
  have HK1 : Hid (Kept b w w1) := hk1
  clear hp1 hk1
  go_wp2_with fail
  refine (accept1 HP1.out [100, 114, 111, 112] (by decide)).mono ?_
  rintro r w2 ⟨rfl, hp2, hk2⟩
  rw [take_no h_drop] at hp2
  have HP2 : Hid (PS b c cap len s 0 (σ) w2) := hp2
  have HK2 : Hid (Kept b w w2) := HK1.out.trans hk2
  clear hp2 hk2
  go_wp2_with fail
  refine (accept1 HP2.out [105, 110, 115, 101, 114, 116] (by decide)).mono ?_
  rintro r w3 ⟨rfl, hp3, hk3⟩
  rw [take_no h_insert] at hp3
  have HP3 : Hid (PS b c cap len s 0 (σ) w3) := hp3
  have HK3 : Hid (Kept b w w3) := HK2.out.trans hk3
  clear hp3 hk3
  go_wp2_with fail
  refine (accept1 HP3.out [100, 101, 108, 101, 116, 101] (by decide)).mono ?_
  rintro r w4 ⟨rfl, hp4, hk4⟩
  rw [take_no h_delete] at hp4
  have HP4 : Hid (PS b c cap len s 0 (σ) w4) := hp4
  have HK4 : Hid (Kept b w w4) := HK3.out.trans hk4
  clear hp4 hk4
  go_wp2_with fail
  refine (accept1 HP4.out [117, 112, 100, 97, 116, 101] (by decide)).mono ?_
  rintro r w5 ⟨rfl, hp5, hk5⟩
  rw [take_no h_update] at hp5
  have HP5 : Hid (PS b c cap len s 0 (σ) w5) := hp5
  have HK5 : Hid (Kept b w w5) := HK4.out.trans hk5
  clear hp5 hk5
  go_wp2_with fail
  refine (accept3b HP5.out).mono ?_
  rintro r w6 ⟨rfl, hp6, hk6⟩
  rw [stepIf_no h_begin] at hp6
  have HP6 : Hid (PS b c cap len s 0 (σ) w6) := hp6
  have HK6 : Hid (Kept b w w6) := HK5.out.trans hk6
  clear hp6 hk6
  go_wp2_with fail
  refine (_IA.out.query 0 _ _ (by omega) (by show 32 * Sp.rem s _ + 15 ≤ n; omega) HP6.out).mono ?_
  rintro r w7 ⟨rfl, hp7, hk7⟩
  have HP7 : Hid (PS b c cap len s 0 (Sp.run s n .query 0 σ) w7) := hp7
  have HK7 : Hid (Kept b w w7) := HK6.out.trans hk7
  clear hp7 hk7
  go_wp2_with fail
  go_end0
  exact ⟨rfl, by rw [HV.out]; exact HP7.out, HK7.out⟩

theorem statement_any {b c cap len : Nat} {s : Sp.Bs} {n : Nat} {σ : Sp.St} {w : World} (hn : n ≤ 900000) (hm : 32 * Sp.rem s σ + 20 ≤ n) (hp : PS b c cap len s 0 σ w) :
    Calls Tryz.prog 31 #[.pointer (some ⟨b, 0, none⟩)] w (Post b c cap len s 0 (Sp.stmt s n σ) w) := by
  have IA : Hid (All b c cap len s n) := (all_parts b c cap len s n).1 n (Nat.le_refl _)
  have IL : Hid (SdL b c cap len s n .list 100) := (all_parts b c cap len s n).2 n (Nat.le_refl _)
  cases h1 : σ.is s [99, 114, 101, 97, 116, 101]
  · cases h2 : σ.is s [100, 114, 111, 112]
    · cases h3 : σ.is s [105, 110, 115, 101, 114, 116]
      · cases h4 : σ.is s [100, 101, 108, 101, 116, 101]
        · cases h5 : σ.is s [117, 112, 100, 97, 116, 101]
          · cases h6 : seesOne s [[98, 101, 103, 105, 110], [99, 111, 109, 109, 105, 116], [114, 111, 108, 108, 98, 97, 99, 107]] σ
            · exact stmt_query IA IL hn hm hp h1 h2 h3 h4 h5 h6
            · exact stmt_begin IA IL hn hm hp h1 h2 h3 h4 h5 h6
          · exact stmt_update IA IL hn hm hp h1 h2 h3 h4 h5
        · exact stmt_delete IA IL hn hm hp h1 h2 h3 h4
      · cases h4 : (((σ.step s).must s [105, 110, 116, 111]).nameT s).is s [118, 97, 108, 117, 101, 115]
        · exact stmt_insertQ IA IL hn hm hp h1 h2 h3 h4
        · exact stmt_insertV IA IL hn hm hp h1 h2 h3 h4
    · exact stmt_drop IA IL hn hm hp h1 h2
  · exact stmt_create IA IL hn hm hp h1

end Go.Proofs.YtpgeiieapkbjhaaGreatDoor
