import Derived.Test.YtpgeiieapkbjhaaGreatDoorP12
namespace Go.Proofs.YtpgeiieapkbjhaaGreatDoor
open Go.RowKit

theorem acceptNum {b c cap len : Nat} {s : Sp.Bs} {d : Nat} {σ : Sp.St} {w : World} (h : PS b c cap len s d σ w) :
    Calls Tryz.prog 98 #[.pointer (some ⟨b, 0, none⟩), .slice (some ⟨w.heap.size, 0, none⟩) 2 2] (w.alloc (.cells #[.int .i64 4, .int .i64 5] 126)) fun r w' => r = .returned (.bool (isCls s [.num, .txt] σ)) ∧ PS b c cap len s d (stepIf (isCls s [.num, .txt] σ) s σ) w' ∧ Kept b w w' :=
  acceptKind_any h [.num, .txt] (by decide) (by decide) 2 rfl #[.int .i64 4, .int .i64 5] rfl

theorem accept3 {b c cap len : Nat} {s : Sp.Bs} {d : Nat} {σ : Sp.St} {w : World} (h : PS b c cap len s d σ w) :
    Calls Tryz.prog 57 #[.pointer (some ⟨b, 0, none⟩), .slice (some ⟨w.heap.size, 0, none⟩) 3 3] (w.alloc (.cells #[.string ⟨#[116, 114, 117, 101]⟩, .string ⟨#[102, 97, 108, 115, 101]⟩, .string ⟨#[110, 117, 108, 108]⟩] 9)) fun r w' => r = .returned (.bool (seesOne s [[116, 114, 117, 101], [102, 97, 108, 115, 101], [110, 117, 108, 108]] σ)) ∧ PS b c cap len s d (stepIf (seesOne s [[116, 114, 117, 101], [102, 97, 108, 115, 101], [110, 117, 108, 108]] σ) s σ) w' ∧ Kept b w w' :=
  accept_lit h [[116, 114, 117, 101], [102, 97, 108, 115, 101], [110, 117, 108, 108]] (by decide) (by decide) 3 rfl #[.string ⟨#[116, 114, 117, 101]⟩, .string ⟨#[102, 97, 108, 115, 101]⟩, .string ⟨#[110, 117, 108, 108]⟩] rfl

theorem numtxt (s : Sp.Bs) (σ : Sp.St) : isCls s [.num, .txt] σ = (σ.isCl s .num || σ.isCl s .txt) := by simp [isCls]
theorem tfn (s : Sp.Bs) (σ : Sp.St) : seesOne s [[116, 114, 117, 101], [102, 97, 108, 115, 101], [110, 117, 108, 108]] σ = (σ.is s [116, 114, 117, 101] || σ.is s [102, 97, 108, 115, 101] || σ.is s [110, 117, 108, 108]) := by simp [seesOne, Bool.or_assoc]

/-- An atom, by its first token. -/
def atomR (s : Sp.Bs) (n d : Nat) (σ : Sp.St) : Sp.St :=
  if isCls s [.num, .txt] σ then σ.step s
  else if seesOne s [[116, 114, 117, 101], [102, 97, 108, 115, 101], [110, 117, 108, 108]] σ then σ.step s
  else if σ.isCl s .name then (if (σ.step s).is s [46] then ((σ.step s).step s).nameT s else σ.step s)
  else if σ.is s [40] then (if σ.asks s then (Sp.run s n .query (d + 1) (σ.openT s d)).must s [41] else (Sp.run s n .expr (d + 1) (σ.openT s d)).must s [41])
  else if σ.is s [101, 120, 105, 115, 116, 115] then (Sp.run s n .query (d + 1) ((σ.step s).opened s [40] d)).must s [41]
  else if σ.is s [99, 111, 97, 108, 101, 115, 99, 101] then (Sp.run s n .list (d + 1) ((σ.step s).opened s [40] d)).must s [41]
  else if σ.is s [99, 97, 115, 101] then (Sp.run s n .caseW (d + 1) (σ.openT s d)).must s [101, 110, 100]
  else σ.fail s 2
theorem atom_eq (s : Sp.Bs) (n d : Nat) (σ : Sp.St) : Sp.run s (n + 1) .atom d σ = atomR s n d σ := by
  rw [Sp.run, atomR, numtxt, tfn]

set_option maxHeartbeats 2000000 in
theorem atom_num {b c cap len : Nat} {s : Sp.Bs} {n d : Nat} {σ : Sp.St} {w : World} (_IH : Hid (∀ m, m ≤ n → All b c cap len s m)) (_hd : d + (n + 1) ≤ 1000000) (_hm' : 32 * Sp.rem s σ + 2 ≤ n + 1) (HP : Hid (PS b c cap len s d σ w))  (h_n : isCls s [.num, .txt] σ = true) :
    Calls Tryz.prog 159 #[.pointer (some ⟨b, 0, none⟩)] w (Post b c cap len s d (atomR s n d σ) w) := by
  have HV : Hid (atomR s n d σ = σ.step s) := by show _ = _; rw [atomR, h_n]; rfl
  have hmf : ∀ (fn : Fn) (first cap : Array Value) (w : World), (Instr.makeFunc fn first cap).run Tryz.prog w = .ok (.func fn first cap) w := fun _ _ _ _ => rfl
  go_enter Tryz.func159, Tryz.ntmps159
  go_wp2_with fail
  refine (acceptNum HP.out).mono ?_
  rintro r w1 ⟨rfl, hp1, hk1⟩
  rw [stepIf_yes h_n] at hp1
  have HP1 : Hid (PS b c cap len s d (σ.step s) w1) := hp1
  have HK1 : Hid (Kept b w w1) := hk1
  clear hp1 hk1
  go_wp2_with fail
  go_end0
  exact ⟨rfl, by rw [HV.out]; exact HP1.out, HK1.out⟩

set_option maxHeartbeats 2000000 in
theorem atom_true {b c cap len : Nat} {s : Sp.Bs} {n d : Nat} {σ : Sp.St} {w : World} (_IH : Hid (∀ m, m ≤ n → All b c cap len s m)) (_hd : d + (n + 1) ≤ 1000000) (_hm' : 32 * Sp.rem s σ + 2 ≤ n + 1) (HP : Hid (PS b c cap len s d σ w)) (h_n : isCls s [.num, .txt] σ = false) (h_t : seesOne s [[116, 114, 117, 101], [102, 97, 108, 115, 101], [110, 117, 108, 108]] σ = true) :
    Calls Tryz.prog 159 #[.pointer (some ⟨b, 0, none⟩)] w (Post b c cap len s d (atomR s n d σ) w) := by
  have HV : Hid (atomR s n d σ = σ.step s) := by show _ = _; rw [atomR, h_n, h_t]; rfl
  have hmf : ∀ (fn : Fn) (first cap : Array Value) (w : World), (Instr.makeFunc fn first cap).run Tryz.prog w = .ok (.func fn first cap) w := fun _ _ _ _ => rfl
  go_enter Tryz.func159, Tryz.ntmps159
  go_wp2_with fail
  refine (acceptNum HP.out).mono ?_
  rintro r w1 ⟨rfl, hp1, hk1⟩
  rw [stepIf_no h_n] at hp1
  have HP1 : Hid (PS b c cap len s d (σ) w1) := hp1
  have HK1 : Hid (Kept b w w1) := hk1
  clear hp1 hk1
  go_wp2_with fail
  refine (accept3 HP1.out).mono ?_
  rintro r w2 ⟨rfl, hp2, hk2⟩
  rw [stepIf_yes h_t] at hp2
  have HP2 : Hid (PS b c cap len s d (σ.step s) w2) := hp2
  have HK2 : Hid (Kept b w w2) := HK1.out.trans hk2
  clear hp2 hk2
  go_wp2_with fail
  go_end0
  exact ⟨rfl, by rw [HV.out]; exact HP2.out, HK2.out⟩

set_option maxHeartbeats 2000000 in
theorem atom_nameNo {b c cap len : Nat} {s : Sp.Bs} {n d : Nat} {σ : Sp.St} {w : World} (_IH : Hid (∀ m, m ≤ n → All b c cap len s m)) (_hd : d + (n + 1) ≤ 1000000) (_hm' : 32 * Sp.rem s σ + 2 ≤ n + 1) (HP : Hid (PS b c cap len s d σ w)) (h_n : isCls s [.num, .txt] σ = false) (h_t : seesOne s [[116, 114, 117, 101], [102, 97, 108, 115, 101], [110, 117, 108, 108]] σ = false) (h_m : σ.isCl s .name = true) (h2 : (σ.step s).is s [46] = false) :
    Calls Tryz.prog 159 #[.pointer (some ⟨b, 0, none⟩)] w (Post b c cap len s d (atomR s n d σ) w) := by
  have HV : Hid (atomR s n d σ = σ.step s) := by show _ = _; rw [atomR, h_n, h_t, h_m, h2]; rfl
  have hmf : ∀ (fn : Fn) (first cap : Array Value) (w : World), (Instr.makeFunc fn first cap).run Tryz.prog w = .ok (.func fn first cap) w := fun _ _ _ _ => rfl
  go_enter Tryz.func159, Tryz.ntmps159
  go_wp2_with fail
  refine (acceptNum HP.out).mono ?_
  rintro r w1 ⟨rfl, hp1, hk1⟩
  rw [stepIf_no h_n] at hp1
  have HP1 : Hid (PS b c cap len s d (σ) w1) := hp1
  have HK1 : Hid (Kept b w w1) := hk1
  clear hp1 hk1
  go_wp2_with fail
  refine (accept3 HP1.out).mono ?_
  rintro r w2 ⟨rfl, hp2, hk2⟩
  rw [stepIf_no h_t] at hp2
  have HP2 : Hid (PS b c cap len s d (σ) w2) := hp2
  have HK2 : Hid (Kept b w w2) := HK1.out.trans hk2
  clear hp2 hk2
  go_wp2_with fail
  refine (acceptName HP2.out).mono ?_
  rintro r w3 ⟨rfl, hp3, hk3⟩
  rw [stepIf_yes h_m] at hp3
  have HP3 : Hid (PS b c cap len s d (σ.step s) w3) := hp3
  have HK3 : Hid (Kept b w w3) := HK2.out.trans hk3
  clear hp3 hk3
  go_wp2_with fail
  refine (accept1 HP3.out [46] (by decide)).mono ?_
  rintro r w4 ⟨rfl, hp4, hk4⟩
  rw [take_no h2] at hp4
  have HP4 : Hid (PS b c cap len s d (σ.step s) w4) := hp4
  have HK4 : Hid (Kept b w w4) := HK3.out.trans hk4
  clear hp4 hk4
  go_wp2_with fail
  go_end0
  exact ⟨rfl, by rw [HV.out]; exact HP4.out, HK4.out⟩

set_option maxHeartbeats 2000000 in
theorem atom_nameDot {b c cap len : Nat} {s : Sp.Bs} {n d : Nat} {σ : Sp.St} {w : World} (_IH : Hid (∀ m, m ≤ n → All b c cap len s m)) (_hd : d + (n + 1) ≤ 1000000) (_hm' : 32 * Sp.rem s σ + 2 ≤ n + 1) (HP : Hid (PS b c cap len s d σ w)) (h_n : isCls s [.num, .txt] σ = false) (h_t : seesOne s [[116, 114, 117, 101], [102, 97, 108, 115, 101], [110, 117, 108, 108]] σ = false) (h_m : σ.isCl s .name = true) (h2 : (σ.step s).is s [46] = true) :
    Calls Tryz.prog 159 #[.pointer (some ⟨b, 0, none⟩)] w (Post b c cap len s d (atomR s n d σ) w) := by
  have HV : Hid (atomR s n d σ = ((σ.step s).step s).nameT s) := by show _ = _; rw [atomR, h_n, h_t, h_m, h2]; rfl
  have hmf : ∀ (fn : Fn) (first cap : Array Value) (w : World), (Instr.makeFunc fn first cap).run Tryz.prog w = .ok (.func fn first cap) w := fun _ _ _ _ => rfl
  go_enter Tryz.func159, Tryz.ntmps159
  go_wp2_with fail
  refine (acceptNum HP.out).mono ?_
  rintro r w1 ⟨rfl, hp1, hk1⟩
  rw [stepIf_no h_n] at hp1
  have HP1 : Hid (PS b c cap len s d (σ) w1) := hp1
  have HK1 : Hid (Kept b w w1) := hk1
  clear hp1 hk1
  go_wp2_with fail
  refine (accept3 HP1.out).mono ?_
  rintro r w2 ⟨rfl, hp2, hk2⟩
  rw [stepIf_no h_t] at hp2
  have HP2 : Hid (PS b c cap len s d (σ) w2) := hp2
  have HK2 : Hid (Kept b w w2) := HK1.out.trans hk2
  clear hp2 hk2
  go_wp2_with fail
  refine (acceptName HP2.out).mono ?_
  rintro r w3 ⟨rfl, hp3, hk3⟩
  rw [stepIf_yes h_m] at hp3
  have HP3 : Hid (PS b c cap len s d (σ.step s) w3) := hp3
  have HK3 : Hid (Kept b w w3) := HK2.out.trans hk3
  clear hp3 hk3
  go_wp2_with fail
  refine (accept1 HP3.out [46] (by decide)).mono ?_
  rintro r w4 ⟨rfl, hp4, hk4⟩
  rw [take_yes h2] at hp4
  have HP4 : Hid (PS b c cap len s d ((σ.step s).step s) w4) := hp4
  have HK4 : Hid (Kept b w w4) := HK3.out.trans hk4
  clear hp4 hk4
  go_wp2_with fail
  refine (name_any HP4.out).mono ?_
  rintro r w5 ⟨rfl, hp5, hk5⟩
  have HP5 : Hid (PS b c cap len s d (((σ.step s).step s).nameT s) w5) := hp5
  have HK5 : Hid (Kept b w w5) := HK4.out.trans hk5
  clear hp5 hk5
  go_wp2_with fail
  go_end0
  exact ⟨rfl, by rw [HV.out]; exact HP5.out, HK5.out⟩

set_option maxHeartbeats 2000000 in
theorem atom_openquery {b c cap len : Nat} {s : Sp.Bs} {n d e : Nat} {w : World} (_IH : Hid (∀ m, m ≤ n → All b c cap len s m)) (_hd : d + (n + 1) ≤ 1000000) (_hm' : 32 * Sp.rem s (Sp.St.live e) + 2 ≤ n + 1) (HP : Hid (PS b c cap len s d (Sp.St.live e) w)) (h_n : isCls s [.num, .txt] (Sp.St.live e) = false) (h_t : seesOne s [[116, 114, 117, 101], [102, 97, 108, 115, 101], [110, 117, 108, 108]] (Sp.St.live e) = false) (h_m : (Sp.St.live e).isCl s .name = false) (h_p : (Sp.St.live e).is s [40] = true) (h2 : Sp.St.asks s (Sp.St.live e) = true) :
    Calls Tryz.prog 159 #[.pointer (some ⟨b, 0, none⟩)] w (Post b c cap len s d (atomR s n d (Sp.St.live e)) w) := by
  have HV : Hid (atomR s n d (Sp.St.live e) = (Sp.run s n .query (d + 1) ((Sp.St.live e).opened s [40] d)).must s [41]) := by show _ = _; rw [atomR, h_n, h_t, h_m, h_p, h2, opened_is h_p]; rfl
  have r1 := Sp.rem_openT_lt (d := d) h_p
  rw [← opened_is h_p] at r1
  have hmf : ∀ (fn : Fn) (first cap : Array Value) (w : World), (Instr.makeFunc fn first cap).run Tryz.prog w = .ok (.func fn first cap) w := fun _ _ _ _ => rfl
  go_enter Tryz.func159, Tryz.ntmps159
  go_wp2_with fail
  refine (acceptNum HP.out).mono ?_
  rintro r w1 ⟨rfl, hp1, hk1⟩
  rw [stepIf_no h_n] at hp1
  have HP1 : Hid (PS b c cap len s d (.live e) w1) := hp1
  have HK1 : Hid (Kept b w w1) := hk1
  clear hp1 hk1
  go_wp2_with fail
  refine (accept3 HP1.out).mono ?_
  rintro r w2 ⟨rfl, hp2, hk2⟩
  rw [stepIf_no h_t] at hp2
  have HP2 : Hid (PS b c cap len s d (.live e) w2) := hp2
  have HK2 : Hid (Kept b w w2) := HK1.out.trans hk2
  clear hp2 hk2
  go_wp2_with fail
  refine (acceptName HP2.out).mono ?_
  rintro r w3 ⟨rfl, hp3, hk3⟩
  rw [stepIf_no h_m] at hp3
  have HP3 : Hid (PS b c cap len s d (.live e) w3) := hp3
  have HK3 : Hid (Kept b w w3) := HK2.out.trans hk3
  clear hp3 hk3
  go_wp2_with fail
  refine (sees1 HP3.out [40] (by decide)).mono ?_
  rintro r w4 ⟨rfl, hp4, hk4⟩
  have HP4 : Hid (PS b c cap len s d (.live e) w4) := hp4
  have HK4 : Hid (Kept b w w4) := HK3.out.trans hk4
  clear hp4 hk4
  go_wp2_with fail
  refine (inAtom_any HP4.out h_p).mono ?_
  rintro r w5 ⟨rfl, hp5, hk5⟩
  rw [h2]
  have HP5 : Hid (PS b c cap len s d (.live e) w5) := hp5
  have HK5 : Hid (Kept b w w5) := HK4.out.trans hk5
  clear hp5 hk5
  have hif : inAtomF b true = .func (.func 64) #[.pointer (some ⟨b, 0, none⟩)] #[] := rfl
  go_wp2_with fail
  refine (enclosed_query HP5.out (by omega) (Sp.run s n .query (d + 1)) (fun w' hp' => (_IH.out n (by omega)).query (d + 1) _ _ (by omega) (by show 32 * Sp.rem s _ + 15 ≤ n; omega) hp')).mono ?_
  rintro r w6 ⟨rfl, hp6, hk6⟩
  have HP6 : Hid (PS b c cap len s d ((Sp.run s n .query (d + 1) ((Sp.St.live e).opened s [40] d)).must s [41]) w6) := hp6
  have HK6 : Hid (Kept b w w6) := HK5.out.trans hk6
  clear hp6 hk6
  go_wp2_with fail
  go_end0
  exact ⟨rfl, by rw [HV.out]; exact HP6.out, HK6.out⟩

set_option maxHeartbeats 2000000 in
theorem atom_openexpr {b c cap len : Nat} {s : Sp.Bs} {n d e : Nat} {w : World} (_IH : Hid (∀ m, m ≤ n → All b c cap len s m)) (_hd : d + (n + 1) ≤ 1000000) (_hm' : 32 * Sp.rem s (Sp.St.live e) + 2 ≤ n + 1) (HP : Hid (PS b c cap len s d (Sp.St.live e) w)) (h_n : isCls s [.num, .txt] (Sp.St.live e) = false) (h_t : seesOne s [[116, 114, 117, 101], [102, 97, 108, 115, 101], [110, 117, 108, 108]] (Sp.St.live e) = false) (h_m : (Sp.St.live e).isCl s .name = false) (h_p : (Sp.St.live e).is s [40] = true) (h2 : Sp.St.asks s (Sp.St.live e) = false) :
    Calls Tryz.prog 159 #[.pointer (some ⟨b, 0, none⟩)] w (Post b c cap len s d (atomR s n d (Sp.St.live e)) w) := by
  have HV : Hid (atomR s n d (Sp.St.live e) = (Sp.run s n .expr (d + 1) ((Sp.St.live e).opened s [40] d)).must s [41]) := by show _ = _; rw [atomR, h_n, h_t, h_m, h_p, h2, opened_is h_p]; rfl
  have r1 := Sp.rem_openT_lt (d := d) h_p
  rw [← opened_is h_p] at r1
  have hmf : ∀ (fn : Fn) (first cap : Array Value) (w : World), (Instr.makeFunc fn first cap).run Tryz.prog w = .ok (.func fn first cap) w := fun _ _ _ _ => rfl
  go_enter Tryz.func159, Tryz.ntmps159
  go_wp2_with fail
  refine (acceptNum HP.out).mono ?_
  rintro r w1 ⟨rfl, hp1, hk1⟩
  rw [stepIf_no h_n] at hp1
  have HP1 : Hid (PS b c cap len s d (.live e) w1) := hp1
  have HK1 : Hid (Kept b w w1) := hk1
  clear hp1 hk1
  go_wp2_with fail
  refine (accept3 HP1.out).mono ?_
  rintro r w2 ⟨rfl, hp2, hk2⟩
  rw [stepIf_no h_t] at hp2
  have HP2 : Hid (PS b c cap len s d (.live e) w2) := hp2
  have HK2 : Hid (Kept b w w2) := HK1.out.trans hk2
  clear hp2 hk2
  go_wp2_with fail
  refine (acceptName HP2.out).mono ?_
  rintro r w3 ⟨rfl, hp3, hk3⟩
  rw [stepIf_no h_m] at hp3
  have HP3 : Hid (PS b c cap len s d (.live e) w3) := hp3
  have HK3 : Hid (Kept b w w3) := HK2.out.trans hk3
  clear hp3 hk3
  go_wp2_with fail
  refine (sees1 HP3.out [40] (by decide)).mono ?_
  rintro r w4 ⟨rfl, hp4, hk4⟩
  have HP4 : Hid (PS b c cap len s d (.live e) w4) := hp4
  have HK4 : Hid (Kept b w w4) := HK3.out.trans hk4
  clear hp4 hk4
  go_wp2_with fail
  refine (inAtom_any HP4.out h_p).mono ?_
  rintro r w5 ⟨rfl, hp5, hk5⟩
  rw [h2]
  have HP5 : Hid (PS b c cap len s d (.live e) w5) := hp5
  have HK5 : Hid (Kept b w w5) := HK4.out.trans hk5
  clear hp5 hk5
  have hif : inAtomF b false = .func (.func 100) #[.pointer (some ⟨b, 0, none⟩)] #[] := rfl
  go_wp2_with fail
  refine (enclosed_expr HP5.out (by omega) (Sp.run s n .expr (d + 1)) (fun w' hp' => (_IH.out n (by omega)).expr (d + 1) _ _ (by omega) (by show 32 * Sp.rem s _ + 9 ≤ n; omega) hp')).mono ?_
  rintro r w6 ⟨rfl, hp6, hk6⟩
  have HP6 : Hid (PS b c cap len s d ((Sp.run s n .expr (d + 1) ((Sp.St.live e).opened s [40] d)).must s [41]) w6) := hp6
  have HK6 : Hid (Kept b w w6) := HK5.out.trans hk6
  clear hp6 hk6
  go_wp2_with fail
  go_end0
  exact ⟨rfl, by rw [HV.out]; exact HP6.out, HK6.out⟩

set_option maxHeartbeats 2000000 in
theorem atom_exists {b c cap len : Nat} {s : Sp.Bs} {n d : Nat} {σ : Sp.St} {w : World} (_IH : Hid (∀ m, m ≤ n → All b c cap len s m)) (_hd : d + (n + 1) ≤ 1000000) (_hm' : 32 * Sp.rem s σ + 2 ≤ n + 1) (HP : Hid (PS b c cap len s d σ w)) (h_n : isCls s [.num, .txt] σ = false) (h_t : seesOne s [[116, 114, 117, 101], [102, 97, 108, 115, 101], [110, 117, 108, 108]] σ = false) (h_m : σ.isCl s .name = false) (h_p : σ.is s [40] = false) (h_x : σ.is s [101, 120, 105, 115, 116, 115] = true) :
    Calls Tryz.prog 159 #[.pointer (some ⟨b, 0, none⟩)] w (Post b c cap len s d (atomR s n d σ) w) := by
  have HV : Hid (atomR s n d σ = (Sp.run s n .query (d + 1) ((σ.step s).opened s [40] d)).must s [41]) := by show _ = _; rw [atomR, h_n, h_t, h_m, h_p, h_x]; rfl
  have r1 := Sp.rem_step_lt h_x
  have r2 := Sp.rem_opened s [40] d (σ.step s)
  have hmf : ∀ (fn : Fn) (first cap : Array Value) (w : World), (Instr.makeFunc fn first cap).run Tryz.prog w = .ok (.func fn first cap) w := fun _ _ _ _ => rfl
  go_enter Tryz.func159, Tryz.ntmps159
  go_wp2_with fail
  refine (acceptNum HP.out).mono ?_
  rintro r w1 ⟨rfl, hp1, hk1⟩
  rw [stepIf_no h_n] at hp1
  have HP1 : Hid (PS b c cap len s d (σ) w1) := hp1
  have HK1 : Hid (Kept b w w1) := hk1
  clear hp1 hk1
  go_wp2_with fail
  refine (accept3 HP1.out).mono ?_
  rintro r w2 ⟨rfl, hp2, hk2⟩
  rw [stepIf_no h_t] at hp2
  have HP2 : Hid (PS b c cap len s d (σ) w2) := hp2
  have HK2 : Hid (Kept b w w2) := HK1.out.trans hk2
  clear hp2 hk2
  go_wp2_with fail
  refine (acceptName HP2.out).mono ?_
  rintro r w3 ⟨rfl, hp3, hk3⟩
  rw [stepIf_no h_m] at hp3
  have HP3 : Hid (PS b c cap len s d (σ) w3) := hp3
  have HK3 : Hid (Kept b w w3) := HK2.out.trans hk3
  clear hp3 hk3
  go_wp2_with fail
  refine (sees1 HP3.out [40] (by decide)).mono ?_
  rintro r w4 ⟨rfl, hp4, hk4⟩
  have HP4 : Hid (PS b c cap len s d (σ) w4) := hp4
  have HK4 : Hid (Kept b w w4) := HK3.out.trans hk4
  clear hp4 hk4
  go_wp2_with fail
  refine (accept1 HP4.out [101, 120, 105, 115, 116, 115] (by decide)).mono ?_
  rintro r w5 ⟨rfl, hp5, hk5⟩
  rw [take_yes h_x] at hp5
  have HP5 : Hid (PS b c cap len s d (σ.step s) w5) := hp5
  have HK5 : Hid (Kept b w w5) := HK4.out.trans hk5
  clear hp5 hk5
  go_wp2_with fail
  refine (enclosed_query HP5.out (by omega) (Sp.run s n .query (d + 1)) (fun w' hp' => (_IH.out n (by omega)).query (d + 1) _ _ (by omega) (by show 32 * Sp.rem s _ + 15 ≤ n; omega) hp')).mono ?_
  rintro r w6 ⟨rfl, hp6, hk6⟩
  have HP6 : Hid (PS b c cap len s d ((Sp.run s n .query (d + 1) ((σ.step s).opened s [40] d)).must s [41]) w6) := hp6
  have HK6 : Hid (Kept b w w6) := HK5.out.trans hk6
  clear hp6 hk6
  go_wp2_with fail
  go_end0
  exact ⟨rfl, by rw [HV.out]; exact HP6.out, HK6.out⟩

set_option maxHeartbeats 2000000 in
theorem atom_coalesce {b c cap len : Nat} {s : Sp.Bs} {n d : Nat} {σ : Sp.St} {w : World} (_IH : Hid (∀ m, m ≤ n → All b c cap len s m)) (_hd : d + (n + 1) ≤ 1000000) (_hm' : 32 * Sp.rem s σ + 2 ≤ n + 1) (HP : Hid (PS b c cap len s d σ w)) (h_n : isCls s [.num, .txt] σ = false) (h_t : seesOne s [[116, 114, 117, 101], [102, 97, 108, 115, 101], [110, 117, 108, 108]] σ = false) (h_m : σ.isCl s .name = false) (h_p : σ.is s [40] = false) (h_x : σ.is s [101, 120, 105, 115, 116, 115] = false) (h_c : σ.is s [99, 111, 97, 108, 101, 115, 99, 101] = true) :
    Calls Tryz.prog 159 #[.pointer (some ⟨b, 0, none⟩)] w (Post b c cap len s d (atomR s n d σ) w) := by
  have HV : Hid (atomR s n d σ = (Sp.run s n .list (d + 1) ((σ.step s).opened s [40] d)).must s [41]) := by show _ = _; rw [atomR, h_n, h_t, h_m, h_p, h_x, h_c]; rfl
  have r1 := Sp.rem_step_lt h_c
  have r2 := Sp.rem_opened s [40] d (σ.step s)
  have hmf : ∀ (fn : Fn) (first cap : Array Value) (w : World), (Instr.makeFunc fn first cap).run Tryz.prog w = .ok (.func fn first cap) w := fun _ _ _ _ => rfl
  go_enter Tryz.func159, Tryz.ntmps159
  go_wp2_with fail
  refine (acceptNum HP.out).mono ?_
  rintro r w1 ⟨rfl, hp1, hk1⟩
  rw [stepIf_no h_n] at hp1
  have HP1 : Hid (PS b c cap len s d (σ) w1) := hp1
  have HK1 : Hid (Kept b w w1) := hk1
  clear hp1 hk1
  go_wp2_with fail
  refine (accept3 HP1.out).mono ?_
  rintro r w2 ⟨rfl, hp2, hk2⟩
  rw [stepIf_no h_t] at hp2
  have HP2 : Hid (PS b c cap len s d (σ) w2) := hp2
  have HK2 : Hid (Kept b w w2) := HK1.out.trans hk2
  clear hp2 hk2
  go_wp2_with fail
  refine (acceptName HP2.out).mono ?_
  rintro r w3 ⟨rfl, hp3, hk3⟩
  rw [stepIf_no h_m] at hp3
  have HP3 : Hid (PS b c cap len s d (σ) w3) := hp3
  have HK3 : Hid (Kept b w w3) := HK2.out.trans hk3
  clear hp3 hk3
  go_wp2_with fail
  refine (sees1 HP3.out [40] (by decide)).mono ?_
  rintro r w4 ⟨rfl, hp4, hk4⟩
  have HP4 : Hid (PS b c cap len s d (σ) w4) := hp4
  have HK4 : Hid (Kept b w w4) := HK3.out.trans hk4
  clear hp4 hk4
  go_wp2_with fail
  refine (accept1 HP4.out [101, 120, 105, 115, 116, 115] (by decide)).mono ?_
  rintro r w5 ⟨rfl, hp5, hk5⟩
  rw [take_no h_x] at hp5
  have HP5 : Hid (PS b c cap len s d (σ) w5) := hp5
  have HK5 : Hid (Kept b w w5) := HK4.out.trans hk5
  clear hp5 hk5
  go_wp2_with fail
  refine (accept1 HP5.out [99, 111, 97, 108, 101, 115, 99, 101] (by decide)).mono ?_
  rintro r w6 ⟨rfl, hp6, hk6⟩
  rw [take_yes h_c] at hp6
  have HP6 : Hid (PS b c cap len s d (σ.step s) w6) := hp6
  have HK6 : Hid (Kept b w w6) := HK5.out.trans hk6
  clear hp6 hk6
  go_wp2_with fail
  refine (enclosed_exprs HP6.out (by omega) (Sp.run s n .list (d + 1)) (fun w' hp' => (_IH.out n (by omega)).list (d + 1) _ _ (by omega) (by show 32 * Sp.rem s _ + 10 ≤ n; omega) hp')).mono ?_
  rintro r w7 ⟨rfl, hp7, hk7⟩
  have HP7 : Hid (PS b c cap len s d ((Sp.run s n .list (d + 1) ((σ.step s).opened s [40] d)).must s [41]) w7) := hp7
  have HK7 : Hid (Kept b w w7) := HK6.out.trans hk7
  clear hp7 hk7
  go_wp2_with fail
  go_end0
  exact ⟨rfl, by rw [HV.out]; exact HP7.out, HK7.out⟩

set_option maxHeartbeats 2000000 in
theorem atom_case {b c cap len : Nat} {s : Sp.Bs} {n d : Nat} {σ : Sp.St} {w : World} (_IH : Hid (∀ m, m ≤ n → All b c cap len s m)) (_hd : d + (n + 1) ≤ 1000000) (_hm' : 32 * Sp.rem s σ + 2 ≤ n + 1) (HP : Hid (PS b c cap len s d σ w)) (h_n : isCls s [.num, .txt] σ = false) (h_t : seesOne s [[116, 114, 117, 101], [102, 97, 108, 115, 101], [110, 117, 108, 108]] σ = false) (h_m : σ.isCl s .name = false) (h_p : σ.is s [40] = false) (h_x : σ.is s [101, 120, 105, 115, 116, 115] = false) (h_c : σ.is s [99, 111, 97, 108, 101, 115, 99, 101] = false) (h_k : σ.is s [99, 97, 115, 101] = true) :
    Calls Tryz.prog 159 #[.pointer (some ⟨b, 0, none⟩)] w (Post b c cap len s d (atomR s n d σ) w) := by
  have HV : Hid (atomR s n d σ = (Sp.run s n .caseW (d + 1) (σ.opened s [99, 97, 115, 101] d)).must s [101, 110, 100]) := by show _ = _; rw [atomR, h_n, h_t, h_m, h_p, h_x, h_c, h_k, opened_is h_k]; rfl
  have r1 := Sp.rem_openT_lt (d := d) h_k
  rw [← opened_is h_k] at r1
  have hmf : ∀ (fn : Fn) (first cap : Array Value) (w : World), (Instr.makeFunc fn first cap).run Tryz.prog w = .ok (.func fn first cap) w := fun _ _ _ _ => rfl
  go_enter Tryz.func159, Tryz.ntmps159
  go_wp2_with fail
  refine (acceptNum HP.out).mono ?_
  rintro r w1 ⟨rfl, hp1, hk1⟩
  rw [stepIf_no h_n] at hp1
  have HP1 : Hid (PS b c cap len s d (σ) w1) := hp1
  have HK1 : Hid (Kept b w w1) := hk1
  clear hp1 hk1
  go_wp2_with fail
  refine (accept3 HP1.out).mono ?_
  rintro r w2 ⟨rfl, hp2, hk2⟩
  rw [stepIf_no h_t] at hp2
  have HP2 : Hid (PS b c cap len s d (σ) w2) := hp2
  have HK2 : Hid (Kept b w w2) := HK1.out.trans hk2
  clear hp2 hk2
  go_wp2_with fail
  refine (acceptName HP2.out).mono ?_
  rintro r w3 ⟨rfl, hp3, hk3⟩
  rw [stepIf_no h_m] at hp3
  have HP3 : Hid (PS b c cap len s d (σ) w3) := hp3
  have HK3 : Hid (Kept b w w3) := HK2.out.trans hk3
  clear hp3 hk3
  go_wp2_with fail
  refine (sees1 HP3.out [40] (by decide)).mono ?_
  rintro r w4 ⟨rfl, hp4, hk4⟩
  have HP4 : Hid (PS b c cap len s d (σ) w4) := hp4
  have HK4 : Hid (Kept b w w4) := HK3.out.trans hk4
  clear hp4 hk4
  go_wp2_with fail
  refine (accept1 HP4.out [101, 120, 105, 115, 116, 115] (by decide)).mono ?_
  rintro r w5 ⟨rfl, hp5, hk5⟩
  rw [take_no h_x] at hp5
  have HP5 : Hid (PS b c cap len s d (σ) w5) := hp5
  have HK5 : Hid (Kept b w w5) := HK4.out.trans hk5
  clear hp5 hk5
  go_wp2_with fail
  refine (accept1 HP5.out [99, 111, 97, 108, 101, 115, 99, 101] (by decide)).mono ?_
  rintro r w6 ⟨rfl, hp6, hk6⟩
  rw [take_no h_c] at hp6
  have HP6 : Hid (PS b c cap len s d (σ) w6) := hp6
  have HK6 : Hid (Kept b w w6) := HK5.out.trans hk6
  clear hp6 hk6
  go_wp2_with fail
  refine (sees1 HP6.out [99, 97, 115, 101] (by decide)).mono ?_
  rintro r w7 ⟨rfl, hp7, hk7⟩
  have HP7 : Hid (PS b c cap len s d (σ) w7) := hp7
  have HK7 : Hid (Kept b w w7) := HK6.out.trans hk7
  clear hp7 hk7
  go_wp2_with fail
  refine (opened_arms HP7.out [99, 97, 115, 101] (by decide) (by omega) (fun x => (Sp.run s n .caseW (d + 1) x).must s [101, 110, 100]) (fun w' _ hp' => arms_any _IH (by omega) (by omega) hp')).mono ?_
  rintro r w8 ⟨rfl, hp8, hk8⟩
  have HP8 : Hid (PS b c cap len s d ((Sp.run s n .caseW (d + 1) (σ.opened s [99, 97, 115, 101] d)).must s [101, 110, 100]) w8) := hp8
  have HK8 : Hid (Kept b w w8) := HK7.out.trans hk8
  clear hp8 hk8
  go_wp2_with fail
  go_end0
  exact ⟨rfl, by rw [HV.out]; exact HP8.out, HK8.out⟩

set_option maxHeartbeats 2000000 in
theorem atom_none {b c cap len : Nat} {s : Sp.Bs} {n d : Nat} {σ : Sp.St} {w : World} (_IH : Hid (∀ m, m ≤ n → All b c cap len s m)) (_hd : d + (n + 1) ≤ 1000000) (_hm' : 32 * Sp.rem s σ + 2 ≤ n + 1) (HP : Hid (PS b c cap len s d σ w)) (h_n : isCls s [.num, .txt] σ = false) (h_t : seesOne s [[116, 114, 117, 101], [102, 97, 108, 115, 101], [110, 117, 108, 108]] σ = false) (h_m : σ.isCl s .name = false) (h_p : σ.is s [40] = false) (h_x : σ.is s [101, 120, 105, 115, 116, 115] = false) (h_c : σ.is s [99, 111, 97, 108, 101, 115, 99, 101] = false) (h_k : σ.is s [99, 97, 115, 101] = false) :
    Calls Tryz.prog 159 #[.pointer (some ⟨b, 0, none⟩)] w (Post b c cap len s d (atomR s n d σ) w) := by
  have HV : Hid (atomR s n d σ = σ.fail s 2) := by show _ = _; rw [atomR, h_n, h_t, h_m, h_p, h_x, h_c, h_k]; rfl
  have hmf : ∀ (fn : Fn) (first cap : Array Value) (w : World), (Instr.makeFunc fn first cap).run Tryz.prog w = .ok (.func fn first cap) w := fun _ _ _ _ => rfl
  go_enter Tryz.func159, Tryz.ntmps159
  go_wp2_with fail
  refine (acceptNum HP.out).mono ?_
  rintro r w1 ⟨rfl, hp1, hk1⟩
  rw [stepIf_no h_n] at hp1
  have HP1 : Hid (PS b c cap len s d (σ) w1) := hp1
  have HK1 : Hid (Kept b w w1) := hk1
  clear hp1 hk1
  go_wp2_with fail
  refine (accept3 HP1.out).mono ?_
  rintro r w2 ⟨rfl, hp2, hk2⟩
  rw [stepIf_no h_t] at hp2
  have HP2 : Hid (PS b c cap len s d (σ) w2) := hp2
  have HK2 : Hid (Kept b w w2) := HK1.out.trans hk2
  clear hp2 hk2
  go_wp2_with fail
  refine (acceptName HP2.out).mono ?_
  rintro r w3 ⟨rfl, hp3, hk3⟩
  rw [stepIf_no h_m] at hp3
  have HP3 : Hid (PS b c cap len s d (σ) w3) := hp3
  have HK3 : Hid (Kept b w w3) := HK2.out.trans hk3
  clear hp3 hk3
  go_wp2_with fail
  refine (sees1 HP3.out [40] (by decide)).mono ?_
  rintro r w4 ⟨rfl, hp4, hk4⟩
  have HP4 : Hid (PS b c cap len s d (σ) w4) := hp4
  have HK4 : Hid (Kept b w w4) := HK3.out.trans hk4
  clear hp4 hk4
  go_wp2_with fail
  refine (accept1 HP4.out [101, 120, 105, 115, 116, 115] (by decide)).mono ?_
  rintro r w5 ⟨rfl, hp5, hk5⟩
  rw [take_no h_x] at hp5
  have HP5 : Hid (PS b c cap len s d (σ) w5) := hp5
  have HK5 : Hid (Kept b w w5) := HK4.out.trans hk5
  clear hp5 hk5
  go_wp2_with fail
  refine (accept1 HP5.out [99, 111, 97, 108, 101, 115, 99, 101] (by decide)).mono ?_
  rintro r w6 ⟨rfl, hp6, hk6⟩
  rw [take_no h_c] at hp6
  have HP6 : Hid (PS b c cap len s d (σ) w6) := hp6
  have HK6 : Hid (Kept b w w6) := HK5.out.trans hk6
  clear hp6 hk6
  go_wp2_with fail
  refine (sees1 HP6.out [99, 97, 115, 101] (by decide)).mono ?_
  rintro r w7 ⟨rfl, hp7, hk7⟩
  have HP7 : Hid (PS b c cap len s d (σ) w7) := hp7
  have HK7 : Hid (Kept b w w7) := HK6.out.trans hk7
  clear hp7 hk7
  go_wp2_with fail
  refine (refuse_any HP7.out).mono ?_
  rintro r w8 ⟨rfl, hp8, hk8⟩
  have HP8 : Hid (PS b c cap len s d (σ.fail s 2) w8) := hp8
  have HK8 : Hid (Kept b w w8) := HK7.out.trans hk8
  clear hp8 hk8
  go_wp2_with fail
  go_end0
  exact ⟨rfl, by rw [HV.out]; exact HP8.out, HK8.out⟩

theorem atom_step {b c cap len : Nat} {s : Sp.Bs} {n : Nat} (IH : Hid (∀ m, m ≤ n → All b c cap len s m)) : Sd b c cap len s (n + 1) .atom 159 := by
  intro d σ w hd hm hp
  rw [atom_eq]
  cases h1 : isCls s [.num, .txt] σ
  · cases h2 : seesOne s [[116, 114, 117, 101], [102, 97, 108, 115, 101], [110, 117, 108, 108]] σ
    · cases h3 : σ.isCl s .name
      · cases h4 : σ.is s [40]
        · cases h5 : σ.is s [101, 120, 105, 115, 116, 115]
          · cases h6 : σ.is s [99, 111, 97, 108, 101, 115, 99, 101]
            · cases h7 : σ.is s [99, 97, 115, 101]
              · exact atom_none IH hd hm hp h1 h2 h3 h4 h5 h6 h7
              · exact atom_case IH hd hm hp h1 h2 h3 h4 h5 h6 h7
            · exact atom_coalesce IH hd hm hp h1 h2 h3 h4 h5 h6
          · exact atom_exists IH hd hm hp h1 h2 h3 h4 h5
        · cases σ with
          | live e =>
            cases h5 : Sp.St.asks s (.live e)
            · exact atom_openexpr IH hd hm hp h1 h2 h3 h4 h5
            · exact atom_openquery IH hd hm hp h1 h2 h3 h4 h5
          | dead x a => simp [Sp.St.is] at h4
      · cases h4 : (σ.step s).is s [46]
        · exact atom_nameNo IH hd hm hp h1 h2 h3 h4
        · exact atom_nameDot IH hd hm hp h1 h2 h3 h4
    · exact atom_true IH hd hm hp h1 h2
  · exact atom_num IH hd hm hp h1

/-- Every part of the grammar, at whatever fuel. -/
theorem all_parts (b c cap len : Nat) (s : Sp.Bs) : ∀ n, (∀ m, m ≤ n → All b c cap len s m) ∧ (∀ m, m ≤ n → SdL b c cap len s m .list 100) := by
  intro n
  induction n with
  | zero =>
    have z : ∀ nt f, 1 ≤ Sp.lev nt → Sd b c cap len s 0 nt f := fun nt f h d σ w _ hm => absurd hm (by omega)
    refine ⟨fun m hm => ?_, fun m hm => ?_⟩
    · obtain rfl : m = 0 := by omega
      exact ⟨z _ _ (by decide), z _ _ (by decide), z _ _ (by decide), z _ _ (by decide), z _ _ (by decide), z _ _ (by decide), z _ _ (by decide), z _ _ (by decide), z _ _ (by decide), z _ _ (by decide), z _ _ (by decide), z _ _ (by decide), z _ _ (by decide)⟩
    · obtain rfl : m = 0 := by omega
      intro d σ w _ hm'
      have : 32 * Sp.rem s σ + 10 ≤ 0 := hm'
      omega
  | succ n ih =>
    have IH : Hid (∀ m, m ≤ n → All b c cap len s m) := ih.1
    have L := listE_step IH
    have A : All b c cap len s (n + 1) := ⟨expr_step IH, both_step IH, no_step IH, compare_step IH, sum_step IH, product_step IH, unary_step IH, atom_step IH, exprs_step L, query_step IH, term_step IH, factor_step IH (ih.2 n (Nat.le_refl _)), where_step IH⟩
    refine ⟨fun m hm => ?_, fun m hm => ?_⟩
    · by_cases e : m = n + 1
      · subst e; exact A
      · exact ih.1 m (by omega)
    · by_cases e : m = n + 1
      · subst e; exact L
      · exact ih.2 m (by omega)

end Go.Proofs.YtpgeiieapkbjhaaGreatDoor
