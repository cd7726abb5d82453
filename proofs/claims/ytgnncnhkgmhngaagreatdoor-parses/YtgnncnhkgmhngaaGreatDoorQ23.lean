import Derived.Test.YtgnncnhkgmhngaaGreatDoorQ12
import Derived.Deep.RegionHeld3
import Derived.Deep.DrawnRows
import Derived.Deep.AppendLies
namespace Go.Proofs.YtgnncnhkgmhngaaGreatDoor
open Go.RowKit

/-- An arm as a value. -/
def IsAr (v : Value) : Prop := ∃ a x t y, v = .agg #[.int .i64 a, x, .int .i64 t, y] ∧ IsIf x ∧ IsIf y

/-- A block of four, written anew. -/
theorem Bk.fill4 {w : World} {q : Nat} {x y z u : Value} (h : Bk w q [x, y, z, u]) (x' y' z' u' : Value) : Bk ((((w.setCell ⟨q, 0, none⟩ x').setCell ⟨q, 1, none⟩ y').setCell ⟨q, 2, none⟩ z').setCell ⟨q, 3, none⟩ u') q [x', y', z', u'] := by
  have c0 := h.c 0 (by simp)
  have c1 := h.c 1 (by simp)
  have c2 := h.c 2 (by simp)
  have c3 := h.c 3 (by simp)
  have lt := h.lt
  have F : Hid (∀ j, w.frozen? ⟨q, j, none⟩ = false) := h.f
  simp only [List.getElem_cons_zero, List.getElem_cons_succ] at c0 c1 c2 c3
  refine ⟨by simpa [World.setCell] using h.lt, ?_, fun j => ?_⟩
  · intro j hj
    match j, hj with
    | 0, _ => clear F h; go_simp
    | 1, _ => clear F h; go_simp
    | 2, _ => clear F h; go_simp
    | 3, _ => clear F h; go_simp
  · have f := F.out j
    clear F h
    go_simp

theorem agg2 {a c : Int} {x y : Value} (h : Value.agg #[.int .i64 a, x] = .agg #[.int .i64 c, y]) : a = c ∧ x = y := by
  simp only [Value.agg.injEq] at h
  have e0 := congrArg (fun x : Array Value => x[0]?) h
  have e1 := congrArg (fun x : Array Value => x[1]?) h
  simp at e0 e1
  exact ⟨e0, e1⟩

set_option maxHeartbeats 2000000 in
theorem arm_any {b c cap len : Nat} {s : Sp.Bs} {n m d : Nat} {σ σ1 : Sp.St} {w : World} (h : PS b c cap len s d σ w) (hσ : Sp.run s n .expr d (σ.must s [119, 104, 101, 110]) = σ1)
    (hw : ∀ w', PS b c cap len s d (σ.must s [119, 104, 101, 110]) w' → Calls Tryz.prog 175 #[.pointer (some ⟨b, 0, none⟩)] w' (PostV b c cap len s d (Sp.run s n .expr d (σ.must s [119, 104, 101, 110])) w' IsIf fun w'' v => Rp w'' (Sp.tr s n .expr d .nil (σ.must s [119, 104, 101, 110])) w'.heap.size w''.heap.size v))
    (ht : ∀ w', PS b c cap len s d (σ1.must s [116, 104, 101, 110]) w' → Calls Tryz.prog 175 #[.pointer (some ⟨b, 0, none⟩)] w' (PostV b c cap len s d (Sp.run s m .expr d (σ1.must s [116, 104, 101, 110])) w' IsIf fun w'' v => Rp w'' (Sp.tr s m .expr d .nil (σ1.must s [116, 104, 101, 110])) w'.heap.size w''.heap.size v)) :
    Calls Tryz.prog 353 #[.pointer (some ⟨b, 0, none⟩)] w (PostV b c cap len s d (Sp.run s m .expr d (σ1.must s [116, 104, 101, 110])) w IsAr fun w' v => ∃ x y l2, v = .agg #[.int .i64 (σ.at_ s : Nat), x, .int .i64 (σ1.at_ s : Nat), y] ∧ IsIf x ∧ IsIf y ∧ Rp w' (Sp.tr s n .expr d .nil (σ.must s [119, 104, 101, 110])) (w.heap.size + 1) l2 x ∧ Rp w' (Sp.tr s m .expr d .nil (σ1.must s [116, 104, 101, 110])) l2 w'.heap.size y) := by
  have hbw := h.lb
  have hcw := h.lc
  have HW : Hid (∀ w', PS b c cap len s d (σ.must s [119, 104, 101, 110]) w' → Calls Tryz.prog 175 #[.pointer (some ⟨b, 0, none⟩)] w' (PostV b c cap len s d (Sp.run s n .expr d (σ.must s [119, 104, 101, 110])) w' IsIf fun w'' v => Rp w'' (Sp.tr s n .expr d .nil (σ.must s [119, 104, 101, 110])) w'.heap.size w''.heap.size v)) := hw
  have HT : Hid (∀ w', PS b c cap len s d (σ1.must s [116, 104, 101, 110]) w' → Calls Tryz.prog 175 #[.pointer (some ⟨b, 0, none⟩)] w' (PostV b c cap len s d (Sp.run s m .expr d (σ1.must s [116, 104, 101, 110])) w' IsIf fun w'' v => Rp w'' (Sp.tr s m .expr d .nil (σ1.must s [116, 104, 101, 110])) w'.heap.size w''.heap.size v)) := ht
  have HS : Hid (Sp.run s n .expr d (σ.must s [119, 104, 101, 110]) = σ1) := hσ
  have HH : Hid (PS b c cap len s d σ (w.alloc (.cells #[.int .i64 0, .nilIface, .int .i64 0, .nilIface] 407))) := h.alloc _
  have HK0 : Hid (Kept b w (w.alloc (.cells #[.int .i64 0, .nilIface, .int .i64 0, .nilIface] 407))) := (Kept.refl b w).alloc _
  have HB0 : Hid (Bk (w.alloc (.cells #[.int .i64 0, .nilIface, .int .i64 0, .nilIface] 407)) w.heap.size [.int .i64 0, .nilIface, .int .i64 0, .nilIface]) := Bk.new _ _ _
  have hz0 : (w.alloc (.cells #[.int .i64 0, .nilIface, .int .i64 0, .nilIface] 407)).heap.size = w.heap.size + 1 := by simp
  clear h hw ht hσ
  go_enter Tryz.func353, Tryz.ntmps353
  go_wp2_with fail
  generalize w.alloc (.cells #[.int .i64 0, .nilIface, .int .i64 0, .nilIface] 407) = w0 at *
  refine (clause_any (n := n) HH.out [119, 104, 101, 110] (by decide) HW.out).mono ?_
  rw [HS.out]
  rintro r w1 ⟨v1, rfl, hp1, hk1, ⟨a1, x1, rfl, hi1⟩, hr1⟩
  have HP1 : Hid (PS b c cap len s d σ1 w1) := hp1
  have HK1 : Hid (Kept b w0 w1) := hk1
  have HB1 : Hid (Bk w1 w.heap.size [.int .i64 0, .nilIface, .int .i64 0, .nilIface]) := HB0.out.kept hk1 (by omega)
  have HI1 : Hid (IsIf x1) := hi1
  have HR1 : Hid (σ1.isLive = true → a1 = (σ.at_ s : Nat) ∧ Rp w1 (Sp.tr s n .expr d .nil (σ.must s [119, 104, 101, 110])) (w0.heap.size + 1) w1.heap.size x1) := fun hl => by
    obtain ⟨x, e, _, r⟩ := hr1 hl
    obtain ⟨e0, e1⟩ := agg2 e
    subst e0 e1
    exact ⟨rfl, r⟩
  have hz1 := hk1.size
  clear hp1 hk1 hi1 hr1 HH
  go_wp2_with fail
  refine (clause_any (n := m) HP1.out [116, 104, 101, 110] (by decide) HT.out).mono ?_
  rintro r w2 ⟨v2, rfl, hp2, hk2, ⟨a2, x2, rfl, hi2⟩, hr2⟩
  have HP2 : Hid (PS b c cap len s d (Sp.run s m .expr d (σ1.must s [116, 104, 101, 110])) w2) := hp2
  have HK2 : Hid (Kept b w1 w2) := hk2
  have hB2 := HB1.out.kept hk2 (by omega)
  have HI2 : Hid (IsIf x2) := hi2
  have HR2 : Hid ((Sp.run s m .expr d (σ1.must s [116, 104, 101, 110])).isLive = true → a2 = (σ1.at_ s : Nat) ∧ Rp w2 (Sp.tr s m .expr d .nil (σ1.must s [116, 104, 101, 110])) (w1.heap.size + 1) w2.heap.size x2) := fun hl => by
    obtain ⟨x, e, _, r⟩ := hr2 hl
    obtain ⟨e0, e1⟩ := agg2 e
    subst e0 e1
    exact ⟨rfl, r⟩
  have hz2 := hk2.size
  have c0 := hB2.c 0 (by decide)
  have c1 := hB2.c 1 (by decide)
  have c2 := hB2.c 2 (by decide)
  have c3 := hB2.c 3 (by decide)
  have f0 := hB2.f 0
  have f1 := hB2.f 1
  have f2 := hB2.f 2
  have f3 := hB2.f 3
  simp only [List.getElem_cons_zero, List.getElem_cons_succ] at c0 c1 c2 c3
  have hst1 := fun a m w => HI1.out.st a m w
  have hst2 := fun a m w => hi2.st a m w
  clear hp2 hk2 hi2 hr2 hB2
  go_wp2_with fail
  refine bodyPost_ret (v := .agg #[.int .i64 a1, x1, .int .i64 a2, x2]) (by simp [results, Tryz.results353, go_sem, *]) rfl ⟨_, rfl, (((HP2.out.put w.heap.size 0 (by omega) (by omega) _).put w.heap.size 1 (by omega) (by omega) _).put w.heap.size 2 (by omega) (by omega) _).put w.heap.size 3 (by omega) (by omega) _, (((((HK0.out.trans HK1.out).trans HK2.out).setNew (by simp) _).setNew (by simp) _).setNew (by simp) _).setNew (by simp) _, ⟨_, _, _, _, rfl, HI1.out, HI2.out⟩, fun hl => ?_⟩
  obtain ⟨e2, r2⟩ := HR2.out hl
  obtain ⟨e1, r1⟩ := HR1.out (Sp.live_must (Sp.live_run hl))
  subst e1 e2
  have hset : ∀ k, k ≠ w.heap.size → ((((w2.setCell ⟨w.heap.size, 0, none⟩ (.int .i64 (σ.at_ s : Nat))).setCell ⟨w.heap.size, 1, none⟩ x1).setCell ⟨w.heap.size, 2, none⟩ (.int .i64 (σ1.at_ s : Nat))).setCell ⟨w.heap.size, 3, none⟩ x2).heap[k]? = w2.heap[k]? := fun k hk => by
    rw [Below.heap_setCell _ _ _ _ hk, Below.heap_setCell _ _ _ _ hk, Below.heap_setCell _ _ _ _ hk, Below.heap_setCell _ _ _ _ hk]
  refine ⟨x1, x2, w1.heap.size, rfl, HI1.out, HI2.out, ?_, ?_⟩
  · exact Rp.wide _ _ _ _ _ _ ((r1.keptN HI1.out.noSl HK2.out (by omega) (Nat.le_refl _)).frame (by simp [World.setCell]) _ _ _ _ (fun k h1 h2 => hset k (by omega)) (fun _ _ _ _ e => absurd e (HI1.out.noSl _ _ _))) (by omega) (Nat.le_refl _)
  · exact Rp.wide _ _ _ _ _ _ (r2.frame (by simp [World.setCell]) _ _ _ _ (fun k h1 h2 => hset k (by omega)) (fun _ _ _ _ e => absurd e (HI2.out.noSl _ _ _))) (by omega) (by simp [World.setCell])

end Go.Proofs.YtgnncnhkgmhngaaGreatDoor

namespace Go.Proofs.YtgnncnhkgmhngaaGreatDoor
open Go.RowKit
attribute [local go_sem ↓] Go.wp_at_zero Go.wp_at_succ

abbrev ArmT := Nat × Sp.Nd × Nat × Sp.Nd
def pushA (x : ArmT) : Sp.Nd → Sp.Nd
  | .kase l e => .kase (.arms x.1 x.2.1 x.2.2.1 x.2.2.2 l) e
  | y => y
def kpush (l : List ArmT) (nd : Sp.Nd) : Sp.Nd := l.foldr pushA nd
def aapp (l : List ArmT) : Sp.Nd := l.foldr (fun x r => .arms x.1 x.2.1 x.2.2.1 x.2.2.2 r) .nil
theorem kpush_kase : ∀ (l : List ArmT) (e : Sp.Nd), kpush l (.kase .nil e) = .kase (aapp l) e
  | [], _ => rfl
  | x :: l, e => by show pushA x (kpush l (.kase .nil e)) = _; rw [kpush_kase l e]; rfl
theorem kpush_snoc (l : List ArmT) (x : ArmT) (nd : Sp.Nd) : kpush (l ++ [x]) nd = kpush l (pushA x nd) := by simp [kpush]

def restS (s : Sp.Bs) (m d : Nat) (σ : Sp.St) : Sp.St := if σ.is s [119, 104, 101, 110] then Sp.run s m .caseW d σ else if σ.is s [101, 108, 115, 101] then Sp.run s m .caseE d σ else σ
def restN (s : Sp.Bs) (m d : Nat) (σ : Sp.St) : Sp.Nd := if σ.is s [119, 104, 101, 110] then Sp.tr s m .caseW d .nil σ else if σ.is s [101, 108, 115, 101] then .kase .nil (Sp.tr s m .caseE d .nil σ) else .kase .nil .none
def armS (s : Sp.Bs) (m d : Nat) (σ : Sp.St) : Sp.St := Sp.run s m .expr d ((Sp.run s (m + 1) .expr d (σ.must s [119, 104, 101, 110])).must s [116, 104, 101, 110])
def armN (s : Sp.Bs) (m d : Nat) (σ : Sp.St) : ArmT := (σ.at_ s, Sp.tr s (m + 1) .expr d .nil (σ.must s [119, 104, 101, 110]), (Sp.run s (m + 1) .expr d (σ.must s [119, 104, 101, 110])).at_ s, Sp.tr s m .expr d .nil ((Sp.run s (m + 1) .expr d (σ.must s [119, 104, 101, 110])).must s [116, 104, 101, 110]))

theorem caseW_eq (s : Sp.Bs) (m d : Nat) (σ : Sp.St) : Sp.run s (m + 2) .caseW d σ = restS s m d (armS s m d σ) := by
  have e1 : Sp.run s (m + 2) .caseW d σ = Sp.run s (m + 1) .caseT d (Sp.run s (m + 1) .expr d (σ.must s [119, 104, 101, 110])) := by conv => lhs; rw [Sp.run]
  have e2 : ∀ τ, Sp.run s (m + 1) .caseT d τ = restS s m d (Sp.run s m .expr d (τ.must s [116, 104, 101, 110])) := fun τ => by
    conv => lhs; rw [Sp.run]
    rfl
  rw [e1, e2, armS]
theorem pushArm_eq (wa ta : Nat) (e t y : Sp.Nd) : Sp.pushArm (.clause wa e) (.clause ta t) y = pushA (wa, e, ta, t) y := by cases y <;> rfl
theorem caseWN_eq (s : Sp.Bs) (m d : Nat) (σ : Sp.St) : Sp.tr s (m + 2) .caseW d .nil σ = pushA (armN s m d σ) (restN s m d (armS s m d σ)) := by
  have e1 : Sp.tr s (m + 2) .caseW d .nil σ = Sp.tr s (m + 1) .caseT d (.clause (σ.at_ s) (Sp.tr s (m + 1) .expr d .nil (σ.must s [119, 104, 101, 110]))) (Sp.run s (m + 1) .expr d (σ.must s [119, 104, 101, 110])) := by conv => lhs; rw [Sp.tr]
  have e2 : ∀ a τ, Sp.tr s (m + 1) .caseT d a τ = (if (Sp.run s m .expr d (τ.must s [116, 104, 101, 110])).is s [119, 104, 101, 110] then Sp.pushArm a (.clause (τ.at_ s) (Sp.tr s m .expr d .nil (τ.must s [116, 104, 101, 110]))) (Sp.tr s m .caseW d .nil (Sp.run s m .expr d (τ.must s [116, 104, 101, 110]))) else if (Sp.run s m .expr d (τ.must s [116, 104, 101, 110])).is s [101, 108, 115, 101] then .kase (Sp.arm a (.clause (τ.at_ s) (Sp.tr s m .expr d .nil (τ.must s [116, 104, 101, 110]))) .nil) (Sp.tr s m .caseE d .nil (Sp.run s m .expr d (τ.must s [116, 104, 101, 110]))) else .kase (Sp.arm a (.clause (τ.at_ s) (Sp.tr s m .expr d .nil (τ.must s [116, 104, 101, 110]))) .nil) .none) := fun a τ => by rw [Sp.tr]
  rw [e1, e2, armS, armN, restN]
  split
  · exact pushArm_eq _ _ _ _ _
  · split <;> rfl

theorem rest_clT (s : Sp.Bs) (m d : Nat) (σ : Sp.St) (h : σ.is s [119, 104, 101, 110] = false) : restS s (m + 1) d σ = clT s m d [101, 108, 115, 101] σ := by
  rw [restS, h, clT]
  simp only [Bool.false_eq_true, if_false]
  split
  · rename_i he; rw [Sp.run, must_yes he]
  · rfl
theorem rest_clN (s : Sp.Bs) (m d : Nat) (σ : Sp.St) (h : σ.is s [119, 104, 101, 110] = false) : restN s (m + 1) d σ = .kase .nil (clN s m d [101, 108, 115, 101] σ) := by
  rw [restN, h, clN]
  simp only [Bool.false_eq_true, if_false]
  split
  · rename_i he; rw [Sp.tr, must_yes he]
  · rfl
theorem rem_armS (s : Sp.Bs) (m d : Nat) (σ : Sp.St) : Sp.rem s (armS s m d σ) ≤ Sp.rem s (σ.must s [119, 104, 101, 110]) :=
  Nat.le_trans (Sp.rem_run _ _ _ _ _) (Nat.le_trans (Sp.rem_must _ _ _) (Sp.rem_run _ _ _ _ _))
theorem live_armS {s : Sp.Bs} {m d : Nat} {σ : Sp.St} (h : (armS s m d σ).isLive = true) : σ.isLive = true :=
  Sp.live_must (Sp.live_run (Sp.live_must (Sp.live_run h)))

/-- Arms, one behind the other; blocks g and q lie in none of them. -/
def AmR (w : World) (g q : Nat) : List ArmT → List Value → Nat → Nat → Prop
  | [], [], lo, hi => lo ≤ hi
  | (wa, e, ta, t) :: ns, a :: x :: c :: y :: xs, lo, hi => a = .int .i64 (wa : Int) ∧ c = .int .i64 (ta : Int) ∧ ∃ m1 m2 m3, (lo ≤ m1 ∧ m1 ≤ m2 ∧ m2 ≤ m3 ∧ m3 ≤ hi) ∧ ¬ (m1 ≤ g ∧ g < m3) ∧ ¬ (m1 ≤ q ∧ q < m3) ∧ NoSl x ∧ Rp w e m1 m2 x ∧ NoSl y ∧ Rp w t m2 m3 y ∧ AmR w g q ns xs m3 hi
  | _, _, _, _ => False

theorem AmR.le {w : World} {g q : Nat} : ∀ {ns : List ArmT} {xs : List Value} {lo hi : Nat}, AmR w g q ns xs lo hi → lo ≤ hi := by
  intro ns xs lo hi h
  match ns, xs, h with
  | [], [], h => exact h
  | (_, _, _, _) :: _, _ :: _ :: _ :: _ :: _, h => obtain ⟨_, _, _, _, _, hS, _⟩ := h; omega
theorem AmR.snoc {w : World} {g q : Nat} {wa ta : Nat} {e t : Sp.Nd} {x y : Value} {m1 m2 m3 : Nat} (h1 : m1 ≤ m2) (h2 : m2 ≤ m3) (hg : ¬ (m1 ≤ g ∧ g < m3)) (hq : ¬ (m1 ≤ q ∧ q < m3)) (n1 : NoSl x) (r1 : Rp w e m1 m2 x) (n2 : NoSl y) (r2 : Rp w t m2 m3 y) :
    ∀ {ns : List ArmT} {xs : List Value} {lo hi : Nat}, AmR w g q ns xs lo hi → hi ≤ m1 → AmR w g q (ns ++ [(wa, e, ta, t)]) (xs ++ [.int .i64 (wa : Int), x, .int .i64 (ta : Int), y]) lo m3 := by
  intro ns
  induction ns with
  | nil =>
    intro xs lo hi h hh
    match xs, h with
    | [], h => exact ⟨rfl, rfl, m1, m2, m3, by have : lo ≤ hi := h; omega, hg, hq, n1, r1, n2, r2, Nat.le_refl _⟩
  | cons z ns ih =>
    intro xs lo hi h hh
    obtain ⟨wa', e', ta', t'⟩ := z
    match xs, h with
    | a :: x' :: c :: y' :: xs, h =>
      obtain ⟨ea, ec, a1, a2, a3, hS, h3, h4, h5, h6, h7, h8, h9⟩ := h
      have := h9.le
      exact ⟨ea, ec, a1, a2, a3, by omega, h3, h4, h5, h6, h7, h8, ih h9 hh⟩
theorem AmR.move {w : World} {g g' q : Nat} : ∀ {ns : List ArmT} {xs : List Value} {lo hi : Nat}, AmR w g q ns xs lo hi → hi ≤ g' → AmR w g' q ns xs lo hi := by
  intro ns
  induction ns with
  | nil => intro xs lo hi h _; match xs, h with | [], h => exact h
  | cons z ns ih =>
    intro xs lo hi h hh
    obtain ⟨wa', e', ta', t'⟩ := z
    match xs, h with
    | a :: x' :: c :: y' :: xs, h =>
      obtain ⟨ea, ec, a1, a2, a3, hS, h3, h4, h5, h6, h7, h8, h9⟩ := h
      exact ⟨ea, ec, a1, a2, a3, hS, by omega, h4, h5, h6, h7, h8, ih h9 hh⟩
theorem AmR.frame {w w' : World} {g q : Nat} (hs : w.heap.size ≤ w'.heap.size) : ∀ {ns : List ArmT} {xs : List Value} {lo hi : Nat}, AmR w g q ns xs lo hi → (∀ k, lo ≤ k → k < hi → k ≠ g → k ≠ q → w'.heap[k]? = w.heap[k]?) → AmR w' g q ns xs lo hi := by
  intro ns
  induction ns with
  | nil => intro xs lo hi h _; match xs, h with | [], h => exact h
  | cons z ns ih =>
    intro xs lo hi h hk
    obtain ⟨wa', e', ta', t'⟩ := z
    match xs, h with
    | a :: x' :: c :: y' :: xs, h =>
      obtain ⟨ea, ec, a1, a2, a3, hS, h3, h4, h5, h6, h7, h8, h9⟩ := h
      have := h9.le
      exact ⟨ea, ec, a1, a2, a3, hS, h3, h4, h5, h6.frame hs _ _ _ _ (fun k p1 p2 => hk k (by omega) (by omega) (by omega) (by omega)) (fun _ _ _ _ e => absurd e (h5 _ _ _)), h7, h8.frame hs _ _ _ _ (fun k p1 p2 => hk k (by omega) (by omega) (by omega) (by omega)) (fun _ _ _ _ e => absurd e (h7 _ _ _)), ih h9 fun k p1 p2 p3 p4 => hk k (by omega) p2 p3 p4⟩
theorem AmR.rp {w : World} {g q : Nat} (hg : g < w.heap.size) (cap : Nat) : ∀ {ns : List ArmT} {xs : List Value} {lo hi off : Nat}, AmR w g q ns xs lo hi → (∀ j u, xs[j]? = some u → w.cell? ⟨g, off + j, none⟩ = some u) → Rp w (aapp ns) lo hi (.slice (some ⟨g, off, none⟩) ns.length cap) := by
  intro ns
  induction ns with
  | nil => intro xs lo hi off h _; match xs, h with | [], h => exact ⟨h, _, _, rfl⟩
  | cons z ns ih =>
    intro xs lo hi off h hc
    obtain ⟨wa', e', ta', t'⟩ := z
    match xs, h with
    | a :: x' :: c :: y' :: xs, h =>
      obtain ⟨ea, ec, a1, a2, a3, hS, h3, h4, h5, h6, h7, h8, h9⟩ := h
      subst ea ec
      refine ⟨g, off, ns.length, cap, x', y', a1, a2, a3, rfl, hg, by unfold Sub; omega, by unfold Sub; omega, by simpa using hc 0 _ rfl, hc 1 _ rfl, hc 2 _ rfl, hc 3 _ rfl, h5, h6, h7, h8, ?_⟩
      exact ih h9 fun j u hj => by have := hc (j + 4) u (by simpa using hj); rw [show off + 4 + j = off + (j + 4) by omega]; exact this

theorem infoArm : (Tryz.prog.info? 407).map (fun i => (i.zero, i.size, i.bytes)) = some (some (.agg #[.int .i64 0, .nilIface, .int .i64 0, .nilIface]), 4, 48) := by kernel_rfl

end Go.Proofs.YtgnncnhkgmhngaaGreatDoor
