import Derived.Test.YtgnncnhkgmhngaaGreatDoorR6
namespace Go.Proofs.YtgnncnhkgmhngaaGreatDoor
open Go.RowKit

/-- The blocks that are the reader's: his own, and those of his five lists. -/
def FP (b : Nat) (w : World) (k : Nat) : Prop := k = b ∨ ∃ o v, (o = 12 ∨ o = 13 ∨ o = 14 ∨ o = 19 ∨ o = 20) ∧ w.cell? ⟨b, o, none⟩ = some v ∧ v.ownBlock = some k

/-- Of what was there nothing but the reader's blocks has turned; what is the reader's now was so, or is new. -/
structure RK (b : Nat) (w w' : World) : Prop where
  os : w'.os = w.os
  tape : w'.tape = w.tape
  output : w'.output = w.output
  size : w.heap.size ≤ w'.heap.size
  block : ∀ k, k < w.heap.size → ¬ FP b w k → w'.heap[k]? = w.heap[k]?
  fp : ∀ k, FP b w' k → FP b w k ∨ w.heap.size ≤ k

theorem RK.refl (b : Nat) (w : World) : RK b w w := ⟨rfl, rfl, rfl, Nat.le_refl _, fun _ _ _ => rfl, fun _ h => Or.inl h⟩
theorem RK.trans {b : Nat} {x y z : World} (h : RK b x y) (k : RK b y z) : RK b x z := by
  refine ⟨k.os.trans h.os, k.tape.trans h.tape, k.output.trans h.output, Nat.le_trans h.size k.size, fun i hi hf => ?_, fun i hi => ?_⟩
  · refine (k.block i (Nat.lt_of_lt_of_le hi h.size) ?_).trans (h.block i hi hf)
    intro hy
    rcases h.fp i hy with x | x
    · exact hf x
    · omega
  · rcases k.fp i hi with x | x
    · exact h.fp i x
    · exact Or.inr (Nat.le_trans h.size x)
theorem FP.same {b : Nat} {w w' : World} (hb : w'.heap[b]? = w.heap[b]?) {k : Nat} (h : FP b w' k) : FP b w k := by
  rcases h with h | ⟨o, v, ho, hc, hv⟩
  · exact Or.inl h
  · exact Or.inr ⟨o, v, ho, by rw [← World.cell?_of_block (w := w) (a := ⟨b, o, none⟩) hb]; exact hc, hv⟩
theorem RK.below {b : Nat} {w w' : World} (h : Below w.heap.size w w') (hb : b < w.heap.size) : RK b w w' :=
  ⟨h.os, h.tape, h.output, h.size, fun k hk _ => h.block k hk, fun _ hk => Or.inl (hk.same (h.block b hb))⟩
/-- A cell of the reader's that is none of the five. -/
theorem RK.set {b : Nat} {a w : World} (h : RK b a w) (o : Nat) (ho : o ≠ 12 ∧ o ≠ 13 ∧ o ≠ 14 ∧ o ≠ 19 ∧ o ≠ 20) (u : Value) : RK b a (w.setCell ⟨b, o, none⟩ u) := by
  refine h.trans ⟨rfl, rfl, rfl, by simp [World.setCell], fun k _ hf => Below.heap_setCell _ _ _ _ (fun e => hf (Or.inl e)), fun k hk => Or.inl ?_⟩
  rcases hk with hk | ⟨p, v, hp, hc, hv⟩
  · exact Or.inl hk
  · refine Or.inr ⟨p, v, hp, ?_, hv⟩
    rw [World.cell?_setCell_other _ _ _ _ (by intro e; injection e with e1 e2; omega)] at hc
    exact hc
/-- A block of one's own. -/
theorem RK.new {b : Nat} {a w : World} (h : RK b a w) (hb : b < a.heap.size) {p : Addr} (hp : a.heap.size ≤ p.block) (u : Value) : RK b a (w.setCell p u) := by
  refine ⟨h.os, h.tape, h.output, by simpa [World.setCell] using h.size, fun k hk hf => (Below.heap_setCell _ _ _ _ (by omega)).trans (h.block k hk hf), fun k hk => ?_⟩
  exact h.fp k (hk.same (Below.heap_setCell _ _ _ _ (by omega)))
/-- A block that is not the reader's keeps what it holds. -/
theorem RK.keeps {b : Nat} {w w' : World} (h : RK b w w') {p : Addr} (hp : p.block < w.heap.size) (hf : ¬ FP b w p.block) : w'.cell? p = w.cell? p := World.cell?_of_block (w := w) (h.block p.block hp hf)
theorem RK.keepsF {b : Nat} {w w' : World} (h : RK b w w') {p : Addr} (hp : p.block < w.heap.size) (hf : ¬ FP b w p.block) : w'.frozen? p = w.frozen? p := World.frozen?_of_block (w := w) (h.block p.block hp hf)
theorem RK.notfp {b : Nat} {w w' : World} (h : RK b w w') {k : Nat} (hk : k < w.heap.size) (hf : ¬ FP b w k) : ¬ FP b w' k := by
  intro hy
  rcases h.fp k hy with x | x
  · exact hf x
  · omega

theorem cset {w : World} {b o : Nat} {u : Value} (h : w.cell? ⟨b, o, none⟩ = some u) (v : Value) : (w.setCell ⟨b, o, none⟩ v).cell? ⟨b, o, none⟩ = some v := World.cell?_setCell_same _ _ _ h
theorem coth {w : World} {b o p : Nat} {u : Value} (h : w.cell? ⟨b, p, none⟩ = some u) (hne : o ≠ p) (v : Value) : (w.setCell ⟨b, o, none⟩ v).cell? ⟨b, p, none⟩ = some u :=
  (World.cell?_setCell_other _ _ _ _ (by intro e; injection e with e1 e2; omega)).trans h
theorem fset {w : World} {b : Nat} (h : ∀ o, w.frozen? ⟨b, o, none⟩ = false) (a : Addr) (v : Value) : ∀ o, (w.setCell a v).frozen? ⟨b, o, none⟩ = false := fun o => by rw [World.frozen?_setCell]; exact h o

theorem RC.s1 {b : Nat} {s : ByteArray} {x : RD} {d e a : Nat} {w : World} (h : RC b s x d e a w) (v : ByteArray) : RC b s { x with kd := v } d e a (w.setCell ⟨b, 1, none⟩ (.string v)) := by
  exact ⟨by simpa using h.lb, coth h.c0 (by decide) _, cset h.c1 _, coth h.c2 (by decide) _, coth h.c3 (by decide) _, coth h.c4 (by decide) _, coth h.c5 (by decide) _, coth h.c6 (by decide) _, coth h.c7 (by decide) _, coth h.c8 (by decide) _, coth h.c9 (by decide) _, coth h.c10 (by decide) _, coth h.c11 (by decide) _, coth h.c12 (by decide) _, coth h.c13 (by decide) _, coth h.c14 (by decide) _, coth h.c15 (by decide) _, coth h.c16 (by decide) _, coth h.c17 (by decide) _, coth h.c18 (by decide) _, coth h.c19 (by decide) _, coth h.c20 (by decide) _, fset h.fz _ _⟩
theorem RC.s2 {b : Nat} {s : ByteArray} {x : RD} {d e a : Nat} {w : World} (h : RC b s x d e a w) (v : Int) : RC b s { x with ta := v } d e a (w.setCell ⟨b, 2, none⟩ (.int .i64 v)) := by
  exact ⟨by simpa using h.lb, coth h.c0 (by decide) _, coth h.c1 (by decide) _, cset h.c2 _, coth h.c3 (by decide) _, coth h.c4 (by decide) _, coth h.c5 (by decide) _, coth h.c6 (by decide) _, coth h.c7 (by decide) _, coth h.c8 (by decide) _, coth h.c9 (by decide) _, coth h.c10 (by decide) _, coth h.c11 (by decide) _, coth h.c12 (by decide) _, coth h.c13 (by decide) _, coth h.c14 (by decide) _, coth h.c15 (by decide) _, coth h.c16 (by decide) _, coth h.c17 (by decide) _, coth h.c18 (by decide) _, coth h.c19 (by decide) _, coth h.c20 (by decide) _, fset h.fz _ _⟩
theorem RC.s3 {b : Nat} {s : ByteArray} {x : RD} {d e a : Nat} {w : World} (h : RC b s x d e a w) (v : ByteArray) : RC b s { x with ts := v } d e a (w.setCell ⟨b, 3, none⟩ (.string v)) := by
  exact ⟨by simpa using h.lb, coth h.c0 (by decide) _, coth h.c1 (by decide) _, coth h.c2 (by decide) _, cset h.c3 _, coth h.c4 (by decide) _, coth h.c5 (by decide) _, coth h.c6 (by decide) _, coth h.c7 (by decide) _, coth h.c8 (by decide) _, coth h.c9 (by decide) _, coth h.c10 (by decide) _, coth h.c11 (by decide) _, coth h.c12 (by decide) _, coth h.c13 (by decide) _, coth h.c14 (by decide) _, coth h.c15 (by decide) _, coth h.c16 (by decide) _, coth h.c17 (by decide) _, coth h.c18 (by decide) _, coth h.c19 (by decide) _, coth h.c20 (by decide) _, fset h.fz _ _⟩
theorem RC.s4 {b : Nat} {s : ByteArray} {x : RD} {d e a : Nat} {w : World} (h : RC b s x d e a w) (v : Int) : RC b s { x with tn := v } d e a (w.setCell ⟨b, 4, none⟩ (.int .i64 v)) := by
  exact ⟨by simpa using h.lb, coth h.c0 (by decide) _, coth h.c1 (by decide) _, coth h.c2 (by decide) _, coth h.c3 (by decide) _, cset h.c4 _, coth h.c5 (by decide) _, coth h.c6 (by decide) _, coth h.c7 (by decide) _, coth h.c8 (by decide) _, coth h.c9 (by decide) _, coth h.c10 (by decide) _, coth h.c11 (by decide) _, coth h.c12 (by decide) _, coth h.c13 (by decide) _, coth h.c14 (by decide) _, coth h.c15 (by decide) _, coth h.c16 (by decide) _, coth h.c17 (by decide) _, coth h.c18 (by decide) _, coth h.c19 (by decide) _, coth h.c20 (by decide) _, fset h.fz _ _⟩
theorem RC.s5 {b : Nat} {s : ByteArray} {x : RD} {d e a : Nat} {w : World} (h : RC b s x d e a w) (v : Int) : RC b s { x with en := v } d e a (w.setCell ⟨b, 5, none⟩ (.int .i64 v)) := by
  exact ⟨by simpa using h.lb, coth h.c0 (by decide) _, coth h.c1 (by decide) _, coth h.c2 (by decide) _, coth h.c3 (by decide) _, coth h.c4 (by decide) _, cset h.c5 _, coth h.c6 (by decide) _, coth h.c7 (by decide) _, coth h.c8 (by decide) _, coth h.c9 (by decide) _, coth h.c10 (by decide) _, coth h.c11 (by decide) _, coth h.c12 (by decide) _, coth h.c13 (by decide) _, coth h.c14 (by decide) _, coth h.c15 (by decide) _, coth h.c16 (by decide) _, coth h.c17 (by decide) _, coth h.c18 (by decide) _, coth h.c19 (by decide) _, coth h.c20 (by decide) _, fset h.fz _ _⟩
theorem RC.s6 {b : Nat} {s : ByteArray} {x : RD} {d e a : Nat} {w : World} (h : RC b s x d e a w) (d' : Nat) (q : Int) (hq : q = (d' : Int)) : RC b s x d' e a (w.setCell ⟨b, 6, none⟩ (.int .i64 q)) := by
  subst hq; exact ⟨by simpa using h.lb, coth h.c0 (by decide) _, coth h.c1 (by decide) _, coth h.c2 (by decide) _, coth h.c3 (by decide) _, coth h.c4 (by decide) _, coth h.c5 (by decide) _, cset h.c6 _, coth h.c7 (by decide) _, coth h.c8 (by decide) _, coth h.c9 (by decide) _, coth h.c10 (by decide) _, coth h.c11 (by decide) _, coth h.c12 (by decide) _, coth h.c13 (by decide) _, coth h.c14 (by decide) _, coth h.c15 (by decide) _, coth h.c16 (by decide) _, coth h.c17 (by decide) _, coth h.c18 (by decide) _, coth h.c19 (by decide) _, coth h.c20 (by decide) _, fset h.fz _ _⟩
theorem RC.s7 {b : Nat} {s : ByteArray} {x : RD} {d e a : Nat} {w : World} (h : RC b s x d e a w) (e' : Nat) (q : Int) (hq : q = (e' : Int)) : RC b s x d e' a (w.setCell ⟨b, 7, none⟩ (.int .i64 q)) := by
  subst hq; exact ⟨by simpa using h.lb, coth h.c0 (by decide) _, coth h.c1 (by decide) _, coth h.c2 (by decide) _, coth h.c3 (by decide) _, coth h.c4 (by decide) _, coth h.c5 (by decide) _, coth h.c6 (by decide) _, cset h.c7 _, coth h.c8 (by decide) _, coth h.c9 (by decide) _, coth h.c10 (by decide) _, coth h.c11 (by decide) _, coth h.c12 (by decide) _, coth h.c13 (by decide) _, coth h.c14 (by decide) _, coth h.c15 (by decide) _, coth h.c16 (by decide) _, coth h.c17 (by decide) _, coth h.c18 (by decide) _, coth h.c19 (by decide) _, coth h.c20 (by decide) _, fset h.fz _ _⟩
theorem RC.s8 {b : Nat} {s : ByteArray} {x : RD} {d e a : Nat} {w : World} (h : RC b s x d e a w) (a' : Nat) (q : Int) (hq : q = (a' : Int)) : RC b s x d e a' (w.setCell ⟨b, 8, none⟩ (.int .i64 q)) := by
  subst hq; exact ⟨by simpa using h.lb, coth h.c0 (by decide) _, coth h.c1 (by decide) _, coth h.c2 (by decide) _, coth h.c3 (by decide) _, coth h.c4 (by decide) _, coth h.c5 (by decide) _, coth h.c6 (by decide) _, coth h.c7 (by decide) _, cset h.c8 _, coth h.c9 (by decide) _, coth h.c10 (by decide) _, coth h.c11 (by decide) _, coth h.c12 (by decide) _, coth h.c13 (by decide) _, coth h.c14 (by decide) _, coth h.c15 (by decide) _, coth h.c16 (by decide) _, coth h.c17 (by decide) _, coth h.c18 (by decide) _, coth h.c19 (by decide) _, coth h.c20 (by decide) _, fset h.fz _ _⟩
theorem RC.s9 {b : Nat} {s : ByteArray} {x : RD} {d e a : Nat} {w : World} (h : RC b s x d e a w) (v : ByteArray) : RC b s { x with does := v } d e a (w.setCell ⟨b, 9, none⟩ (.string v)) := by
  exact ⟨by simpa using h.lb, coth h.c0 (by decide) _, coth h.c1 (by decide) _, coth h.c2 (by decide) _, coth h.c3 (by decide) _, coth h.c4 (by decide) _, coth h.c5 (by decide) _, coth h.c6 (by decide) _, coth h.c7 (by decide) _, coth h.c8 (by decide) _, cset h.c9 _, coth h.c10 (by decide) _, coth h.c11 (by decide) _, coth h.c12 (by decide) _, coth h.c13 (by decide) _, coth h.c14 (by decide) _, coth h.c15 (by decide) _, coth h.c16 (by decide) _, coth h.c17 (by decide) _, coth h.c18 (by decide) _, coth h.c19 (by decide) _, coth h.c20 (by decide) _, fset h.fz _ _⟩
theorem RC.s10 {b : Nat} {s : ByteArray} {x : RD} {d e a : Nat} {w : World} (h : RC b s x d e a w) (v : ByteArray) : RC b s { x with table := v } d e a (w.setCell ⟨b, 10, none⟩ (.string v)) := by
  exact ⟨by simpa using h.lb, coth h.c0 (by decide) _, coth h.c1 (by decide) _, coth h.c2 (by decide) _, coth h.c3 (by decide) _, coth h.c4 (by decide) _, coth h.c5 (by decide) _, coth h.c6 (by decide) _, coth h.c7 (by decide) _, coth h.c8 (by decide) _, coth h.c9 (by decide) _, cset h.c10 _, coth h.c11 (by decide) _, coth h.c12 (by decide) _, coth h.c13 (by decide) _, coth h.c14 (by decide) _, coth h.c15 (by decide) _, coth h.c16 (by decide) _, coth h.c17 (by decide) _, coth h.c18 (by decide) _, coth h.c19 (by decide) _, coth h.c20 (by decide) _, fset h.fz _ _⟩
theorem RC.s11 {b : Nat} {s : ByteArray} {x : RD} {d e a : Nat} {w : World} (h : RC b s x d e a w) (v : Int) : RC b s { x with at_ := v } d e a (w.setCell ⟨b, 11, none⟩ (.int .i64 v)) := by
  exact ⟨by simpa using h.lb, coth h.c0 (by decide) _, coth h.c1 (by decide) _, coth h.c2 (by decide) _, coth h.c3 (by decide) _, coth h.c4 (by decide) _, coth h.c5 (by decide) _, coth h.c6 (by decide) _, coth h.c7 (by decide) _, coth h.c8 (by decide) _, coth h.c9 (by decide) _, coth h.c10 (by decide) _, cset h.c11 _, coth h.c12 (by decide) _, coth h.c13 (by decide) _, coth h.c14 (by decide) _, coth h.c15 (by decide) _, coth h.c16 (by decide) _, coth h.c17 (by decide) _, coth h.c18 (by decide) _, coth h.c19 (by decide) _, coth h.c20 (by decide) _, fset h.fz _ _⟩
theorem RC.s12 {b : Nat} {s : ByteArray} {x : RD} {d e a : Nat} {w : World} (h : RC b s x d e a w) (v : Value) : RC b s { x with vc := v } d e a (w.setCell ⟨b, 12, none⟩ (v)) := by
  exact ⟨by simpa using h.lb, coth h.c0 (by decide) _, coth h.c1 (by decide) _, coth h.c2 (by decide) _, coth h.c3 (by decide) _, coth h.c4 (by decide) _, coth h.c5 (by decide) _, coth h.c6 (by decide) _, coth h.c7 (by decide) _, coth h.c8 (by decide) _, coth h.c9 (by decide) _, coth h.c10 (by decide) _, coth h.c11 (by decide) _, cset h.c12 _, coth h.c13 (by decide) _, coth h.c14 (by decide) _, coth h.c15 (by decide) _, coth h.c16 (by decide) _, coth h.c17 (by decide) _, coth h.c18 (by decide) _, coth h.c19 (by decide) _, coth h.c20 (by decide) _, fset h.fz _ _⟩
theorem RC.s13 {b : Nat} {s : ByteArray} {x : RD} {d e a : Nat} {w : World} (h : RC b s x d e a w) (v : Value) : RC b s { x with vr := v } d e a (w.setCell ⟨b, 13, none⟩ (v)) := by
  exact ⟨by simpa using h.lb, coth h.c0 (by decide) _, coth h.c1 (by decide) _, coth h.c2 (by decide) _, coth h.c3 (by decide) _, coth h.c4 (by decide) _, coth h.c5 (by decide) _, coth h.c6 (by decide) _, coth h.c7 (by decide) _, coth h.c8 (by decide) _, coth h.c9 (by decide) _, coth h.c10 (by decide) _, coth h.c11 (by decide) _, coth h.c12 (by decide) _, cset h.c13 _, coth h.c14 (by decide) _, coth h.c15 (by decide) _, coth h.c16 (by decide) _, coth h.c17 (by decide) _, coth h.c18 (by decide) _, coth h.c19 (by decide) _, coth h.c20 (by decide) _, fset h.fz _ _⟩
theorem RC.s14 {b : Nat} {s : ByteArray} {x : RD} {d e a : Nat} {w : World} (h : RC b s x d e a w) (v : Value) : RC b s { x with vg := v } d e a (w.setCell ⟨b, 14, none⟩ (v)) := by
  exact ⟨by simpa using h.lb, coth h.c0 (by decide) _, coth h.c1 (by decide) _, coth h.c2 (by decide) _, coth h.c3 (by decide) _, coth h.c4 (by decide) _, coth h.c5 (by decide) _, coth h.c6 (by decide) _, coth h.c7 (by decide) _, coth h.c8 (by decide) _, coth h.c9 (by decide) _, coth h.c10 (by decide) _, coth h.c11 (by decide) _, coth h.c12 (by decide) _, coth h.c13 (by decide) _, cset h.c14 _, coth h.c15 (by decide) _, coth h.c16 (by decide) _, coth h.c17 (by decide) _, coth h.c18 (by decide) _, coth h.c19 (by decide) _, coth h.c20 (by decide) _, fset h.fz _ _⟩
theorem RC.s15 {b : Nat} {s : ByteArray} {x : RD} {d e a : Nat} {w : World} (h : RC b s x d e a w) (v : Int) : RC b s { x with wh := v } d e a (w.setCell ⟨b, 15, none⟩ (.int .i64 v)) := by
  exact ⟨by simpa using h.lb, coth h.c0 (by decide) _, coth h.c1 (by decide) _, coth h.c2 (by decide) _, coth h.c3 (by decide) _, coth h.c4 (by decide) _, coth h.c5 (by decide) _, coth h.c6 (by decide) _, coth h.c7 (by decide) _, coth h.c8 (by decide) _, coth h.c9 (by decide) _, coth h.c10 (by decide) _, coth h.c11 (by decide) _, coth h.c12 (by decide) _, coth h.c13 (by decide) _, coth h.c14 (by decide) _, cset h.c15 _, coth h.c16 (by decide) _, coth h.c17 (by decide) _, coth h.c18 (by decide) _, coth h.c19 (by decide) _, coth h.c20 (by decide) _, fset h.fz _ _⟩
theorem RC.s16 {b : Nat} {s : ByteArray} {x : RD} {d e a : Nat} {w : World} (h : RC b s x d e a w) (v : Int) : RC b s { x with wa := v } d e a (w.setCell ⟨b, 16, none⟩ (.int .i64 v)) := by
  exact ⟨by simpa using h.lb, coth h.c0 (by decide) _, coth h.c1 (by decide) _, coth h.c2 (by decide) _, coth h.c3 (by decide) _, coth h.c4 (by decide) _, coth h.c5 (by decide) _, coth h.c6 (by decide) _, coth h.c7 (by decide) _, coth h.c8 (by decide) _, coth h.c9 (by decide) _, coth h.c10 (by decide) _, coth h.c11 (by decide) _, coth h.c12 (by decide) _, coth h.c13 (by decide) _, coth h.c14 (by decide) _, coth h.c15 (by decide) _, cset h.c16 _, coth h.c17 (by decide) _, coth h.c18 (by decide) _, coth h.c19 (by decide) _, coth h.c20 (by decide) _, fset h.fz _ _⟩
theorem RC.s17 {b : Nat} {s : ByteArray} {x : RD} {d e a : Nat} {w : World} (h : RC b s x d e a w) (v : Int) : RC b s { x with q := v } d e a (w.setCell ⟨b, 17, none⟩ (.int .i64 v)) := by
  exact ⟨by simpa using h.lb, coth h.c0 (by decide) _, coth h.c1 (by decide) _, coth h.c2 (by decide) _, coth h.c3 (by decide) _, coth h.c4 (by decide) _, coth h.c5 (by decide) _, coth h.c6 (by decide) _, coth h.c7 (by decide) _, coth h.c8 (by decide) _, coth h.c9 (by decide) _, coth h.c10 (by decide) _, coth h.c11 (by decide) _, coth h.c12 (by decide) _, coth h.c13 (by decide) _, coth h.c14 (by decide) _, coth h.c15 (by decide) _, coth h.c16 (by decide) _, cset h.c17 _, coth h.c18 (by decide) _, coth h.c19 (by decide) _, coth h.c20 (by decide) _, fset h.fz _ _⟩
theorem RC.s18 {b : Nat} {s : ByteArray} {x : RD} {d e a : Nat} {w : World} (h : RC b s x d e a w) (v : Int) : RC b s { x with ia := v } d e a (w.setCell ⟨b, 18, none⟩ (.int .i64 v)) := by
  exact ⟨by simpa using h.lb, coth h.c0 (by decide) _, coth h.c1 (by decide) _, coth h.c2 (by decide) _, coth h.c3 (by decide) _, coth h.c4 (by decide) _, coth h.c5 (by decide) _, coth h.c6 (by decide) _, coth h.c7 (by decide) _, coth h.c8 (by decide) _, coth h.c9 (by decide) _, coth h.c10 (by decide) _, coth h.c11 (by decide) _, coth h.c12 (by decide) _, coth h.c13 (by decide) _, coth h.c14 (by decide) _, coth h.c15 (by decide) _, coth h.c16 (by decide) _, coth h.c17 (by decide) _, cset h.c18 _, coth h.c19 (by decide) _, coth h.c20 (by decide) _, fset h.fz _ _⟩
theorem RC.s19 {b : Nat} {s : ByteArray} {x : RD} {d e a : Nat} {w : World} (h : RC b s x d e a w) (v : Value) : RC b s { x with vn := v } d e a (w.setCell ⟨b, 19, none⟩ (v)) := by
  exact ⟨by simpa using h.lb, coth h.c0 (by decide) _, coth h.c1 (by decide) _, coth h.c2 (by decide) _, coth h.c3 (by decide) _, coth h.c4 (by decide) _, coth h.c5 (by decide) _, coth h.c6 (by decide) _, coth h.c7 (by decide) _, coth h.c8 (by decide) _, coth h.c9 (by decide) _, coth h.c10 (by decide) _, coth h.c11 (by decide) _, coth h.c12 (by decide) _, coth h.c13 (by decide) _, coth h.c14 (by decide) _, coth h.c15 (by decide) _, coth h.c16 (by decide) _, coth h.c17 (by decide) _, coth h.c18 (by decide) _, cset h.c19 _, coth h.c20 (by decide) _, fset h.fz _ _⟩
theorem RC.s20 {b : Nat} {s : ByteArray} {x : RD} {d e a : Nat} {w : World} (h : RC b s x d e a w) (v : Value) : RC b s { x with vq := v } d e a (w.setCell ⟨b, 20, none⟩ (v)) := by
  exact ⟨by simpa using h.lb, coth h.c0 (by decide) _, coth h.c1 (by decide) _, coth h.c2 (by decide) _, coth h.c3 (by decide) _, coth h.c4 (by decide) _, coth h.c5 (by decide) _, coth h.c6 (by decide) _, coth h.c7 (by decide) _, coth h.c8 (by decide) _, coth h.c9 (by decide) _, coth h.c10 (by decide) _, coth h.c11 (by decide) _, coth h.c12 (by decide) _, coth h.c13 (by decide) _, coth h.c14 (by decide) _, coth h.c15 (by decide) _, coth h.c16 (by decide) _, coth h.c17 (by decide) _, coth h.c18 (by decide) _, coth h.c19 (by decide) _, cset h.c20 _, fset h.fz _ _⟩

theorem RC.kept {b : Nat} {s : ByteArray} {x : RD} {d e a : Nat} {w w' : World} (h : RC b s x d e a w) (hb : w'.heap[b]? = w.heap[b]?) (hs : w.heap.size ≤ w'.heap.size) : RC b s x d e a w' := by
  have hc : ∀ o, w'.cell? ⟨b, o, none⟩ = w.cell? ⟨b, o, none⟩ := fun o => World.cell?_of_block (w := w) (a := ⟨b, o, none⟩) hb
  have hf : ∀ o, w'.frozen? ⟨b, o, none⟩ = w.frozen? ⟨b, o, none⟩ := fun o => World.frozen?_of_block (w := w) (a := ⟨b, o, none⟩) hb
  exact ⟨Nat.lt_of_lt_of_le h.lb hs, (hc 0).trans h.c0, (hc 1).trans h.c1, (hc 2).trans h.c2, (hc 3).trans h.c3, (hc 4).trans h.c4, (hc 5).trans h.c5, (hc 6).trans h.c6, (hc 7).trans h.c7, (hc 8).trans h.c8, (hc 9).trans h.c9, (hc 10).trans h.c10, (hc 11).trans h.c11, (hc 12).trans h.c12, (hc 13).trans h.c13, (hc 14).trans h.c14, (hc 15).trans h.c15, (hc 16).trans h.c16, (hc 17).trans h.c17, (hc 18).trans h.c18, (hc 19).trans h.c19, (hc 20).trans h.c20, fun o => (hf o).trans (h.fz o)⟩

theorem Ow.set {b : Nat} {e : TypeId} {size : Nat} {v : Value} {n : Nat} {w : World} (h : Ow b e size v n w) (o : Nat) (u : Value) : Ow b e size v n (w.setCell ⟨b, o, none⟩ u) := by
  obtain ⟨xs, h⟩ := h
  exact ⟨xs, ownsRow_setCell_below h (by exact Nat.lt_succ_self b) u⟩
theorem Ow.below {b : Nat} {e : TypeId} {size : Nat} {v : Value} {n : Nat} {w w' : World} (h : Ow b e size v n w) (hb : Below w.heap.size w w') : Ow b e size v n w' := by
  obtain ⟨xs, h⟩ := h
  exact ⟨xs, owns_below h hb⟩

theorem RO.map {b : Nat} {s : Sp.Bs} {k k' : Nat} {c : Ct} {σ σ' : Sp.St} {x : RD} {w w' : World} (h : RO b s k c σ x w) (f : ∀ e size v n, Ow b e size v n w → Ow b e size v n w') (hf : far s σ + k' ≤ far s σ' + k) : RO b s k' c σ' x w' := by
  obtain ⟨oc, a1, a2, ⟨n3, a3, b3⟩, ⟨n4, a4, b4⟩⟩ := h
  exact ⟨f _ _ _ _ oc, f _ _ _ _ a1, f _ _ _ _ a2, ⟨n3, f _ _ _ _ a3, by omega⟩, ⟨n4, f _ _ _ _ a4, by omega⟩⟩
theorem RO.set {b : Nat} {s : Sp.Bs} {k : Nat} {c : Ct} {σ : Sp.St} {x : RD} {w : World} (h : RO b s k c σ x w) (o : Nat) (u : Value) : RO b s k c σ x (w.setCell ⟨b, o, none⟩ u) := h.map (fun _ _ _ _ h => h.set o u) (Nat.le_refl _)
theorem RO.below {b : Nat} {s : Sp.Bs} {k : Nat} {c : Ct} {σ : Sp.St} {x : RD} {w w' : World} (h : RO b s k c σ x w) (hb : Below w.heap.size w w') : RO b s k c σ x w' := h.map (fun _ _ _ _ h => h.below hb) (Nat.le_refl _)
theorem RO.far {b : Nat} {s : Sp.Bs} {k k' : Nat} {c : Ct} {σ σ' : Sp.St} {x : RD} {w : World} (h : RO b s k c σ x w) (hf : Proofs.YtgnncnhkgmhngaaGreatDoor.far s σ + k' ≤ Proofs.YtgnncnhkgmhngaaGreatDoor.far s σ' + k) : RO b s k' c σ' x w := h.map (fun _ _ _ _ h => h) hf
theorem RS.weak {b : Nat} {s : ByteArray} {d k k' : Nat} {c : Ct} {σ : Sp.St} {w : World} (h : RS b s d k c σ w) (hk : k' ≤ k) : RS b s d k' c σ w := by
  obtain ⟨h1, x, hc, ho, ht⟩ := h
  exact ⟨h1, x, hc, ho.far (by omega), ht⟩

theorem RS.below {b : Nat} {s : ByteArray} {d k : Nat} {c : Ct} {σ : Sp.St} {w w' : World} (h : RS b s d k c σ w) (hb : Below w.heap.size w w') : RS b s d k c σ w' := by
  obtain ⟨h1, x, hc, ho, ht⟩ := h
  exact ⟨h1, x, hc.kept (hb.block b hc.lb) hb.size, ho.below hb, ht⟩
theorem RS.lb {b : Nat} {s : ByteArray} {d k : Nat} {c : Ct} {σ : Sp.St} {w : World} (h : RS b s d k c σ w) : b < w.heap.size := by
  obtain ⟨_, x, hc, _⟩ := h; exact hc.lb
theorem RS.alloc {b : Nat} {s : ByteArray} {d k : Nat} {c : Ct} {σ : Sp.St} {w : World} (h : RS b s d k c σ w) (o : Obj) : RS b s d k c σ (w.alloc o) := h.below ((Below.refl _ _).alloc (Nat.le_refl _) o)
theorem RS.drew {b : Nat} {s : ByteArray} {d k : Nat} {c : Ct} {σ : Sp.St} {w : World} (h : RS b s d k c σ w) : RS b s d k c σ w.drew := h.below (Below.refl _ _).drew
theorem RS.drewN {b : Nat} {s : ByteArray} {d k : Nat} {c : Ct} {σ : Sp.St} {w : World} (h : RS b s d k c σ w) (n : Nat) : RS b s d k c σ (w.drewN n) := h.below (below_drewN (Below.refl _ _) n)
theorem RK.alloc {b : Nat} {a w : World} (h : RK b a w) (hb : b < w.heap.size) (o : Obj) : RK b a (w.alloc o) := h.trans (RK.below ((Below.refl _ _).alloc (Nat.le_refl _) o) hb)
theorem RK.drew {b : Nat} {a w : World} (h : RK b a w) : RK b a w.drew := ⟨h.os, h.tape, h.output, h.size, h.block, h.fp⟩
theorem RK.drewN {b : Nat} {a w : World} (h : RK b a w) (n : Nat) : RK b a (w.drewN n) := ⟨h.os, h.tape, h.output, h.size, h.block, h.fp⟩

/-- The post of a call without a result; with an int. -/
def RP (b : Nat) (s : ByteArray) (d k : Nat) (c : Ct) (σ : Sp.St) (w : World) (r : Ending) (w' : World) : Prop := r = .returned (.tuple #[]) ∧ RS b s d k c σ w' ∧ RK b w w'
def RI (b : Nat) (s : ByteArray) (d k : Nat) (c : Ct) (σ : Sp.St) (w : World) (r : Ending) (w' : World) : Prop := ∃ n : Int, r = .returned (.int .i64 n) ∧ RS b s d k c σ w' ∧ RK b w w'
def RB (b : Nat) (s : ByteArray) (d k : Nat) (c : Ct) (σ : Sp.St) (t : Bool) (w : World) (r : Ending) (w' : World) : Prop := r = .returned (.bool t) ∧ RS b s d k c σ w' ∧ RK b w w'

theorem kname_key {c : Sp.Cl} (h : kname c = [107, 101, 121]) : c = .key := by cases c <;> simp [kname] at h ⊢
theorem rt_key {s : Sp.Bs} {x : RD} {σ : Sp.St} (h : RT s x σ) (z : Sp.Bs) : σ.is s z = (decide (x.kd.toList = [107, 101, 121]) && (x.ts.toList == z)) := by
  cases σ with
  | live e =>
    obtain ⟨_, h1, _, h3, _⟩ := h
    simp only [Sp.St.is]
    by_cases hk : Sp.tokCl s e = .key
    · rw [h3 hk, h1, hk]; rfl
    · have : ¬ x.kd.toList = [107, 101, 121] := by rw [h1]; exact fun h => hk (kname_key h)
      simp [hk, this]
  | dead y a =>
    have : ¬ x.kd.toList = [107, 101, 121] := by rw [h.2]; decide
    simp [Sp.St.is, this]

set_option maxHeartbeats 1000000 in
theorem ris_any {b : Nat} {s : ByteArray} {d k : Nat} {c : Ct} {σ : Sp.St} {w : World} (h : RS b s d k c σ w) (z : Sp.Bs) :
    Calls Tryz.prog 66 #[.pointer (some ⟨b, 0, none⟩), .string ⟨z.toArray⟩] w fun r w' => r = .returned (.bool (σ.is s.data.toList z)) ∧ w' = w := by
  obtain ⟨_, x, hc, _, ht⟩ := h
  have hk := rt_key ht z
  have c1 := hc.c1
  have c3 := hc.c3
  have hz : (ByteArray.mk z.toArray).toList = z := ByteArray.toList_mk z
  clear hc ht
  by_cases h1 : x.kd.toList = [107, 101, 121]
  · have HV : Hid (σ.is s.data.toList z = (x.ts.toList == z)) := by show _ = _; rw [hk, decide_eq_true h1]; rfl
    clear hk
    go_enter Tryz.func66, Tryz.ntmps66
    go_wp2_with fail
    go_ret
    exact ⟨ret_bool (by rw [HV.out]), rfl⟩
  · have HV : Hid (σ.is s.data.toList z = false) := by show _ = _; rw [hk, decide_eq_false h1]; rfl
    have hkb : (x.kd.toList == [107, 101, 121]) = false := by simpa using h1
    clear hk h1
    go_enter Tryz.func66, Tryz.ntmps66
    go_wp2_with fail
    go_ret
    exact ⟨ret_bool (by rw [HV.out]), rfl⟩
end Go.Proofs.YtgnncnhkgmhngaaGreatDoor

namespace Go.Proofs.YtgnncnhkgmhngaaGreatDoor
open Go.RowKit

theorem RO.cast {b : Nat} {s : Sp.Bs} {k : Nat} {c : Ct} {σ : Sp.St} {x x' : RD} {w : World} (e : x'.vc = x.vc ∧ x'.vr = x.vr ∧ x'.vg = x.vg ∧ x'.vn = x.vn ∧ x'.vq = x.vq) (h : RO b s k c σ x w) : RO b s k c σ x' w := by
  obtain ⟨e1, e2, e3, e4, e5⟩ := e
  obtain ⟨a1, a3, a4, a5, a6⟩ := h
  exact ⟨by rw [e1]; exact a1, by rw [e2]; exact a3, by rw [e3]; exact a4, by rw [e4]; exact a5, by rw [e5]; exact a6⟩

theorem far_fail (s : Sp.Bs) (x : Nat) (σ : Sp.St) : far s σ ≤ far s (σ.fail s x) := by
  cases σ with
  | live e => simp only [far, Sp.St.fail]; omega
  | dead y a => exact Nat.le_refl _

set_option maxHeartbeats 1000000 in
theorem rfail_any {b : Nat} {s : ByteArray} {d k : Nat} {c : Ct} {σ : Sp.St} {w : World} (h : RS b s d k c σ w) (e : Nat) (he : e ≠ 0) (k' : Nat) (hk : far s.data.toList σ + k' ≤ far s.data.toList (σ.fail s.data.toList e) + k) :
    Calls Tryz.prog 46 #[.pointer (some ⟨b, 0, none⟩), .int .i64 e] w (RP b s d k' c (σ.fail s.data.toList e) w) := by
  obtain ⟨hs, x, hc, ho, ht⟩ := h
  have HC : Hid (RC b s x d (er σ) (ea σ) w) := hc
  have HO : Hid (RO b s.data.toList k' c (σ.fail s.data.toList e) x w) := ho.far hk
  have HT : Hid (RT s.data.toList x σ) := ht
  clear hk
  have c0 := hc.c0
  have c1 := hc.c1
  have c2 := hc.c2
  have c3 := hc.c3
  have c4 := hc.c4
  have c5 := hc.c5
  have c7 := hc.c7
  have c8 := hc.c8
  have f1 := hc.fz 1
  have f2 := hc.fz 2
  have f3 := hc.fz 3
  have f4 := hc.fz 4
  have f5 := hc.fz 5
  have f7 := hc.fz 7
  have f8 := hc.fz 8
  clear hc ho ht
  cases σ with
  | live p =>
    have hz : (((er (.live p) : Nat) : Int) == 0) = true := rfl
    go_enter Tryz.func46, Tryz.ntmps46
    go_wp2_with fail
    go_end0
    have ta := HT.out.2.2.1
    refine ⟨rfl, ⟨hs, _, ((((((HC.out.s7 e _ rfl).s8 (Sp.tokAt s.data.toList p) _ ta).s1 ⟨#[98, 97, 100]⟩).s2 x.ta).s3 ⟨#[]⟩).s4 0).s5 (s.size : Int), ?_, ?_⟩, ?_⟩
    · refine RO.cast (x := x) ⟨rfl, rfl, rfl, rfl, rfl⟩ ?_
      exact ((((((HO.out.set 7 _).set 8 _).set 1 _).set 2 _).set 3 _).set 4 _).set 5 _
    · exact ⟨he, ByteArray.toList_mk _⟩
    · exact (((((((RK.refl b w).set 7 (by decide) _).set 8 (by decide) _).set 1 (by decide) _).set 2 (by decide) _).set 3 (by decide) _).set 4 (by decide) _).set 5 (by decide) _
  | dead y z =>
    have hz : (((er (.dead y z) : Nat) : Int) == 0) = false := by have := HT.out.1; simp [er]; omega
    go_enter Tryz.func46, Tryz.ntmps46
    go_wp2_with fail
    go_end0
    refine ⟨rfl, ⟨hs, _, ((((HC.out.s1 ⟨#[98, 97, 100]⟩).s2 x.ta).s3 ⟨#[]⟩).s4 0).s5 (s.size : Int), ?_, ?_⟩, ?_⟩
    · refine RO.cast (x := x) ⟨rfl, rfl, rfl, rfl, rfl⟩ ?_
      exact ((((HO.out.set 1 _).set 2 _).set 3 _).set 4 _).set 5 _
    · exact ⟨HT.out.1, ByteArray.toList_mk _⟩
    · exact (((((RK.refl b w).set 1 (by decide) _).set 2 (by decide) _).set 3 (by decide) _).set 4 (by decide) _).set 5 (by decide) _

set_option maxHeartbeats 2000000 in
theorem rstep_raw {b : Nat} {s : ByteArray} {d k : Nat} {c : Ct} {σ : Sp.St} {x : RD} {w : World} (hs : s.size ≤ 2000) (hc : RC b s x d 0 0 w) (ho : RO b s.data.toList k c σ x w) (a : Nat) (hen : x.en = (a : Int)) (ha : a ≤ s.size) (k' : Nat) (hf : far s.data.toList σ + k' ≤ far s.data.toList (.live a) + k) :
    Calls Tryz.prog 44 #[.pointer (some ⟨b, 0, none⟩)] w (RP b s d k' c (.live a) w) := by
  have HC : Hid (RC b s x d 0 0 w) := hc
  have HO : Hid (RO b s.data.toList k' c (.live a) x w) := ho.far hf
  have c0 := hc.c0
  have c5 : w.cell? ⟨b, 5, none⟩ = some (.int .i64 a) := by rw [← hen]; exact hc.c5
  have HT : Hid (∀ w, Calls Tryz.prog 62 #[.string s, .int .i64 a] w (TR s a w)) := fun w => token_any s a w hs ha
  clear ho hc hen hf
  go_enter Tryz.func44, Tryz.ntmps44
  go_region_with (go_at_call 62; refine (HT.out _).mono ?_; rintro e w1 ⟨kd, ts, tn, en, rfl, hk, hw, hn, hb⟩; have k1 : RC b s x d 0 0 w1 := HC.out.kept (hb.block b HC.out.lb) hb.size; have HK : Hid (RC b s x d 0 0 w1 ∧ Below w.heap.size w w1 ∧ kd.toList = kname (Sp.tokCl s.data.toList a) ∧ (Sp.tokCl s.data.toList a = .key → ts.toList = Sp.tokWord s.data.toList a) ∧ (Sp.tokCl s.data.toList a ≠ .bad → en = (Sp.tokEnd s.data.toList a : Nat))) := ⟨k1, (Below.refl w.heap.size w).drew.trans hb, hk, hw, hn⟩; have q1 := k1.c1; have q2 := k1.c2; have q3 := k1.c3; have q4 := k1.c4; have q5 := k1.c5; have g1 := k1.fz 1; have g2 := k1.fz 2; have g3 := k1.fz 3; have g4 := k1.fz 4; have g5 := k1.fz 5; clear k1 hk hw hn hb)
  all_goals go_wp2_with fail
  all_goals go_end0
  all_goals
    obtain ⟨k1, hb, hk, hw, hn⟩ := HK.out
    refine ⟨rfl, ⟨hs, _, ((((k1.s1 kd).s2 (Sp.tokAt s.data.toList a : Nat)).s3 ts).s4 tn).s5 en, ?_, ?_⟩, ?_⟩
    · refine RO.cast (x := x) ⟨rfl, rfl, rfl, rfl, rfl⟩ ?_
      exact (((((HO.out.below hb).set 1 _).set 2 _).set 3 _).set 4 _).set 5 _
    · exact ⟨by rw [size_data]; exact ha, hk, rfl, hw, hn⟩
    · exact (((((RK.below hb HC.out.lb).set 1 (by decide) _).set 2 (by decide) _).set 3 (by decide) _).set 4 (by decide) _).set 5 (by decide) _

theorem tokEnd_le {s : Sp.Bs} {e : Nat} (h : Sp.tokCl s e ≠ .bad) (he : e ≤ s.length) : Sp.tokEnd s e ≤ s.length := by
  have ha : Sp.tokAt s e ≤ s.length := by
    unfold Sp.tokAt
    have := many_le Sp.isSp (s.drop e); rw [List.length_drop] at this; omega
  have := first_len (l := s.drop (Sp.tokAt s e)) h
  rw [List.length_drop] at this
  unfold Sp.tokEnd Sp.tokLen
  omega

theorem far_step {s : Sp.Bs} {e : Nat} (hf : Sp.tokCl s e ≠ .fin) (hb : Sp.tokCl s e ≠ .bad) : far s (.live e) + 1 ≤ far s ((Sp.St.live e).step s) := by
  have h1 := Sp.tokEnd_gt hf hb
  have h2 := Sp.lt_of_tok hf
  have h3 := tokEnd_le hb (Nat.le_of_lt h2)
  simp only [far, Sp.St.step]; omega
theorem far_failL {s : Sp.Bs} {e x : Nat} : far s (.live e) + 1 ≤ far s ((Sp.St.live e).fail s x) := by
  simp only [far, Sp.St.fail]; omega

theorem rstep_any {b : Nat} {s : ByteArray} {d k e : Nat} {c : Ct} {w : World} (h : RS b s d k c (.live e) w) (hf : Sp.tokCl s.data.toList e ≠ .fin) (hb : Sp.tokCl s.data.toList e ≠ .bad) :
    Calls Tryz.prog 44 #[.pointer (some ⟨b, 0, none⟩)] w (RP b s d (k + 1) c ((Sp.St.live e).step s.data.toList) w) := by
  obtain ⟨hs, x, hc, ho, ht⟩ := h
  have hle := tokEnd_le hb ht.1
  rw [size_data] at hle
  exact rstep_raw hs hc ho _ (ht.2.2.2.2 hb) hle (k + 1) (by have := far_step hf hb; simp only [Sp.St.step] at this; omega)

theorem is_live {s z : Sp.Bs} {σ : Sp.St} (h : σ.is s z = true) : ∃ e, σ = .live e ∧ Sp.tokCl s e = .key := by
  cases σ with
  | live e => simp [Sp.St.is] at h; exact ⟨e, rfl, h.1⟩
  | dead x a => simp [Sp.St.is] at h

/-- A step where a word is seen. -/
theorem rstep_is {b : Nat} {s : ByteArray} {d k : Nat} {c : Ct} {σ : Sp.St} {w : World} {z : Sp.Bs} (h : RS b s d k c σ w) (hz : σ.is s.data.toList z = true) :
    Calls Tryz.prog 44 #[.pointer (some ⟨b, 0, none⟩)] w (RP b s d (k + 1) c (σ.step s.data.toList) w) := by
  obtain ⟨e, rfl, hk⟩ := is_live hz
  exact rstep_any h (by rw [hk]; decide) (by rw [hk]; decide)
theorem rstep_cl {b : Nat} {s : ByteArray} {d k : Nat} {c : Ct} {σ : Sp.St} {w : World} {c' : Sp.Cl} (h : RS b s d k c σ w) (hz : σ.isCl s.data.toList c' = true) (hf : c' ≠ .fin) (hc : c' ≠ .bad) :
    Calls Tryz.prog 44 #[.pointer (some ⟨b, 0, none⟩)] w (RP b s d (k + 1) c (σ.step s.data.toList) w) := by
  cases σ with
  | live e => simp [Sp.St.isCl] at hz; exact rstep_any h (by rw [hz]; exact hf) (by rw [hz]; exact hc)
  | dead x a => simp [Sp.St.isCl] at hz

theorem far_is {s z : Sp.Bs} {σ : Sp.St} (h : σ.is s z = true) : far s σ + 1 ≤ far s (σ.step s) := by
  obtain ⟨e, rfl, hk⟩ := is_live h
  exact far_step (by rw [hk]; decide) (by rw [hk]; decide)
theorem far_cl {s : Sp.Bs} {σ : Sp.St} {c : Sp.Cl} (h : σ.isCl s c = true) (hf : c ≠ .fin) (hc : c ≠ .bad) : far s σ + 1 ≤ far s (σ.step s) := by
  cases σ with
  | live e => simp [Sp.St.isCl] at h; exact far_step (by rw [h]; exact hf) (by rw [h]; exact hc)
  | dead x a => simp [Sp.St.isCl] at h

/-- A step, with whatever gain there is. -/
theorem rstep_to {b : Nat} {s : ByteArray} {d k : Nat} {c : Ct} {σ : Sp.St} {w : World} {z : Sp.Bs} (h : RS b s d k c σ w) (hz : σ.is s.data.toList z = true) (k' : Nat) (hk : far s.data.toList σ + k' ≤ far s.data.toList (σ.step s.data.toList) + k) :
    Calls Tryz.prog 44 #[.pointer (some ⟨b, 0, none⟩)] w (RP b s d k' c (σ.step s.data.toList) w) := by
  obtain ⟨e, rfl, hkey⟩ := is_live hz
  obtain ⟨hs, x, hc, ho, ht⟩ := h
  have hb : Sp.tokCl s.data.toList e ≠ .bad := by rw [hkey]; decide
  have hle := tokEnd_le hb ht.1
  rw [size_data] at hle
  exact rstep_raw hs hc ho _ (ht.2.2.2.2 hb) hle k' hk

set_option maxHeartbeats 1000000 in
theorem rtake_gain {b : Nat} {s : ByteArray} {d k : Nat} {c : Ct} {σ : Sp.St} {w : World} (h : RS b s d k c σ w) (z : Sp.Bs) (k' : Nat) (hk : far s.data.toList σ + k' ≤ far s.data.toList (σ.take s.data.toList z) + k) :
    Calls Tryz.prog 67 #[.pointer (some ⟨b, 0, none⟩), .string ⟨z.toArray⟩] w (RB b s d k' c (σ.take s.data.toList z) (σ.is s.data.toList z) w) := by
  have HP : Hid (RS b s d k c σ w) := h
  have HK : Hid (far s.data.toList σ + k' ≤ far s.data.toList (σ.take s.data.toList z) + k) := hk
  clear h hk
  cases hs : σ.is s.data.toList z
  · have HV : Hid (σ.take s.data.toList z = σ) := by show _ = _; rw [Sp.St.take, hs]; rfl
    go_enter Tryz.func67, Tryz.ntmps67
    go_wp2_with fail
    refine (ris_any HP.out z).mono ?_
    rintro r w1 ⟨rfl, rfl⟩
    go_wp2_with fail
    go_ret
    exact ⟨rfl, by rw [HV.out]; exact HP.out.weak (by have := HK.out; rw [HV.out] at this; omega), RK.refl _ _⟩
  · have HV : Hid (σ.take s.data.toList z = σ.step s.data.toList) := by show _ = _; rw [Sp.St.take, hs]; rfl
    go_enter Tryz.func67, Tryz.ntmps67
    go_wp2_with fail
    refine (ris_any HP.out z).mono ?_
    rintro r w1 ⟨rfl, rfl⟩
    go_wp2_with fail
    refine (rstep_to HP.out hs k' (by rw [← HV.out]; exact HK.out)).mono ?_
    rintro r w2 ⟨rfl, hp, hk⟩
    have HP2 : Hid (RS b s d k' c (σ.step s.data.toList) w2) := hp
    have HK2 : Hid (RK b w1 w2) := hk
    clear hp hk
    go_wp2_with fail
    go_ret
    exact ⟨rfl, by rw [HV.out]; exact HP2.out, HK2.out⟩

theorem far_take (s : Sp.Bs) (z : Sp.Bs) (σ : Sp.St) : far s σ ≤ far s (σ.take s z) := by
  cases h : σ.is s z
  · rw [Sp.St.take, h]; exact Nat.le_refl _
  · rw [Sp.St.take, h]; exact Nat.le_of_lt (far_is h)
theorem rtake_any {b : Nat} {s : ByteArray} {d k : Nat} {c : Ct} {σ : Sp.St} {w : World} (h : RS b s d k c σ w) (z : Sp.Bs) :
    Calls Tryz.prog 67 #[.pointer (some ⟨b, 0, none⟩), .string ⟨z.toArray⟩] w (RB b s d k c (σ.take s.data.toList z) (σ.is s.data.toList z) w) :=
  rtake_gain h z k (by have := far_take s.data.toList z σ; omega)

set_option maxHeartbeats 1000000 in
theorem rmust_any {b : Nat} {s : ByteArray} {d k : Nat} {c : Ct} {σ : Sp.St} {w : World} (h : RS b s d k c σ w) (z : Sp.Bs) (k' : Nat) (hk : far s.data.toList σ + k' ≤ far s.data.toList (σ.must s.data.toList z) + k) :
    Calls Tryz.prog 63 #[.pointer (some ⟨b, 0, none⟩), .string ⟨z.toArray⟩] w (RP b s d k' c (σ.must s.data.toList z) w) := by
  have HP : Hid (RS b s d k c σ w) := h
  have HK : Hid (far s.data.toList σ + k' ≤ far s.data.toList (σ.must s.data.toList z) + k) := hk
  clear h hk
  cases hs : σ.is s.data.toList z
  · have HV : Hid (σ.must s.data.toList z = σ.fail s.data.toList 2) := by show _ = _; rw [Sp.St.must, hs]; rfl
    have HT : Hid (σ.take s.data.toList z = σ) := by show _ = _; rw [Sp.St.take, hs]; rfl
    go_enter Tryz.func63, Tryz.ntmps63
    go_wp2_with fail
    refine (rtake_any HP.out z).mono ?_
    rintro r w1 ⟨rfl, hp1, hk1⟩
    rw [HT.out] at hp1
    have HP1 : Hid (RS b s d k c σ w1) := hp1
    have HK1 : Hid (RK b w w1) := hk1
    clear hp1 hk1
    go_wp2_with fail
    refine (rfail_any HP1.out 2 (by decide) k' (by rw [← HV.out]; exact HK.out)).mono ?_
    rintro r w2 ⟨rfl, hp2, hk2⟩
    have HP2 : Hid (RS b s d k' c (σ.fail s.data.toList 2) w2) := hp2
    have HK2 : Hid (RK b w w2) := HK1.out.trans hk2
    clear hp2 hk2
    go_wp2_with fail
    go_end0
    exact ⟨rfl, by rw [HV.out]; exact HP2.out, HK2.out⟩
  · have HV : Hid (σ.must s.data.toList z = σ.take s.data.toList z) := by show _ = _; rw [Sp.St.must, Sp.St.take, hs]; rfl
    go_enter Tryz.func63, Tryz.ntmps63
    go_wp2_with fail
    refine (rtake_gain HP.out z k' (by rw [← HV.out]; exact HK.out)).mono ?_
    rintro r w1 ⟨rfl, hp1, hk1⟩
    have HP1 : Hid (RS b s d k' c (σ.take s.data.toList z) w1) := hp1
    have HK1 : Hid (RK b w w1) := hk1
    clear hp1 hk1
    go_wp2_with fail
    go_end0
    exact ⟨rfl, by rw [HV.out]; exact HP1.out, HK1.out⟩

theorem kname_inj {a c : Sp.Cl} (h : kname a = kname c) : a = c := by revert h; cases a <;> cases c <;> simp [kname]
theorem rt_cl {s : Sp.Bs} {x : RD} {σ : Sp.St} (h : RT s x σ) (c : Sp.Cl) (hc : c ≠ .bad) : σ.isCl s c = (x.kd.toList == kname c) := by
  cases σ with
  | live e =>
    simp only [Sp.St.isCl]
    rw [h.2.1, Bool.eq_iff_iff, beq_iff_eq, beq_iff_eq]
    exact ⟨fun h => by rw [h], kname_inj⟩
  | dead y a =>
    simp only [Sp.St.isCl]
    rw [h.2]
    revert hc; cases c <;> simp [kname]

set_option maxHeartbeats 1000000 in
theorem rname_any {b : Nat} {s : ByteArray} {d k : Nat} {c : Ct} {σ : Sp.St} {w : World} (h : RS b s d k c σ w) (k' : Nat) (hle : k' ≤ k + 1) (hk' : far s.data.toList σ + k' ≤ far s.data.toList (σ.nameT s.data.toList) + k) :
    Calls Tryz.prog 64 #[.pointer (some ⟨b, 0, none⟩)] w fun r w' => ∃ (t : ByteArray) (n : Int), r = .returned (.tuple #[.string t, .int .i64 n]) ∧ RS b s d k' c (σ.nameT s.data.toList) w' ∧ RK b w w' := by
  obtain ⟨hs, x, hc, ho, ht⟩ := h
  have hcl := rt_cl ht .name (by decide)
  have HP : Hid (RS b s d k c σ w) := ⟨hs, x, hc, ho, ht⟩
  have HK : Hid (far s.data.toList σ + k' ≤ far s.data.toList (σ.nameT s.data.toList) + k) := hk'
  clear hk'
  have c1 := hc.c1
  have c2 := hc.c2
  have c3 := hc.c3
  clear hc ho ht
  cases hn : σ.isCl s.data.toList .name
  · have HV : Hid (σ.nameT s.data.toList = σ.fail s.data.toList 2) := by show _ = _; rw [Sp.St.nameT, hn]; rfl
    have hk : (x.kd.toList == [110, 97, 109, 101]) = false := by rw [hn] at hcl; exact hcl.symm
    clear hcl hn
    go_enter Tryz.func64, Tryz.ntmps64
    go_wp2_with fail
    refine (rfail_any HP.out 2 (by decide) k' (by rw [← HV.out]; exact HK.out)).mono ?_
    rintro r w2 ⟨rfl, hp2, hk2⟩
    have HP2 : Hid (RS b s d k' c (σ.fail s.data.toList 2) w2) := hp2
    have HK2 : Hid (RK b w w2) := hk2
    clear hp2 hk2
    go_wp2_with fail
    go_ret2
    exact ⟨_, _, rfl, by rw [HV.out]; exact HP2.out, HK2.out⟩
  · have HV : Hid (σ.nameT s.data.toList = σ.step s.data.toList) := by show _ = _; rw [Sp.St.nameT, hn]; rfl
    have hk : (x.kd.toList == [110, 97, 109, 101]) = true := by rw [hn] at hcl; exact hcl.symm
    have HN : Hid (σ.isCl s.data.toList .name = true) := hn
    clear hcl hn
    go_enter Tryz.func64, Tryz.ntmps64
    go_wp2_with fail
    refine (rstep_cl HP.out HN.out (by decide) (by decide)).mono ?_
    rintro r w2 ⟨rfl, hp2, hk2⟩
    have HP2 : Hid (RS b s d (k + 1) c (σ.step s.data.toList) w2) := hp2
    have HK2 : Hid (RK b w w2) := hk2
    clear hp2 hk2
    go_wp2_with fail
    go_ret2
    exact ⟨_, _, rfl, by rw [HV.out]; exact HP2.out.weak hle, HK2.out⟩

/-- One thing more is open, or one less. -/
theorem RS.deep {b : Nat} {s : ByteArray} {d k d' : Nat} {c : Ct} {σ : Sp.St} {w : World} (h : RS b s d k c σ w) (q : Int) (hq : q = (d' : Int)) : RS b s d' k c σ (w.setCell ⟨b, 6, none⟩ (.int .i64 q)) := by
  obtain ⟨hs, x, hc, ho, ht⟩ := h
  exact ⟨hs, x, hc.s6 d' q hq, ho.set 6 _, ht⟩

theorem RO.wk {b : Nat} {s : Sp.Bs} {k k' : Nat} {c : Ct} {σ : Sp.St} {x : RD} {w : World} (h : RO b s k c σ x w) (hk : k' ≤ k) : RO b s k' c σ x w := h.far (by omega)

set_option maxHeartbeats 1000000 in
theorem ropen_any {b : Nat} {s : ByteArray} {d k : Nat} {c : Ct} {σ : Sp.St} {w : World} {z : Sp.Bs} (h : RS b s d k c σ w) (hz : σ.is s.data.toList z = true) (hd : d ≤ 1000000) :
    Calls Tryz.prog 244 #[.pointer (some ⟨b, 0, none⟩)] w (RP b s (d + 1) (k + 1) c (σ.openT s.data.toList d) w) := by
  obtain ⟨hs, x, hc, ho, ht⟩ := h
  have c6 := hc.c6
  have f6 := hc.fz 6
  have HP : Hid (RS b s (d + 1) k c σ (w.setCell ⟨b, 6, none⟩ (.int .i64 ((d : Int) + 1)))) := RS.deep ⟨hs, x, hc, ho, ht⟩ _ rfl
  have HZ : Hid (σ.is s.data.toList z = true) := hz
  have HFF : Hid (far s.data.toList σ + (k + 1) ≤ far s.data.toList (σ.fail s.data.toList 3) + k) := by
    obtain ⟨e, rfl, _⟩ := is_live hz
    have := far_failL (s := s.data.toList) (e := e) (x := 3)
    show _ ≤ _
    omega
  clear hc ho ht hz
  by_cases h16 : 16 < d + 1
  · have HV : Hid (σ.openT s.data.toList d = σ.fail s.data.toList 3) := by show _ = _; rw [Sp.St.openT, if_pos h16]
    go_enter Tryz.func244, Tryz.ntmps244
    go_wp2_with fail
    refine (rfail_any HP.out 3 (by decide) (k + 1) HFF.out).mono ?_
    rintro r w2 ⟨rfl, hp2, hk2⟩
    have HP2 : Hid (RS b s (d + 1) (k + 1) c (σ.fail s.data.toList 3) w2) := hp2
    have HK2 : Hid (RK b w w2) := ((RK.refl b w).set 6 (by decide) _).trans hk2
    clear hp2 hk2
    go_wp2_with fail
    exact bodyPost_ret (v := .tuple #[]) (by simp [results, Tryz.results244, go_sem]) rfl ⟨rfl, by rw [HV.out]; exact HP2.out, HK2.out⟩
  · have HV : Hid (σ.openT s.data.toList d = σ.step s.data.toList) := by show _ = _; rw [Sp.St.openT, if_neg h16]
    go_enter Tryz.func244, Tryz.ntmps244
    go_wp2_with fail
    refine (rstep_is HP.out HZ.out).mono ?_
    rintro r w2 ⟨rfl, hp2, hk2⟩
    have HP2 : Hid (RS b s (d + 1) (k + 1) c (σ.step s.data.toList) w2) := hp2
    have HK2 : Hid (RK b w w2) := ((RK.refl b w).set 6 (by decide) _).trans hk2
    clear hp2 hk2
    go_wp2_with fail
    go_end0
    exact ⟨rfl, by rw [HV.out]; exact HP2.out, HK2.out⟩
end Go.Proofs.YtgnncnhkgmhngaaGreatDoor
