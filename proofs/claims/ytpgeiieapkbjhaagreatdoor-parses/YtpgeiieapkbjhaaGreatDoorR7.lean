import Derived.Test.YtpgeiieapkbjhaaGreatDoorR6
namespace Go.Proofs.YtpgeiieapkbjhaaGreatDoor
open Go.RowKit

/-- The blocks that are the reader's: his own, and those of his five lists. -/
def FP (b : Nat) (w : World) (k : Nat) : Prop := k = b ∨ ∃ o v, (o = 12 ∨ o = 13 ∨ o = 14 ∨ o = 19 ∨ o = 20) ∧ w.cell? ⟨b, o, none⟩ = some v ∧ v.ownBlock = some k

/-- Of what was there nothing but the reader's blocks has turned; what is the reader's now was so, or is new. -/
structure RK (b : Nat) (w w' : World) : Prop where
  os : w'.os = w.os
  tape : w'.tape = w.tape
  output : w'.output = w.output
  size : w.heap.size ≤ w'.heap.size
  block : ∀ k, k < w.heap.size → ¬ FP b w k → w'.heap[k]? = w.heap[k]?
  fp : ∀ k, FP b w' k → FP b w k ∨ w.heap.size ≤ k

theorem RK.refl (b : Nat) (w : World) : RK b w w := ⟨rfl, rfl, rfl, Nat.le_refl _, fun _ _ _ => rfl, fun _ h => Or.inl h⟩
theorem RK.trans {b : Nat} {x y z : World} (h : RK b x y) (k : RK b y z) : RK b x z := by
  refine ⟨k.os.trans h.os, k.tape.trans h.tape, k.output.trans h.output, Nat.le_trans h.size k.size, fun i hi hf => ?_, fun i hi => ?_⟩
  · refine (k.block i (Nat.lt_of_lt_of_le hi h.size) ?_).trans (h.block i hi hf)
    intro hy
    rcases h.fp i hy with x | x
    · exact hf x
    · omega
  · rcases k.fp i hi with x | x
    · exact h.fp i x
    · exact Or.inr (Nat.le_trans h.size x)
theorem FP.same {b : Nat} {w w' : World} (hb : w'.heap[b]? = w.heap[b]?) {k : Nat} (h : FP b w' k) : FP b w k := by
  rcases h with h | ⟨o, v, ho, hc, hv⟩
  · exact Or.inl h
  · exact Or.inr ⟨o, v, ho, by rw [← World.cell?_of_block (w := w) (a := ⟨b, o, none⟩) hb]; exact hc, hv⟩
theorem RK.below {b : Nat} {w w' : World} (h : Below w.heap.size w w') (hb : b < w.heap.size) : RK b w w' :=
  ⟨h.os, h.tape, h.output, h.size, fun k hk _ => h.block k hk, fun _ hk => Or.inl (hk.same (h.block b hb))⟩
/-- A cell of the reader's that is none of the five. -/
theorem RK.set {b : Nat} {a w : World} (h : RK b a w) (o : Nat) (ho : o ≠ 12 ∧ o ≠ 13 ∧ o ≠ 14 ∧ o ≠ 19 ∧ o ≠ 20) (u : Value) : RK b a (w.setCell ⟨b, o, none⟩ u) := by
  refine h.trans ⟨rfl, rfl, rfl, by simp [World.setCell], fun k _ hf => Below.heap_setCell _ _ _ _ (fun e => hf (Or.inl e)), fun k hk => Or.inl ?_⟩
  rcases hk with hk | ⟨p, v, hp, hc, hv⟩
  · exact Or.inl hk
  · refine Or.inr ⟨p, v, hp, ?_, hv⟩
    rw [World.cell?_setCell_other _ _ _ _ (by intro e; injection e with e1 e2; omega)] at hc
    exact hc
/-- A block of one's own. -/
theorem RK.new {b : Nat} {a w : World} (h : RK b a w) (hb : b < a.heap.size) {p : Addr} (hp : a.heap.size ≤ p.block) (u : Value) : RK b a (w.setCell p u) := by
  refine ⟨h.os, h.tape, h.output, by simpa [World.setCell] using h.size, fun k hk hf => (Below.heap_setCell _ _ _ _ (by omega)).trans (h.block k hk hf), fun k hk => ?_⟩
  exact h.fp k (hk.same (Below.heap_setCell _ _ _ _ (by omega)))
/-- A block that is not the reader's keeps what it holds. -/
theorem RK.keeps {b : Nat} {w w' : World} (h : RK b w w') {p : Addr} (hp : p.block < w.heap.size) (hf : ¬ FP b w p.block) : w'.cell? p = w.cell? p := World.cell?_of_block (w := w) (h.block p.block hp hf)
theorem RK.keepsF {b : Nat} {w w' : World} (h : RK b w w') {p : Addr} (hp : p.block < w.heap.size) (hf : ¬ FP b w p.block) : w'.frozen? p = w.frozen? p := World.frozen?_of_block (w := w) (h.block p.block hp hf)
theorem RK.notfp {b : Nat} {w w' : World} (h : RK b w w') {k : Nat} (hk : k < w.heap.size) (hf : ¬ FP b w k) : ¬ FP b w' k := by
  intro hy
  rcases h.fp k hy with x | x
  · exact hf x
  · omega

theorem cset {w : World} {b o : Nat} {u : Value} (h : w.cell? ⟨b, o, none⟩ = some u) (v : Value) : (w.setCell ⟨b, o, none⟩ v).cell? ⟨b, o, none⟩ = some v := World.cell?_setCell_same _ _ _ h
theorem coth {w : World} {b o p : Nat} {u : Value} (h : w.cell? ⟨b, p, none⟩ = some u) (hne : o ≠ p) (v : Value) : (w.setCell ⟨b, o, none⟩ v).cell? ⟨b, p, none⟩ = some u :=
  (World.cell?_setCell_other _ _ _ _ (by intro e; injection e with e1 e2; omega)).trans h
theorem fset {w : World} {b : Nat} (h : ∀ o, w.frozen? ⟨b, o, none⟩ = false) (a : Addr) (v : Value) : ∀ o, (w.setCell a v).frozen? ⟨b, o, none⟩ = false := fun o => by rw [World.frozen?_setCell]; exact h o

theorem RC.s1 {b : Nat} {s : ByteArray} {x : RD} {d e a : Nat} {w : World} (h : RC b s x d e a w) (v : ByteArray) : RC b s { x with kd := v } d e a (w.setCell ⟨b, 1, none⟩ (.string v)) := by
  exact ⟨by simpa using h.lb, coth h.c0 (by decide) _, cset h.c1 _, coth h.c2 (by decide) _, coth h.c3 (by decide) _, coth h.c4 (by decide) _, coth h.c5 (by decide) _, coth h.c6 (by decide) _, coth h.c7 (by decide) _, coth h.c8 (by decide) _, coth h.c9 (by decide) _, coth h.c10 (by decide) _, coth h.c11 (by decide) _, coth h.c12 (by decide) _, coth h.c13 (by decide) _, coth h.c14 (by decide) _, coth h.c15 (by decide) _, coth h.c16 (by decide) _, coth h.c17 (by decide) _, coth h.c18 (by decide) _, coth h.c19 (by decide) _, coth h.c20 (by decide) _, fset h.fz _ _⟩
theorem RC.s2 {b : Nat} {s : ByteArray} {x : RD} {d e a : Nat} {w : World} (h : RC b s x d e a w) (v : Int) : RC b s { x with ta := v } d e a (w.setCell ⟨b, 2, none⟩ (.int .i64 v)) := by
  exact ⟨by simpa using h.lb, coth h.c0 (by decide) _, coth h.c1 (by decide) _, cset h.c2 _, coth h.c3 (by decide) _, coth h.c4 (by decide) _, coth h.c5 (by decide) _, coth h.c6 (by decide) _, coth h.c7 (by decide) _, coth h.c8 (by decide) _, coth h.c9 (by decide) _, coth h.c10 (by decide) _, coth h.c11 (by decide) _, coth h.c12 (by decide) _, coth h.c13 (by decide) _, coth h.c14 (by decide) _, coth h.c15 (by decide) _, coth h.c16 (by decide) _, coth h.c17 (by decide) _, coth h.c18 (by decide) _, coth h.c19 (by decide) _, coth h.c20 (by decide) _, fset h.fz _ _⟩
theorem RC.s3 {b : Nat} {s : ByteArray} {x : RD} {d e a : Nat} {w : World} (h : RC b s x d e a w) (v : ByteArray) : RC b s { x with ts := v } d e a (w.setCell ⟨b, 3, none⟩ (.string v)) := by
  exact ⟨by simpa using h.lb, coth h.c0 (by decide) _, coth h.c1 (by decide) _, coth h.c2 (by decide) _, cset h.c3 _, coth h.c4 (by decide) _, coth h.c5 (by decide) _, coth h.c6 (by decide) _, coth h.c7 (by decide) _, coth h.c8 (by decide) _, coth h.c9 (by decide) _, coth h.c10 (by decide) _, coth h.c11 (by decide) _, coth h.c12 (by decide) _, coth h.c13 (by decide) _, coth h.c14 (by decide) _, coth h.c15 (by decide) _, coth h.c16 (by decide) _, coth h.c17 (by decide) _, coth h.c18 (by decide) _, coth h.c19 (by decide) _, coth h.c20 (by decide) _, fset h.fz _ _⟩
theorem RC.s4 {b : Nat} {s : ByteArray} {x : RD} {d e a : Nat} {w : World} (h : RC b s x d e a w) (v : Int) : RC b s { x with tn := v } d e a (w.setCell ⟨b, 4, none⟩ (.int .i64 v)) := by
  exact ⟨by simpa using h.lb, coth h.c0 (by decide) _, coth h.c1 (by decide) _, coth h.c2 (by decide) _, coth h.c3 (by decide) _, cset h.c4 _, coth h.c5 (by decide) _, coth h.c6 (by decide) _, coth h.c7 (by decide) _, coth h.c8 (by decide) _, coth h.c9 (by decide) _, coth h.c10 (by decide) _, coth h.c11 (by decide) _, coth h.c12 (by decide) _, coth h.c13 (by decide) _, coth h.c14 (by decide) _, coth h.c15 (by decide) _, coth h.c16 (by decide) _, coth h.c17 (by decide) _, coth h.c18 (by decide) _, coth h.c19 (by decide) _, coth h.c20 (by decide) _, fset h.fz _ _⟩
theorem RC.s5 {b : Nat} {s : ByteArray} {x : RD} {d e a : Nat} {w : World} (h : RC b s x d e a w) (v : Int) : RC b s { x with en := v } d e a (w.setCell ⟨b, 5, none⟩ (.int .i64 v)) := by
  exact ⟨by simpa using h.lb, coth h.c0 (by decide) _, coth h.c1 (by decide) _, coth h.c2 (by decide) _, coth h.c3 (by decide) _, coth h.c4 (by decide) _, cset h.c5 _, coth h.c6 (by decide) _, coth h.c7 (by decide) _, coth h.c8 (by decide) _, coth h.c9 (by decide) _, coth h.c10 (by decide) _, coth h.c11 (by decide) _, coth h.c12 (by decide) _, coth h.c13 (by decide) _, coth h.c14 (by decide) _, coth h.c15 (by decide) _, coth h.c16 (by decide) _, coth h.c17 (by decide) _, coth h.c18 (by decide) _, coth h.c19 (by decide) _, coth h.c20 (by decide) _, fset h.fz _ _⟩
theorem RC.s6 {b : Nat} {s : ByteArray} {x : RD} {d e a : Nat} {w : World} (h : RC b s x d e a w) (d' : Nat) (q : Int) (hq : q = (d' : Int)) : RC b s x d' e a (w.setCell ⟨b, 6, none⟩ (.int .i64 q)) := by
  subst hq; exact ⟨by simpa using h.lb, coth h.c0 (by decide) _, coth h.c1 (by decide) _, coth h.c2 (by decide) _, coth h.c3 (by decide) _, coth h.c4 (by decide) _, coth h.c5 (by decide) _, cset h.c6 _, coth h.c7 (by decide) _, coth h.c8 (by decide) _, coth h.c9 (by decide) _, coth h.c10 (by decide) _, coth h.c11 (by decide) _, coth h.c12 (by decide) _, coth h.c13 (by decide) _, coth h.c14 (by decide) _, coth h.c15 (by decide) _, coth h.c16 (by decide) _, coth h.c17 (by decide) _, coth h.c18 (by decide) _, coth h.c19 (by decide) _, coth h.c20 (by decide) _, fset h.fz _ _⟩
theorem RC.s7 {b : Nat} {s : ByteArray} {x : RD} {d e a : Nat} {w : World} (h : RC b s x d e a w) (e' : Nat) (q : Int) (hq : q = (e' : Int)) : RC b s x d e' a (w.setCell ⟨b, 7, none⟩ (.int .i64 q)) := by
  subst hq; exact ⟨by simpa using h.lb, coth h.c0 (by decide) _, coth h.c1 (by decide) _, coth h.c2 (by decide) _, coth h.c3 (by decide) _, coth h.c4 (by decide) _, coth h.c5 (by decide) _, coth h.c6 (by decide) _, cset h.c7 _, coth h.c8 (by decide) _, coth h.c9 (by decide) _, coth h.c10 (by decide) _, coth h.c11 (by decide) _, coth h.c12 (by decide) _, coth h.c13 (by decide) _, coth h.c14 (by decide) _, coth h.c15 (by decide) _, coth h.c16 (by decide) _, coth h.c17 (by decide) _, coth h.c18 (by decide) _, coth h.c19 (by decide) _, coth h.c20 (by decide) _, fset h.fz _ _⟩
theorem RC.s8 {b : Nat} {s : ByteArray} {x : RD} {d e a : Nat} {w : World} (h : RC b s x d e a w) (a' : Nat) (q : Int) (hq : q = (a' : Int)) : RC b s x d e a' (w.setCell ⟨b, 8, none⟩ (.int .i64 q)) := by
  subst hq; exact ⟨by simpa using h.lb, coth h.c0 (by decide) _, coth h.c1 (by decide) _, coth h.c2 (by decide) _, coth h.c3 (by decide) _, coth h.c4 (by decide) _, coth h.c5 (by decide) _, coth h.c6 (by decide) _, coth h.c7 (by decide) _, cset h.c8 _, coth h.c9 (by decide) _, coth h.c10 (by decide) _, coth h.c11 (by decide) _, coth h.c12 (by decide) _, coth h.c13 (by decide) _, coth h.c14 (by decide) _, coth h.c15 (by decide) _, coth h.c16 (by decide) _, coth h.c17 (by decide) _, coth h.c18 (by decide) _, coth h.c19 (by decide) _, coth h.c20 (by decide) _, fset h.fz _ _⟩
theorem RC.s9 {b : Nat} {s : ByteArray} {x : RD} {d e a : Nat} {w : World} (h : RC b s x d e a w) (v : ByteArray) : RC b s { x with does := v } d e a (w.setCell ⟨b, 9, none⟩ (.string v)) := by
  exact ⟨by simpa using h.lb, coth h.c0 (by decide) _, coth h.c1 (by decide) _, coth h.c2 (by decide) _, coth h.c3 (by decide) _, coth h.c4 (by decide) _, coth h.c5 (by decide) _, coth h.c6 (by decide) _, coth h.c7 (by decide) _, coth h.c8 (by decide) _, cset h.c9 _, coth h.c10 (by decide) _, coth h.c11 (by decide) _, coth h.c12 (by decide) _, coth h.c13 (by decide) _, coth h.c14 (by decide) _, coth h.c15 (by decide) _, coth h.c16 (by decide) _, coth h.c17 (by decide) _, coth h.c18 (by decide) _, coth h.c19 (by decide) _, coth h.c20 (by decide) _, fset h.fz _ _⟩
theorem RC.s10 {b : Nat} {s : ByteArray} {x : RD} {d e a : Nat} {w : World} (h : RC b s x d e a w) (v : ByteArray) : RC b s { x with table := v } d e a (w.setCell ⟨b, 10, none⟩ (.string v)) := by
  exact ⟨by simpa using h.lb, coth h.c0 (by decide) _, coth h.c1 (by decide) _, coth h.c2 (by decide) _, coth h.c3 (by decide) _, coth h.c4 (by decide) _, coth h.c5 (by decide) _, coth h.c6 (by decide) _, coth h.c7 (by decide) _, coth h.c8 (by decide) _, coth h.c9 (by decide) _, cset h.c10 _, coth h.c11 (by decide) _, coth h.c12 (by decide) _, coth h.c13 (by decide) _, coth h.c14 (by decide) _, coth h.c15 (by decide) _, coth h.c16 (by decide) _, coth h.c17 (by decide) _, coth h.c18 (by decide) _, coth h.c19 (by decide) _, coth h.c20 (by decide) _, fset h.fz _ _⟩
theorem RC.s11 {b : Nat} {s : ByteArray} {x : RD} {d e a : Nat} {w : World} (h : RC b s x d e a w) (v : Int) : RC b s { x with at_ := v } d e a (w.setCell ⟨b, 11, none⟩ (.int .i64 v)) := by
  exact ⟨by simpa using h.lb, coth h.c0 (by decide) _, coth h.c1 (by decide) _, coth h.c2 (by decide) _, coth h.c3 (by decide) _, coth h.c4 (by decide) _, coth h.c5 (by decide) _, coth h.c6 (by decide) _, coth h.c7 (by decide) _, coth h.c8 (by decide) _, coth h.c9 (by decide) _, coth h.c10 (by decide) _, cset h.c11 _, coth h.c12 (by decide) _, coth h.c13 (by decide) _, coth h.c14 (by decide) _, coth h.c15 (by decide) _, coth h.c16 (by decide) _, coth h.c17 (by decide) _, coth h.c18 (by decide) _, coth h.c19 (by decide) _, coth h.c20 (by decide) _, fset h.fz _ _⟩
theorem RC.s12 {b : Nat} {s : ByteArray} {x : RD} {d e a : Nat} {w : World} (h : RC b s x d e a w) (v : Value) : RC b s { x with vc := v } d e a (w.setCell ⟨b, 12, none⟩ (v)) := by
  exact ⟨by simpa using h.lb, coth h.c0 (by decide) _, coth h.c1 (by decide) _, coth h.c2 (by decide) _, coth h.c3 (by decide) _, coth h.c4 (by decide) _, coth h.c5 (by decide) _, coth h.c6 (by decide) _, coth h.c7 (by decide) _, coth h.c8 (by decide) _, coth h.c9 (by decide) _, coth h.c10 (by decide) _, coth h.c11 (by decide) _, cset h.c12 _, coth h.c13 (by decide) _, coth h.c14 (by decide) _, coth h.c15 (by decide) _, coth h.c16 (by decide) _, coth h.c17 (by decide) _, coth h.c18 (by decide) _, coth h.c19 (by decide) _, coth h.c20 (by decide) _, fset h.fz _ _⟩
theorem RC.s13 {b : Nat} {s : ByteArray} {x : RD} {d e a : Nat} {w : World} (h : RC b s x d e a w) (v : Value) : RC b s { x with vr := v } d e a (w.setCell ⟨b, 13, none⟩ (v)) := by
  exact ⟨by simpa using h.lb, coth h.c0 (by decide) _, coth h.c1 (by decide) _, coth h.c2 (by decide) _, coth h.c3 (by decide) _, coth h.c4 (by decide) _, coth h.c5 (by decide) _, coth h.c6 (by decide) _, coth h.c7 (by decide) _, coth h.c8 (by decide) _, coth h.c9 (by decide) _, coth h.c10 (by decide) _, coth h.c11 (by decide) _, coth h.c12 (by decide) _, cset h.c13 _, coth h.c14 (by decide) _, coth h.c15 (by decide) _, coth h.c16 (by decide) _, coth h.c17 (by decide) _, coth h.c18 (by decide) _, coth h.c19 (by decide) _, coth h.c20 (by decide) _, fset h.fz _ _⟩
theorem RC.s14 {b : Nat} {s : ByteArray} {x : RD} {d e a : Nat} {w : World} (h : RC b s x d e a w) (v : Value) : RC b s { x with vg := v } d e a (w.setCell ⟨b, 14, none⟩ (v)) := by
  exact ⟨by simpa using h.lb, coth h.c0 (by decide) _, coth h.c1 (by decide) _, coth h.c2 (by decide) _, coth h.c3 (by decide) _, coth h.c4 (by decide) _, coth h.c5 (by decide) _, coth h.c6 (by decide) _, coth h.c7 (by decide) _, coth h.c8 (by decide) _, coth h.c9 (by decide) _, coth h.c10 (by decide) _, coth h.c11 (by decide) _, coth h.c12 (by decide) _, coth h.c13 (by decide) _, cset h.c14 _, coth h.c15 (by decide) _, coth h.c16 (by decide) _, coth h.c17 (by decide) _, coth h.c18 (by decide) _, coth h.c19 (by decide) _, coth h.c20 (by decide) _, fset h.fz _ _⟩
theorem RC.s15 {b : Nat} {s : ByteArray} {x : RD} {d e a : Nat} {w : World} (h : RC b s x d e a w) (v : Int) : RC b s { x with wh := v } d e a (w.setCell ⟨b, 15, none⟩ (.int .i64 v)) := by
  exact ⟨by simpa using h.lb, coth h.c0 (by decide) _, coth h.c1 (by decide) _, coth h.c2 (by decide) _, coth h.c3 (by decide) _, coth h.c4 (by decide) _, coth h.c5 (by decide) _, coth h.c6 (by decide) _, coth h.c7 (by decide) _, coth h.c8 (by decide) _, coth h.c9 (by decide) _, coth h.c10 (by decide) _, coth h.c11 (by decide) _, coth h.c12 (by decide) _, coth h.c13 (by decide) _, coth h.c14 (by decide) _, cset h.c15 _, coth h.c16 (by decide) _, coth h.c17 (by decide) _, coth h.c18 (by decide) _, coth h.c19 (by decide) _, coth h.c20 (by decide) _, fset h.fz _ _⟩
theorem RC.s16 {b : Nat} {s : ByteArray} {x : RD} {d e a : Nat} {w : World} (h : RC b s x d e a w) (v : Int) : RC b s { x with wa := v } d e a (w.setCell ⟨b, 16, none⟩ (.int .i64 v)) := by
  exact ⟨by simpa using h.lb, coth h.c0 (by decide) _, coth h.c1 (by decide) _, coth h.c2 (by decide) _, coth h.c3 (by decide) _, coth h.c4 (by decide) _, coth h.c5 (by decide) _, coth h.c6 (by decide) _, coth h.c7 (by decide) _, coth h.c8 (by decide) _, coth h.c9 (by decide) _, coth h.c10 (by decide) _, coth h.c11 (by decide) _, coth h.c12 (by decide) _, coth h.c13 (by decide) _, coth h.c14 (by decide) _, coth h.c15 (by decide) _, cset h.c16 _, coth h.c17 (by decide) _, coth h.c18 (by decide) _, coth h.c19 (by decide) _, coth h.c20 (by decide) _, fset h.fz _ _⟩
theorem RC.s17 {b : Nat} {s : ByteArray} {x : RD} {d e a : Nat} {w : World} (h : RC b s x d e a w) (v : Int) : RC b s { x with q := v } d e a (w.setCell ⟨b, 17, none⟩ (.int .i64 v)) := by
  exact ⟨by simpa using h.lb, coth h.c0 (by decide) _, coth h.c1 (by decide) _, coth h.c2 (by decide) _, coth h.c3 (by decide) _, coth h.c4 (by decide) _, coth h.c5 (by decide) _, coth h.c6 (by decide) _, coth h.c7 (by decide) _, coth h.c8 (by decide) _, coth h.c9 (by decide) _, coth h.c10 (by decide) _, coth h.c11 (by decide) _, coth h.c12 (by decide) _, coth h.c13 (by decide) _, coth h.c14 (by decide) _, coth h.c15 (by decide) _, coth h.c16 (by decide) _, cset h.c17 _, coth h.c18 (by decide) _, coth h.c19 (by decide) _, coth h.c20 (by decide) _, fset h.fz _ _⟩
theorem RC.s18 {b : Nat} {s : ByteArray} {x : RD} {d e a : Nat} {w : World} (h : RC b s x d e a w) (v : Int) : RC b s { x with ia := v } d e a (w.setCell ⟨b, 18, none⟩ (.int .i64 v)) := by
  exact ⟨by simpa using h.lb, coth h.c0 (by decide) _, coth h.c1 (by decide) _, coth h.c2 (by decide) _, coth h.c3 (by decide) _, coth h.c4 (by decide) _, coth h.c5 (by decide) _, coth h.c6 (by decide) _, coth h.c7 (by decide) _, coth h.c8 (by decide) _, coth h.c9 (by decide) _, coth h.c10 (by decide) _, coth h.c11 (by decide) _, coth h.c12 (by decide) _, coth h.c13 (by decide) _, coth h.c14 (by decide) _, coth h.c15 (by decide) _, coth h.c16 (by decide) _, coth h.c17 (by decide) _, cset h.c18 _, coth h.c19 (by decide) _, coth h.c20 (by decide) _, fset h.fz _ _⟩
theorem RC.s19 {b : Nat} {s : ByteArray} {x : RD} {d e a : Nat} {w : World} (h : RC b s x d e a w) (v : Value) : RC b s { x with vn := v } d e a (w.setCell ⟨b, 19, none⟩ (v)) := by
  exact ⟨by simpa using h.lb, coth h.c0 (by decide) _, coth h.c1 (by decide) _, coth h.c2 (by decide) _, coth h.c3 (by decide) _, coth h.c4 (by decide) _, coth h.c5 (by decide) _, coth h.c6 (by decide) _, coth h.c7 (by decide) _, coth h.c8 (by decide) _, coth h.c9 (by decide) _, coth h.c10 (by decide) _, coth h.c11 (by decide) _, coth h.c12 (by decide) _, coth h.c13 (by decide) _, coth h.c14 (by decide) _, coth h.c15 (by decide) _, coth h.c16 (by decide) _, coth h.c17 (by decide) _, coth h.c18 (by decide) _, cset h.c19 _, coth h.c20 (by decide) _, fset h.fz _ _⟩
theorem RC.s20 {b : Nat} {s : ByteArray} {x : RD} {d e a : Nat} {w : World} (h : RC b s x d e a w) (v : Value) : RC b s { x with vq := v } d e a (w.setCell ⟨b, 20, none⟩ (v)) := by
  exact ⟨by simpa using h.lb, coth h.c0 (by decide) _, coth h.c1 (by decide) _, coth h.c2 (by decide) _, coth h.c3 (by decide) _, coth h.c4 (by decide) _, coth h.c5 (by decide) _, coth h.c6 (by decide) _, coth h.c7 (by decide) _, coth h.c8 (by decide) _, coth h.c9 (by decide) _, coth h.c10 (by decide) _, coth h.c11 (by decide) _, coth h.c12 (by decide) _, coth h.c13 (by decide) _, coth h.c14 (by decide) _, coth h.c15 (by decide) _, coth h.c16 (by decide) _, coth h.c17 (by decide) _, coth h.c18 (by decide) _, coth h.c19 (by decide) _, cset h.c20 _, fset h.fz _ _⟩

theorem RC.kept {b : Nat} {s : ByteArray} {x : RD} {d e a : Nat} {w w' : World} (h : RC b s x d e a w) (hb : w'.heap[b]? = w.heap[b]?) (hs : w.heap.size ≤ w'.heap.size) : RC b s x d e a w' := by
  have hc : ∀ o, w'.cell? ⟨b, o, none⟩ = w.cell? ⟨b, o, none⟩ := fun o => World.cell?_of_block (w := w) (a := ⟨b, o, none⟩) hb
  have hf : ∀ o, w'.frozen? ⟨b, o, none⟩ = w.frozen? ⟨b, o, none⟩ := fun o => World.frozen?_of_block (w := w) (a := ⟨b, o, none⟩) hb
  exact ⟨Nat.lt_of_lt_of_le h.lb hs, (hc 0).trans h.c0, (hc 1).trans h.c1, (hc 2).trans h.c2, (hc 3).trans h.c3, (hc 4).trans h.c4, (hc 5).trans h.c5, (hc 6).trans h.c6, (hc 7).trans h.c7, (hc 8).trans h.c8, (hc 9).trans h.c9, (hc 10).trans h.c10, (hc 11).trans h.c11, (hc 12).trans h.c12, (hc 13).trans h.c13, (hc 14).trans h.c14, (hc 15).trans h.c15, (hc 16).trans h.c16, (hc 17).trans h.c17, (hc 18).trans h.c18, (hc 19).trans h.c19, (hc 20).trans h.c20, fun o => (hf o).trans (h.fz o)⟩

theorem Ow.set {b : Nat} {e : TypeId} {size : Nat} {v : Value} {n : Nat} {w : World} (h : Ow b e size v n w) (o : Nat) (u : Value) : Ow b e size v n (w.setCell ⟨b, o, none⟩ u) := by
  obtain ⟨xs, h⟩ := h
  exact ⟨xs, ownsRow_setCell_below h (by exact Nat.lt_succ_self b) u⟩
theorem Ow.below {b : Nat} {e : TypeId} {size : Nat} {v : Value} {n : Nat} {w w' : World} (h : Ow b e size v n w) (hb : Below w.heap.size w w') : Ow b e size v n w' := by
  obtain ⟨xs, h⟩ := h
  exact ⟨xs, owns_below h hb⟩

theorem RO.map {b : Nat} {s : Sp.Bs} {k k' : Nat} {c : Ct} {σ σ' : Sp.St} {x : RD} {w w' : World} (h : RO b s k c σ x w) (f : ∀ e size v n, Ow b e size v n w → Ow b e size v n w') (hf : far s σ + k' ≤ far s σ' + k) : RO b s k' c σ' x w' := by
  obtain ⟨oc, a1, a2, ⟨n3, a3, b3⟩, ⟨n4, a4, b4⟩⟩ := h
  exact ⟨f _ _ _ _ oc, f _ _ _ _ a1, f _ _ _ _ a2, ⟨n3, f _ _ _ _ a3, by omega⟩, ⟨n4, f _ _ _ _ a4, by omega⟩⟩
theorem RO.set {b : Nat} {s : Sp.Bs} {k : Nat} {c : Ct} {σ : Sp.St} {x : RD} {w : World} (h : RO b s k c σ x w) (o : Nat) (u : Value) : RO b s k c σ x (w.setCell ⟨b, o, none⟩ u) := h.map (fun _ _ _ _ h => h.set o u) (Nat.le_refl _)
theorem RO.below {b : Nat} {s : Sp.Bs} {k : Nat} {c : Ct} {σ : Sp.St} {x : RD} {w w' : World} (h : RO b s k c σ x w) (hb : Below w.heap.size w w') : RO b s k c σ x w' := h.map (fun _ _ _ _ h => h.below hb) (Nat.le_refl _)
theorem RO.far {b : Nat} {s : Sp.Bs} {k k' : Nat} {c : Ct} {σ σ' : Sp.St} {x : RD} {w : World} (h : RO b s k c σ x w) (hf : Proofs.YtpgeiieapkbjhaaGreatDoor.far s σ + k' ≤ Proofs.YtpgeiieapkbjhaaGreatDoor.far s σ' + k) : RO b s k' c σ' x w := h.map (fun _ _ _ _ h => h) hf
theorem RS.weak {b : Nat} {s : ByteArray} {d k k' : Nat} {c : Ct} {σ : Sp.St} {w : World} (h : RS b s d k c σ w) (hk : k' ≤ k) : RS b s d k' c σ w := by
  obtain ⟨h1, x, hc, ho, ht⟩ := h
  exact ⟨h1, x, hc, ho.far (by omega), ht⟩

theorem RS.below {b : Nat} {s : ByteArray} {d k : Nat} {c : Ct} {σ : Sp.St} {w w' : World} (h : RS b s d k c σ w) (hb : Below w.heap.size w w') : RS b s d k c σ w' := by
  obtain ⟨h1, x, hc, ho, ht⟩ := h
  exact ⟨h1, x, hc.kept (hb.block b hc.lb) hb.size, ho.below hb, ht⟩
theorem RS.lb {b : Nat} {s : ByteArray} {d k : Nat} {c : Ct} {σ : Sp.St} {w : World} (h : RS b s d k c σ w) : b < w.heap.size := by
  obtain ⟨_, x, hc, _⟩ := h; exact hc.lb
theorem RS.alloc {b : Nat} {s : ByteArray} {d k : Nat} {c : Ct} {σ : Sp.St} {w : World} (h : RS b s d k c σ w) (o : Obj) : RS b s d k c σ (w.alloc o) := h.below ((Below.refl _ _).alloc (Nat.le_refl _) o)
theorem RS.drew {b : Nat} {s : ByteArray} {d k : Nat} {c : Ct} {σ : Sp.St} {w : World} (h : RS b s d k c σ w) : RS b s d k c σ w.drew := h.below (Below.refl _ _).drew
theorem RS.drewN {b : Nat} {s : ByteArray} {d k : Nat} {c : Ct} {σ : Sp.St} {w : World} (h : RS b s d k c σ w) (n : Nat) : RS b s d k c σ (w.drewN n) := h.below (below_drewN (Below.refl _ _) n)
theorem RK.alloc {b : Nat} {a w : World} (h : RK b a w) (hb : b < w.heap.size) (o : Obj) : RK b a (w.alloc o) := h.trans (RK.below ((Below.refl _ _).alloc (Nat.le_refl _) o) hb)
theorem RK.drew {b : Nat} {a w : World} (h : RK b a w) : RK b a w.drew := ⟨h.os, h.tape, h.output, h.size, h.block, h.fp⟩
theorem RK.drewN {b : Nat} {a w : World} (h : RK b a w) (n : Nat) : RK b a (w.drewN n) := ⟨h.os, h.tape, h.output, h.size, h.block, h.fp⟩

/-- The post of a call without a result; with an int. -/
def RP (b : Nat) (s : ByteArray) (d k : Nat) (c : Ct) (σ : Sp.St) (w : World) (r : Ending) (w' : World) : Prop := r = .returned (.tuple #[]) ∧ RS b s d k c σ w' ∧ RK b w w'
def RI (b : Nat) (s : ByteArray) (d k : Nat) (c : Ct) (σ : Sp.St) (w : World) (r : Ending) (w' : World) : Prop := ∃ n : Int, r = .returned (.int .i64 n) ∧ RS b s d k c σ w' ∧ RK b w w'
def RB (b : Nat) (s : ByteArray) (d k : Nat) (c : Ct) (σ : Sp.St) (t : Bool) (w : World) (r : Ending) (w' : World) : Prop := r = .returned (.bool t) ∧ RS b s d k c σ w' ∧ RK b w w'

theorem kname_key {c : Sp.Cl} (h : kname c = [107, 101, 121]) : c = .key := by cases c <;> simp [kname] at h ⊢
theorem rt_key {s : Sp.Bs} {x : RD} {σ : Sp.St} (h : RT s x σ) (z : Sp.Bs) : σ.is s z = (decide (x.kd.toList = [107, 101, 121]) && (x.ts.toList == z)) := by
  cases σ with
  | live e =>
    obtain ⟨_, h1, _, h3, _⟩ := h
    simp only [Sp.St.is]
    by_cases hk : Sp.tokCl s e = .key
    · rw [h3 hk, h1, hk]; rfl
    · have : ¬ x.kd.toList = [107, 101, 121] := by rw [h1]; exact fun h => hk (kname_key h)
      simp [hk, this]
  | dead y a =>
    have : ¬ x.kd.toList = [107, 101, 121] := by rw [h.2]; decide
    simp [Sp.St.is, this]

set_option maxHeartbeats 1000000 in
theorem ris_any {b : Nat} {s : ByteArray} {d k : Nat} {c : Ct} {σ : Sp.St} {w : World} (h : RS b s d k c σ w) (z : Sp.Bs) :
    Calls Tryz.prog 37 #[.pointer (some ⟨b, 0, none⟩), .string ⟨z.toArray⟩] w fun r w' => r = .returned (.bool (σ.is s.data.toList z)) ∧ w' = w := by
  obtain ⟨_, x, hc, _, ht⟩ := h
  have hk := rt_key ht z
  have c1 := hc.c1
  have c3 := hc.c3
  have hz : (ByteArray.mk z.toArray).toList = z := ByteArray.toList_mk z
  clear hc ht
  by_cases h1 : x.kd.toList = [107, 101, 121]
  · have HV : Hid (σ.is s.data.toList z = (x.ts.toList == z)) := by show _ = _; rw [hk, decide_eq_true h1]; rfl
    clear hk
    go_enter Tryz.func37, Tryz.ntmps37
    go_wp2_with fail
    go_ret
    exact ⟨ret_bool (by rw [HV.out]), rfl⟩
  · have HV : Hid (σ.is s.data.toList z = false) := by show _ = _; rw [hk, decide_eq_false h1]; rfl
    have hkb : (x.kd.toList == [107, 101, 121]) = false := by simpa using h1
    clear hk h1
    go_enter Tryz.func37, Tryz.ntmps37
    go_wp2_with fail
    go_ret
    exact ⟨ret_bool (by rw [HV.out]), rfl⟩
end Go.Proofs.YtpgeiieapkbjhaaGreatDoor
