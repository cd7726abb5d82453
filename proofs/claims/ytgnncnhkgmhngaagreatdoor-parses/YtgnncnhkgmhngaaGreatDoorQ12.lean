import Derived.Test.YtgnncnhkgmhngaaGreatDoorP2
import Derived.Laws.AppendOwn
import Derived.Below
import Derived.Test.YtgnncnhkgmhngaaGreatDoorQ9
import Derived.ArgAppend
import Derived.Deep.DeepMust
/-
  Slices that a call makes by append.
-/
namespace Go.Proofs.YtgnncnhkgmhngaaGreatDoor
open Go.RowKit

theorem owns_cells {w : World} {base : Nat} {e : TypeId} {size g n cap : Nat} {xs : List Value} (h : w.ownsRow base e size (.slice (some ⟨g, 0, none⟩) n cap) n xs) : ∀ j u, xs[j]? = some u → w.cell? ⟨g, j, none⟩ = some u := by
  obtain ⟨hl, h | ⟨g', cap', cur, hv, _, hb, _, _, _, ht⟩⟩ := h
  · cases h.1
  · injection hv with h1 h2 h3
    injection h1 with h1
    injection h1 with h1
    subst h1
    intro j u hj
    have hlt : j < xs.length := (List.getElem?_eq_some_iff.1 hj).1
    rw [← ht, List.getElem?_take_of_lt (by omega)] at hj
    simp [World.cell?, hb]
    simpa using hj
theorem owns_lt {w : World} {base : Nat} {e : TypeId} {size g n cap : Nat} {xs : List Value} (h : w.ownsRow base e size (.slice (some ⟨g, 0, none⟩) n cap) n xs) : base ≤ g ∧ g < w.heap.size := by
  obtain ⟨hl, h | ⟨g', cap', cur, hv, h0, hb, _, _, _, ht⟩⟩ := h
  · cases h.1
  · injection hv with h1 h2 h3
    injection h1 with h1
    injection h1 with h1
    subst h1
    refine ⟨h0, ?_⟩
    rcases Nat.lt_or_ge g w.heap.size with x | x
    · exact x
    · rw [Array.getElem?_eq_none x] at hb; cases hb
theorem owns_same {w w' : World} {base : Nat} {e : TypeId} {size g n cap : Nat} {xs : List Value} (h : w.ownsRow base e size (.slice (some ⟨g, 0, none⟩) n cap) n xs) (hk : w'.heap[g]? = w.heap[g]?) : w'.ownsRow base e size (.slice (some ⟨g, 0, none⟩) n cap) n xs := by
  obtain ⟨hl, h | ⟨g', cap', cur, hv, h0, hb, r⟩⟩ := h
  · cases h.1
  · injection hv with h1 h2 h3
    injection h1 with h1
    injection h1 with h1
    subst h1 h3
    exact ⟨hl, .inr ⟨g, cap, cur, rfl, h0, hk.trans hb, r⟩⟩

theorem ownsV_below {w w' : World} {base : Nat} {e : TypeId} {size : Nat} {v : Value} {n : Nat} {xs : List Value} (h : w.ownsRow base e size v n xs) (hb : Below w.heap.size w w') : w'.ownsRow base e size v n xs := by
  obtain ⟨h1, h2⟩ := h
  refine ⟨h1, ?_⟩
  rcases h2 with h | ⟨g, cap, cur, hv, hg, hc, r⟩
  · exact Or.inl h
  · refine Or.inr ⟨g, cap, cur, hv, hg, ?_, r⟩
    have hlt : g < w.heap.size := by
      rcases Nat.lt_or_ge g w.heap.size with x | x
      · exact x
      · rw [Array.getElem?_eq_none x] at hc; cases hc
    rw [hb.block g hlt]; exact hc
theorem ownsV_block {w : World} {base : Nat} {e : TypeId} {size : Nat} {v : Value} {n : Nat} {xs : List Value} (h : w.ownsRow base e size v n xs) : ∀ k, v.ownBlock = some k → base ≤ k ∧ k < w.heap.size := by
  intro k hk
  rcases h.2 with ⟨rfl, _⟩ | ⟨g, cap, cur, rfl, hg, hc, _⟩
  · cases hk
  · have : g = k := by simpa [Value.ownBlock] using hk
    subst this
    refine ⟨hg, ?_⟩
    rcases Nat.lt_or_ge g w.heap.size with x | x
    · exact x
    · rw [Array.getElem?_eq_none x] at hc; cases hc

theorem owns_cell {w : World} {base : Nat} {e : TypeId} {v : Value} {n : Nat} {xs : List Value} (h : w.ownsRow base e 1 v n xs) {g : Nat} (hg : v.ownBlock = some g) (i : Nat) (hi : i < xs.length) : w.cell? ⟨g, i, none⟩ = some xs[i] := by
  rcases h.2 with ⟨rfl, _⟩ | ⟨g', cap, cur, rfl, _, hc, _, _, _, ht⟩
  · cases hg
  · have : g' = g := by simpa [Value.ownBlock] using hg
    subst this
    have hl := h.1
    have e1 : xs[i]? = some xs[i] := List.getElem?_eq_getElem hi
    generalize xs[i] = u at e1 ⊢
    rw [← ht, List.getElem?_take] at e1
    simp only [World.cell?, hc]
    split at e1
    · simpa using e1
    · cases e1

theorem new1 (w : World) (x : Value) (t : TypeId) : ∀ j u, [x][j]? = some u → (w.alloc (.cells #[x] t)).cell? (Addr.add ⟨w.heap.size, 0, none⟩ j) = some u := by
  intro j u hj
  have e : Addr.add ⟨w.heap.size, 0, none⟩ j = ⟨w.heap.size, j, none⟩ := by
    simp only [Addr.add, Nat.zero_add]; split
    · rename_i h; rw [h]
    · rfl
  rw [e, World.cell?_alloc_new, ← hj]
  cases j <;> rfl
end Go.Proofs.YtgnncnhkgmhngaaGreatDoor

namespace Go.Proofs.YtgnncnhkgmhngaaGreatDoor
open Go.RowKit

/-- append, with what becomes of the block. -/
theorem wpList_append_two {P : Program} (w : World) {ops : Array Oper} {rest : List Oper} {o : Oper} {a : Act} {Q : Exit → Act → World → Prop}
    (hg : o.guard = none) (s x : Operand) (t : TypeId) (hop : o.op = Op.call { callee := Callee.builtin Builtin.append, args := #[s, x], argTypes := #[t, t] })
    (base : Nat) (e : TypeId) (i : TypeInfo) (z : Value) (size bytes : Nat) (h1 : P.underlying t = some (.slice e)) (h2 : P.info? e = some i) (h3 : i.zero = some z) (h4 : i.size = size) (h5 : i.bytes = bytes) (h6 : z.cells.size = size) (h7 : 0 < size)
    (g k cap : Nat) (xs : List Value) (hs : a.eval s = .slice (some ⟨g, 0, none⟩) k cap) (hown : w.ownsRow base e size (.slice (some ⟨g, 0, none⟩) k cap) k xs) (ad : Addr) (c : Nat) (news : List Value) (hx : a.eval x = .slice (some ad) 1 c) (hn : news.length = 1 * size)
    (hc : ∀ j u, news[j]? = some u → w.cell? (ad.add j) = some u) (h1c : ∀ u ∈ news, u.oneCell' = true) (b1 : k + 1 ≤ maxLen) (b2 : (k + 1) * bytes ≤ 140737488355328) (hb : base ≤ w.heap.size)
    (hK : ∀ g' cap' w', w'.ownsRow base e size (.slice (some ⟨g', 0, none⟩) (k + 1) cap') (k + 1) (xs ++ news) → w.grownBy w' (some g) → (g' = g ∨ w.heap.size ≤ g') → wpList P ops Q rest (a.put o.dst (.slice (some ⟨g', 0, none⟩) (k + 1) cap')) w') :
    wpList P ops Q (o :: rest) a w := by
  by_cases hr : k + 1 ≤ cap
  · exact wpList_append_fits w hg s x t hop base e i size h1 h2 h4 g k cap xs hs hown ad 1 c news hx hn hc h1c hr fun w' r1 r2 => hK g cap w' r1 r2 (Or.inl rfl)
  · refine wpList_append_grows w hg s x t hop e i z size bytes h1 h2 h3 h4 h5 h6 h7 (some ⟨g, 0, none⟩) k cap xs hs (fun h => by cases h) hown.1 (fun b hb j u hj => ?_) ad 1 c news hx hn hc h1c (by omega) b1 b2 fun v' w' r1 r2 => ?_
    · injection hb with hb; subst hb
      rw [Addr.add_lit]
      have := owns_cells hown j u hj
      simpa using this
    · obtain ⟨hl, h | ⟨g', cap', cur, hv, h0, hb', r⟩⟩ := r1
      · exact absurd h.2 (by omega)
      · subst hv
        exact hK g' cap' w' ⟨hl, .inr ⟨g', cap', cur, rfl, Nat.le_trans hb h0, hb', r⟩⟩ ⟨r2.os, r2.tape, r2.output, r2.size, fun k hk _ => r2.block k hk (by simp)⟩ (Or.inr h0)

/-- A slice that a literal has just made. -/
theorem owns_new (w : World) (base : Nat) (hb : base ≤ w.heap.size) (e : TypeId) (size : Nat) (arr : Array Value) (n : Nat) (hn : arr.size = n * size) (hm : n ≤ maxLen) : (w.alloc (.cells arr e)).ownsRow base e size (.slice (some ⟨w.heap.size, 0, none⟩) n n) n arr.toList := by
  refine ⟨by simpa using hn, .inr ⟨w.heap.size, n, arr, rfl, hb, heap_alloc_new w _, Nat.le_refl _, hm, hn, ?_⟩⟩
  rw [List.take_of_length_le (by simp; omega)]

/-- Exprs, one behind the other; block g lies in none of them. -/
def ElR (w : World) (g : Nat) : List Sp.Nd → List Value → Nat → Nat → Prop
  | [], [], lo, hi => lo ≤ hi
  | n :: ns, x :: xs, lo, hi => ∃ m1 m2, Sub lo hi g m1 m2 ∧ NoSl x ∧ Rp w n m1 m2 x ∧ ElR w g ns xs m2 hi
  | _, _, _, _ => False

theorem ElR.snoc {w : World} {g : Nat} : ∀ {ns : List Sp.Nd} {xs : List Value} {lo hi m1 m2 : Nat} {n : Sp.Nd} {x : Value}, ElR w g ns xs lo hi → hi ≤ m1 → NoSl x → Rp w n m1 m2 x → ¬ (m1 ≤ g ∧ g < m2) → ElR w g (ns ++ [n]) (xs ++ [x]) lo m2
  | [], [], lo, hi, m1, m2, n, x, h, h1, h2, h3, h4 => ⟨m1, m2, by have := Rp.le _ _ _ _ h3; unfold ElR at h; unfold Sub; omega, h2, h3, Nat.le_refl _⟩
  | n' :: ns, x' :: xs, lo, hi, m1, m2, n, x, h, h1, h2, h3, h4 => by
    obtain ⟨a1, a2, hS, hn, hr, ht⟩ := h
    have := Rp.le _ _ _ _ h3
    exact ⟨a1, a2, by unfold Sub at hS ⊢; omega, hn, hr, ElR.snoc ht h1 h2 h3 h4⟩
  | [], _ :: _, _, _, _, _, _, _, h, _, _, _, _ => h.elim
  | _ :: _, [], _, _, _, _, _, _, h, _, _, _, _ => h.elim

theorem ElR.le {w : World} {g : Nat} : ∀ {ns : List Sp.Nd} {xs : List Value} {lo hi : Nat}, ElR w g ns xs lo hi → lo ≤ hi
  | [], [], _, _, h => h
  | _ :: _, _ :: _, lo, hi, h => by obtain ⟨a1, a2, hS, _⟩ := h; unfold Sub at hS; omega
  | [], _ :: _, _, _, h => h.elim
  | _ :: _, [], _, _, h => h.elim

theorem ElR.move {w : World} {g g' : Nat} : ∀ {ns : List Sp.Nd} {xs : List Value} {lo hi : Nat}, ElR w g ns xs lo hi → hi ≤ g' → ElR w g' ns xs lo hi
  | [], [], _, _, h, _ => h
  | n :: ns, x :: xs, lo, hi, h, hg => by
    obtain ⟨a1, a2, hS, hn, hr, ht⟩ := h
    have := ht.le
    exact ⟨a1, a2, by unfold Sub at hS ⊢; omega, hn, hr, ht.move hg⟩
  | [], _ :: _, _, _, h, _ => h.elim
  | _ :: _, [], _, _, h, _ => h.elim

theorem ElR.frame {w w' : World} {g : Nat} (hs : w.heap.size ≤ w'.heap.size) : ∀ {ns : List Sp.Nd} {xs : List Value} {lo hi : Nat}, ElR w g ns xs lo hi → (∀ k, lo ≤ k → k < hi → k ≠ g → w'.heap[k]? = w.heap[k]?) → ElR w' g ns xs lo hi
  | [], [], _, _, h, _ => h
  | n :: ns, x :: xs, lo, hi, h, hk => by
    obtain ⟨a1, a2, hS, hn, hr, ht⟩ := h
    have := ht.le
    unfold Sub at hS
    exact ⟨a1, a2, hS, hn, hr.frame hs _ _ _ _ (fun k h1 h2 => hk k (by omega) (by omega) (by omega)) (fun _ _ _ _ e => absurd e (hn _ _ _)), ht.frame hs fun k h1 h2 h3 => hk k (by omega) h2 h3⟩
  | [], _ :: _, _, _, h, _ => h.elim
  | _ :: _, [], _, _, h, _ => h.elim

theorem ElR.rp {w : World} {g : Nat} (hg : g < w.heap.size) (cap : Nat) : ∀ {ns : List Sp.Nd} {xs : List Value} {lo hi off : Nat}, ElR w g ns xs lo hi → (∀ j u, xs[j]? = some u → w.cell? ⟨g, off + j, none⟩ = some u) → Rp w (Sp.lapp ns .nil) lo hi (.slice (some ⟨g, off, none⟩) ns.length cap)
  | [], [], lo, hi, off, h, _ => ⟨h, _, _, rfl⟩
  | n :: ns, x :: xs, lo, hi, off, h, hc => by
    obtain ⟨a1, a2, hS, hn, hr, ht⟩ := h
    refine ⟨g, off, ns.length, cap, x, a1, a2, rfl, hg, hS, by simpa using hc 0 x rfl, hn, hr, ?_⟩
    exact ElR.rp hg cap ht fun j u hj => by have := hc (j + 1) u (by simpa using hj); rw [show off + 1 + j = off + (j + 1) by omega]; exact this
  | [], _ :: _, _, _, _, h, _ => h.elim
  | _ :: _, [], _, _, _, h, _ => h.elim
theorem ElR.len {w : World} {g : Nat} : ∀ {ns : List Sp.Nd} {xs : List Value} {lo hi : Nat}, ElR w g ns xs lo hi → xs.length = ns.length
  | [], [], _, _, _ => rfl
  | _ :: ns, _ :: xs, _, _, h => by obtain ⟨_, _, _, _, _, ht⟩ := h; simp [ht.len]
  | [], _ :: _, _, _, h => h.elim
  | _ :: _, [], _, _, h => h.elim

theorem infoExpr : (Tryz.prog.info? 242).map (fun i => (i.zero, i.size, i.bytes)) = some (some .nilIface, 1, 16) := by kernel_rfl
theorem IsIf.one {v : Value} (h : IsIf v) : v.oneCell' = true := by
  rcases h with rfl | ⟨t, x, rfl⟩ <;> rfl

end Go.Proofs.YtgnncnhkgmhngaaGreatDoor

namespace Go.Proofs.YtgnncnhkgmhngaaGreatDoor
open Go.RowKit

/-- The parser's two blocks stand. -/
theorem PS.stay {b c cap len : Nat} {s : Sp.Bs} {d : Nat} {σ : Sp.St} {w w' : World} (h : PS b c cap len s d σ w) (hs : w.heap.size ≤ w'.heap.size) (hb : w'.heap[b]? = w.heap[b]?) (hc : w'.heap[c]? = w.heap[c]?) (h5 : w'.heap[5]? = w.heap[5]?) : PS b c cap len s d σ w' := by
  have eb : ∀ i, w'.cell? ⟨b, i, none⟩ = w.cell? ⟨b, i, none⟩ := fun i => World.cell?_of_block (w := w) (a := ⟨b, i, none⟩) hb
  have ec : ∀ i, w'.cell? ⟨c, i, none⟩ = w.cell? ⟨c, i, none⟩ := fun i => World.cell?_of_block (w := w) (a := ⟨c, i, none⟩) hc
  have ef : ∀ i, w'.frozen? ⟨b, i, none⟩ = w.frozen? ⟨b, i, none⟩ := fun i => World.frozen?_of_block (w := w) (a := ⟨b, i, none⟩) hb
  obtain ⟨i, hi, h1⟩ := h.h1
  refine ⟨Nat.lt_of_lt_of_le h.lb hs, Nat.lt_of_lt_of_le h.lc hs, h.ne, h.tk, (eb 0).trans h.h0, ⟨i, hi, (eb 1).trans h1⟩, (eb 2).trans h.h2, (eb 3).trans h.h3, (eb 4).trans h.h4, fun o => (ef o).trans (h.fz o), fun j hj => ?_, h.h5, ?_⟩
  · obtain ⟨wd, t⟩ := h.tc j hj
    exact ⟨wd, (ec _).trans t.k, (ec _).trans t.a, (ec _).trans t.t, t.ok, t.wq⟩
  · obtain ⟨m, hm⟩ := h.vm
    exact ⟨m, (World.cell?_of_block (w := w) (a := ⟨5, 0, none⟩) h5).trans hm⟩

/-- Behind an append onto block g, which is new. -/
theorem Kept.grown {b : Nat} {a w w' : World} {g : Nat} (h : Kept b a w) (k : w.grownBy w' (some g)) (hg : a.heap.size ≤ g) : Kept b a w' :=
  ⟨k.os.trans h.os, k.tape.trans h.tape, k.output.trans h.output, Nat.le_trans h.size k.size, fun i hi hb => (k.block i (Nat.lt_of_lt_of_le hi h.size) (by intro e; injection e with e; omega)).trans (h.block i hi hb)⟩

set_option maxHeartbeats 2000000 in
theorem listE_step {b c cap len : Nat} {s : Sp.Bs} {n : Nat} (IH : Hid (∀ m, m ≤ n → All b c cap len s m)) (d : Nat) (σ : Sp.St) (w : World) (hd : d + (n + 1) ≤ 1000000) (hm' : 32 * Sp.rem s σ + 10 ≤ n + 1) (hp : PS b c cap len s d σ w) :
    Calls Tryz.prog 212 #[.pointer (some ⟨b, 0, none⟩), .func (.func 175) #[.pointer (some ⟨b, 0, none⟩)] #[]] w (PostV b c cap len s d (Sp.run s (n + 1) .list d σ) w IsSl fun w' v => Rq w' (Sp.tr s (n + 1) .list d .nil σ) w.heap.size w'.heap.size v) := by
  obtain ⟨i0, ji, jz0, jz1, jz2⟩ := info_parts infoExpr
  have hr := Sp.rem_run s n .expr d σ
  have hbw := hp.lb
  have hcw := hp.lc
  have h5c := hp.h5.1
  have HP : Hid (PS b c cap len s d σ w) := hp
  clear hp
  go_enter Tryz.func212, Tryz.ntmps212
  go_wp2_with fail
  refine ((IH.out n (Nat.le_refl _)).expr d σ _ (by omega) (by show 32 * Sp.rem s σ + 9 ≤ n; omega) HP.out).mono ?_
  rintro r w1 ⟨v1, rfl, hp1, hk1, hi1, hr1⟩
  have HP1 : Hid (PS b c cap len s d (Sp.run s n .expr d σ) (w1.alloc (.cells #[v1] 242))) := hp1.alloc _
  have HK1 : Hid (Kept b w (w1.alloc (.cells #[v1] 242))) := hk1.alloc _
  have hz1' := hk1.size
  have HO1 : Hid ((w1.alloc (.cells #[v1] 242)).ownsRow w.heap.size 242 1 (.slice (some ⟨w1.heap.size, 0, none⟩) 1 1) 1 [v1]) := owns_new w1 w.heap.size hz1' 242 1 #[v1] 1 rfl (by unfold maxLen; omega)
  have HR1 : Hid ((Sp.run s n .expr d σ).isLive = true → ∃ hi, hi ≤ (w1.alloc (.cells #[v1] 242)).heap.size ∧ ElR (w1.alloc (.cells #[v1] 242)) w1.heap.size [Sp.tr s n .expr d .nil σ] [v1] w.heap.size hi) := fun hl => ⟨w1.heap.size, by simp, w.heap.size, w1.heap.size, by unfold Sub; omega, hi1.noSl, (hr1 hl).keptN hi1.noSl ((Kept.refl b w1).alloc _) hbw (Nat.le_refl _), Nat.le_refl _⟩
  have hv1 := hi1.cells
  unfold Value.cells at hv1
  clear hp1 hk1 hi1 hr1 HP
  go_wp2_with fail
  go_loopg [5] n (fun gm v wr => gm ≤ n ∧ ∃ (σ' : Sp.St) (ns : List Sp.Nd) (xs : List Value) (g k kc : Nat), v = .slice (some ⟨g, 0, none⟩) k kc ∧ k + gm ≤ n + 1 ∧ 32 * Sp.rem s σ' + 1 ≤ gm ∧ w.heap.size ≤ g ∧ g < wr.heap.size ∧ Hid (k = ns.length) ∧ Hid (Sp.run s (n + 1) .list d σ = Sp.run s gm .listL d σ') ∧ Hid (Sp.tr s (n + 1) .list d .nil σ = Sp.lapp ns (Sp.tr s gm .listL d .nil σ')) ∧ Hid (PS b c cap len s d σ' wr) ∧ Hid (Kept b w wr) ∧ Hid (wr.ownsRow w.heap.size 242 1 (.slice (some ⟨g, 0, none⟩) k kc) k xs) ∧ Hid (σ'.isLive = true → ∃ hi, hi ≤ wr.heap.size ∧ ElR wr g ns xs w.heap.size hi))
  case atStart => exact ⟨Nat.le_refl _, _, [Sp.tr s n .expr d .nil σ], [v1], w1.heap.size, 1, 1, rfl, by omega, by omega, hz1', by simp, rfl, rfl, rfl, HP1.out, HK1.out, HO1.out, HR1.out⟩
  case round =>
    obtain ⟨hmn, σ', ns, xs, g, k, kc, rfl, hkg, hms, hgw, hgr, HKN, HR, HRT, HPr, HKr, HOr, HRr⟩ := hrel
    obtain ⟨m, rfl⟩ : ∃ m, gk = m + 1 := ⟨gk - 1, by omega⟩
    cases hs : σ'.is s [44]
    · have HV : Hid (Sp.run s (m + 1) .listL d σ' = σ') := by show _ = _; rw [Sp.run, hs]; rfl
      have HVT : Hid (Sp.tr s (m + 1) .listL d .nil σ' = .nil) := by show _ = _; rw [Sp.tr, hs]; rfl
      have HT : Hid (σ'.take s [44] = σ') := take_no hs
      go_wp2_with fail
      refine (accept1 HPr.out [44] (by decide)).mono ?_
      rintro r w2 ⟨rfl, hp2, hk2⟩
      rw [HT.out] at hp2
      rw [hs]
      have HP2 : Hid (PS b c cap len s d σ' w2) := hp2
      have HK2 : Hid (Kept b wr w2) := hk2
      clear hp2 hk2
      go_wp2_with fail
      go_ret
      refine ⟨_, rfl, by rw [HR.out, HV.out]; exact HP2.out, HKr.out.trans HK2.out, ⟨_, _, _, rfl⟩, fun hl => ?_⟩
      rw [HR.out, HV.out] at hl
      rw [HRT.out, HVT.out]
      obtain ⟨hi, h1, h2⟩ := HRr.out hl
      have hz2 := HK2.out.size
      have hle := h2.le
      have E : ElR w2 g ns xs w.heap.size hi := h2.frame hz2 fun k h1 h2 _ => HK2.out.block k (by omega) (by omega)
      have O := owns_same HOr.out (HK2.out.block g hgr (by omega))
      have R := ElR.rp (off := 0) (Nat.lt_of_lt_of_le hgr hz2) kc E (fun j u hj => by have := owns_cells O j u hj; simpa using this)
      rw [← HKN.out] at R
      exact ⟨Rp.wide _ _ _ _ _ _ R (Nat.le_refl _) (by omega), fun blk off n c e => by injection e with e1 e2 e3; injection e1 with e1; injection e1 with e1; subst e1; omega⟩
    · have HV : Hid (Sp.run s (m + 1) .listL d σ' = Sp.run s m .listL d (Sp.run s m .expr d (σ'.step s))) := by show _ = _; rw [Sp.run, hs]; rfl
      have HVT : Hid (Sp.tr s (m + 1) .listL d .nil σ' = .cons (Sp.tr s m .expr d .nil (σ'.step s)) (Sp.tr s m .listL d .nil (Sp.run s m .expr d (σ'.step s)))) := by show _ = _; rw [Sp.tr, hs]; rfl
      have HT : Hid (σ'.take s [44] = σ'.step s) := take_yes hs
      have HL : Hid (σ'.isLive = true) := Sp.live_is hs
      have h1 := Sp.rem_step_lt hs
      have h2 := Sp.rem_run s m .expr d (σ'.step s)
      go_wp2_with fail
      refine (accept1 HPr.out [44] (by decide)).mono ?_
      rintro r w2 ⟨rfl, hp2, hk2⟩
      rw [HT.out] at hp2
      rw [hs]
      have HP2 : Hid (PS b c cap len s d (σ'.step s) w2) := hp2
      have HK2 : Hid (Kept b wr w2) := hk2
      clear hp2 hk2
      go_wp2_with fail
      refine ((IH.out m (by omega)).expr d _ _ (by omega) (by show 32 * Sp.rem s _ + 9 ≤ m; omega) HP2.out).mono ?_
      rintro r w3 ⟨v3, rfl, hp3, hk3, hi3, hr3⟩
      have HP3 : Hid (PS b c cap len s d (Sp.run s m .expr d (σ'.step s)) w3) := hp3
      have HK3 : Hid (Kept b w2 w3) := hk3
      have HI3 : Hid (IsIf v3) := hi3
      have HR3 : Hid ((Sp.run s m .expr d (σ'.step s)).isLive = true → Rp w3 (Sp.tr s m .expr d .nil (σ'.step s)) w2.heap.size w3.heap.size v3) := hr3
      have hz2 := HK2.out.size
      have hz3 := HK3.out.size
      have hzr := HKr.out.size
      have HO3 : Hid (w3.ownsRow w.heap.size 242 1 (.slice (some ⟨g, 0, none⟩) k kc) k xs) := owns_same HOr.out ((HK2.out.trans HK3.out).block g hgr (by omega))
      have HO4 : Hid ((w3.alloc (.cells #[v3] 242)).ownsRow w.heap.size 242 1 (.slice (some ⟨g, 0, none⟩) k kc) k xs) := owns_same HO3.out (Below.heap_alloc _ _ _ (by omega))
      have hv3 := hi3.cells
      unfold Value.cells at hv3
      clear hp3 hk3 hi3 hr3 HP2 HPr
      go_wp2_with (at_builtin; go_must (refine wpList_append_two _ rfl (.tmp 12) (.tmp 15) 237 rfl w.heap.size 242 i0 .nilIface 1 16 Tryz.underlying237 ji jz0 jz1 jz2 rfl (by decide) g k kc xs rfl HO4.out ⟨w3.heap.size, 0, none⟩ 1 [v3] rfl rfl ?c1 ?c2 ?c3 ?c4 ?c5 ?_))
      case c1 =>
        intro j u hj
        match j, hj with
        | 0, hj => simp at hj; subst hj; rw [Addr.add_lit]; simp
        | j + 1, hj => simp at hj
      case c2 => intro u hu; simp at hu; subst hu; exact HI3.out.one
      case c3 => unfold maxLen; omega
      case c4 => omega
      case c5 => simp; omega
      intro g' kc' w5 hown hgrow hg'
      have HO5 : Hid (w5.ownsRow w.heap.size 242 1 (.slice (some ⟨g', 0, none⟩) (k + 1) kc') (k + 1) (xs ++ [v3])) := hown
      have HG5 : Hid ((w3.alloc (.cells #[v3] 242)).grownBy w5 (some g)) := hgrow
      have hgg : g' = g ∨ w3.heap.size + 1 ≤ g' := by simpa using hg'
      have hg5 := (owns_lt hown)
      clear hown hgrow hg' hv3
      go_wp2_with fail
      go_roundg m
      case measure => omega
      case rel =>
        have hz5 : w3.heap.size + 1 ≤ w5.heap.size := by have := HG5.out.size; simpa using this
        have hb5 : ∀ q, q < w3.heap.size → q ≠ g → w5.heap[q]? = w3.heap[q]? := fun q hq hn => (HG5.out.block q (by simp; omega) (fun e => by injection e with e; exact hn e)).trans (Below.heap_alloc _ _ _ hq)
        refine ⟨by omega, _, ns ++ [Sp.tr s m .expr d .nil (σ'.step s)], xs ++ [v3], g', k + 1, kc', rfl, by omega, by omega, hg5.1, hg5.2, by show _ = _; rw [List.length_append, ← HKN.out]; rfl, by show _ = _; rw [HR.out, HV.out], by show _ = _; rw [HRT.out, HVT.out, Sp.lapp_snoc], HP3.out.stay (by omega) (hb5 b (by omega) (by omega)) (hb5 c (by omega) (by omega)) (hb5 5 (by omega) (by omega)), (((HKr.out.trans HK2.out).trans HK3.out).alloc _).grown HG5.out hgw, HO5.out, fun hl => ?_⟩
        obtain ⟨hi, e1, e2⟩ := HRr.out HL.out
        have hle := e2.le
        have r3 := HR3.out hl
        have E : ElR w5 g ns xs w.heap.size hi := (e2.frame (by omega) fun q h1 h2 h3 => (hb5 q (by omega) h3).trans ((HK2.out.trans HK3.out).block q (by omega) (by omega)))
        have R : Rp w5 (Sp.tr s m .expr d .nil (σ'.step s)) w2.heap.size w3.heap.size v3 := r3.frame (by omega) _ _ _ _ (fun q h1 h2 => hb5 q h2 (by omega)) (fun _ _ _ _ e => absurd e (HI3.out.noSl _ _ _))
        have S := E.snoc (by omega) HI3.out.noSl R (by omega)
        refine ⟨w3.heap.size, by omega, ?_⟩
        rcases hgg with rfl | hgg
        · exact S
        · exact S.move (by omega)

set_option maxHeartbeats 1000000 in
theorem exprs_step {b c cap len : Nat} {s : Sp.Bs} {n : Nat} (IH : Hid (∀ m, m ≤ n → All b c cap len s m)) : SdQ b c cap len s (n + 1) .list IsSl 174 := by
  intro d σ w hd hm hp
  have H : Hid (∀ w', w' = w → Calls Tryz.prog 212 #[.pointer (some ⟨b, 0, none⟩), .func (.func 175) #[.pointer (some ⟨b, 0, none⟩)] #[]] w' (PostV b c cap len s d (Sp.run s (n + 1) .list d σ) w IsSl fun w' v => Rq w' (Sp.tr s (n + 1) .list d .nil σ) w.heap.size w'.heap.size v)) := fun w' e => by subst e; exact listE_step IH d σ w' hd hm hp
  clear hd hm hp
  have hmf : ∀ (fn : Fn) (first cap : Array Value) (w : World), (Instr.makeFunc fn first cap).run Tryz.prog w = .ok (.func fn first cap) w := fun _ _ _ _ => rfl
  go_enter Tryz.func174, Tryz.ntmps174
  go_wp2_with fail
  refine (H.out _ rfl).mono ?_
  rintro r w1 ⟨v1, rfl, hp1, hk1, hi1, hr1⟩
  have HX : Hid (PS b c cap len s d (Sp.run s (n + 1) .list d σ) w1 ∧ Kept b w w1 ∧ IsSl v1 ∧ ((Sp.run s (n + 1) .list d σ).isLive = true → Rq w1 (Sp.tr s (n + 1) .list d .nil σ) w.heap.size w1.heap.size v1)) := ⟨hp1, hk1, hi1, hr1⟩
  clear hp1 hk1 hi1 hr1
  go_wp2_with fail
  go_ret
  exact ⟨_, rfl, HX.out.1, HX.out.2.1, HX.out.2.2.1, HX.out.2.2.2⟩

end Go.Proofs.YtgnncnhkgmhngaaGreatDoor

namespace Go.Proofs.YtgnncnhkgmhngaaGreatDoor
open Go.RowKit

theorem IsIf.st {v : Value} (h : IsIf v) (a : Addr) (m : Mode) (w : World) : (store a v m).run Tryz.prog w = stored Tryz.prog w a v m := run_store Tryz.prog w a v m h.one

/-- A block of two, written anew. -/
theorem Bk.fill2 {w : World} {q : Nat} {x y : Value} (h : Bk w q [x, y]) (x' y' : Value) : Bk ((w.setCell ⟨q, 0, none⟩ x').setCell ⟨q, 1, none⟩ y') q [x', y'] := by
  have c0 := h.c 0 (by simp)
  have c1 := h.c 1 (by simp)
  have lt := h.lt
  have F : Hid (∀ j, w.frozen? ⟨q, j, none⟩ = false) := h.f
  simp only [List.getElem_cons_zero, List.getElem_cons_succ] at c0 c1
  refine ⟨by simpa [World.setCell] using h.lt, ?_, fun j => ?_⟩
  · intro j hj
    match j, hj with
    | 0, _ => clear F h; go_simp
    | 1, _ => clear F h; go_simp
  · have f := F.out j
    clear F h
    go_simp

set_option maxHeartbeats 2000000 in
theorem clause_any {b c cap len : Nat} {s : Sp.Bs} {n d : Nat} {σ : Sp.St} {w : World} (h : PS b c cap len s d σ w) (z : Sp.Bs) (hf : z ∈ fixd)
    (hex : ∀ w', PS b c cap len s d (σ.must s z) w' → Calls Tryz.prog 175 #[.pointer (some ⟨b, 0, none⟩)] w' (PostV b c cap len s d (Sp.run s n .expr d (σ.must s z)) w' IsIf fun w'' v => Rp w'' (Sp.tr s n .expr d .nil (σ.must s z)) w'.heap.size w''.heap.size v)) :
    Calls Tryz.prog 129 #[.pointer (some ⟨b, 0, none⟩), .string ⟨z.toArray⟩] w (PostV b c cap len s d (Sp.run s n .expr d (σ.must s z)) w IsCl fun w' v => ∃ x, v = .agg #[.int .i64 (σ.at_ s : Nat), x] ∧ IsIf x ∧ Rp w' (Sp.tr s n .expr d .nil (σ.must s z)) (w.heap.size + 1) w'.heap.size x) := by
  have hbw := h.lb
  have hcw := h.lc
  have HEX : Hid (∀ w', PS b c cap len s d (σ.must s z) w' → Calls Tryz.prog 175 #[.pointer (some ⟨b, 0, none⟩)] w' (PostV b c cap len s d (Sp.run s n .expr d (σ.must s z)) w' IsIf fun w'' v => Rp w'' (Sp.tr s n .expr d .nil (σ.must s z)) w'.heap.size w''.heap.size v)) := hex
  obtain ⟨i, wd, hi, tc, PK⟩ := peek_any (h.alloc (.cells #[.int .i64 0, .nilIface] 244))
  have HTK : Hid (σ.isLive = true → Sp.tokAt s (pos s i) = σ.at_ s) := fun hl => (tok_live hi tc hl).1
  have HH : Hid (PS b c cap len s d σ (w.alloc (.cells #[.int .i64 0, .nilIface] 244))) := h.alloc _
  have HK0 : Hid (Kept b w (w.alloc (.cells #[.int .i64 0, .nilIface] 244))) := (Kept.refl b w).alloc _
  have HB0 : Hid (Bk (w.alloc (.cells #[.int .i64 0, .nilIface] 244)) w.heap.size [.int .i64 0, .nilIface]) := Bk.new _ _ _
  have HPK : Hid (∀ w', w' = w.alloc (.cells #[.int .i64 0, .nilIface] 244) → Calls Tryz.prog 75 #[.pointer (some ⟨b, 0, none⟩)] w' fun r w'' => r = .returned (.agg #[.int .i64 (kn (Sp.tokCl s (pos s i))), .int .i64 (Sp.tokAt s (pos s i) : Nat), .string wd]) ∧ Below (w.alloc (.cells #[.int .i64 0, .nilIface] 244)).heap.size (w.alloc (.cells #[.int .i64 0, .nilIface] 244)) w'') := fun w' e => by subst e; exact PK
  clear h tc hi PK hex
  generalize kn (Sp.tokCl s (pos s i)) = kk at *
  generalize Sp.tokAt s (pos s i) = aa at *
  have hfd := tokF1
  go_enter Tryz.func129, Tryz.ntmps129
  go_wp2_with fail
  refine (HPK.out _ rfl).mono ?_
  clear HPK
  rintro r w1 ⟨rfl, hb1⟩
  generalize w.alloc (.cells #[.int .i64 0, .nilIface] 244) = w0 at *
  have HP1 : Hid (PS b c cap len s d σ w1) := HH.out.below hb1
  have HK1 : Hid (Kept b w w1) := HK0.out.trans (Kept.below hb1)
  have HB1 : Hid (Bk w1 w.heap.size [.int .i64 0, .nilIface]) := HB0.out.below hb1
  clear hb1 HH HK0 HB0
  go_wp2_with fail
  refine (expect_any HP1.out z hf).mono ?_
  rintro r w2 ⟨rfl, hp2, hk2⟩
  have HP2 : Hid (PS b c cap len s d (σ.must s z) w2) := hp2
  have HK2 : Hid (Kept b w w2) := HK1.out.trans hk2
  have HB2 : Hid (Bk w2 w.heap.size [.int .i64 0, .nilIface]) := HB1.out.kept hk2 (by omega)
  clear hp2 hk2 HB1 HP1 HK1
  go_wp2_with fail
  refine (HEX.out _ HP2.out).mono ?_
  rintro r w3 ⟨v3, rfl, hp3, hk3, hi3, hr3⟩
  have HP3 : Hid (PS b c cap len s d (Sp.run s n .expr d (σ.must s z)) w3) := hp3
  have HK3 : Hid (Kept b w w3) := HK2.out.trans hk3
  have HI3 : Hid (IsIf v3) := hi3
  have HR3 : Hid ((Sp.run s n .expr d (σ.must s z)).isLive = true → Rp w3 (Sp.tr s n .expr d .nil (σ.must s z)) w2.heap.size w3.heap.size v3) := hr3
  have hB3 := HB2.out.kept hk3 (by omega)
  have hz2 : w.heap.size + 1 ≤ w2.heap.size := HB2.out.lt
  have c0 := hB3.c 0 (by decide)
  have c1 := hB3.c 1 (by decide)
  have f0 := hB3.f 0
  have f1 := hB3.f 1
  simp only [List.getElem_cons_zero, List.getElem_cons_succ] at c0 c1
  have hv3 := hi3.cells
  unfold Value.cells at hv3
  have hst3 := fun a m w => hi3.st a m w
  clear hp3 hk3 hi3 hr3 hB3
  go_wp2_with fail
  exact bodyPost_ret (v := .agg #[.int .i64 aa, v3]) (by simp [results, Tryz.results129, go_sem, *]) rfl ⟨_, rfl, (HP3.out.put w.heap.size 0 (by omega) (by omega) _).put w.heap.size 1 (by omega) (by omega) _, (HK3.out.setNew (by simp) _).setNew (by simp) _, ⟨_, _, rfl, HI3.out⟩, fun hl => ⟨v3, by rw [HTK.out (Sp.live_must (Sp.live_run hl))], HI3.out, by
    refine Rp.wide _ _ _ _ _ _ ((HR3.out hl).frame (by simp [World.setCell]) _ _ _ _ (fun k h1 h2 => ?_) (fun _ _ _ _ e => absurd e (HI3.out.noSl _ _ _))) hz2 (by simp [World.setCell])
    rw [Below.heap_setCell _ _ _ _ (by simp; omega), Below.heap_setCell _ _ _ _ (by simp; omega)]⟩⟩

/-- What a where, or an else, makes. -/
def clT (s : Sp.Bs) (n d : Nat) (z : Sp.Bs) (σ : Sp.St) : Sp.St := if σ.is s z then Sp.run s n .expr d (σ.step s) else σ
def clN (s : Sp.Bs) (n d : Nat) (z : Sp.Bs) (σ : Sp.St) : Sp.Nd := if σ.is s z then .clause (σ.at_ s) (Sp.tr s n .expr d .nil (σ.step s)) else .none
theorem must_yes {s : Sp.Bs} {z : Sp.Bs} {σ : Sp.St} (h : σ.is s z = true) : σ.must s z = σ.step s := by rw [Sp.St.must, h]; rfl

set_option maxHeartbeats 2000000 in
theorem clauseIfAny_any {b c cap len : Nat} {s : Sp.Bs} {n d : Nat} {σ : Sp.St} {w : World} (h : PS b c cap len s d σ w) (z : Sp.Bs) (hf : z ∈ fixd)
    (hex : σ.is s z = true → ∀ w', PS b c cap len s d (σ.step s) w' → Calls Tryz.prog 175 #[.pointer (some ⟨b, 0, none⟩)] w' (PostV b c cap len s d (Sp.run s n .expr d (σ.step s)) w' IsIf fun w'' v => Rp w'' (Sp.tr s n .expr d .nil (σ.step s)) w'.heap.size w''.heap.size v)) :
    Calls Tryz.prog 81 #[.pointer (some ⟨b, 0, none⟩), .string ⟨z.toArray⟩] w (PostV b c cap len s d (clT s n d z σ) w IsPt fun w' v => Rp w' (clN s n d z σ) w.heap.size w'.heap.size v) := by
  have hbw := h.lb
  have HH : Hid (PS b c cap len s d σ w) := h
  clear h
  cases hs : σ.is s z
  · have HV : Hid (clT s n d z σ = σ ∧ clN s n d z σ = .none) := ⟨by rw [clT, hs]; rfl, by rw [clN, hs]; rfl⟩
    clear hex
    go_enter Tryz.func81, Tryz.ntmps81
    go_wp2_with fail
    refine (sees1 HH.out z hf).mono ?_
    rintro r w1 ⟨rfl, hp1, hk1⟩
    rw [hs]
    have HP1 : Hid (PS b c cap len s d σ w1) := hp1
    have HK1 : Hid (Kept b w w1) := hk1
    clear hp1 hk1
    go_wp2_with fail
    go_ret
    exact ⟨_, rfl, by rw [HV.out.1]; exact HP1.out, HK1.out, ⟨_, rfl⟩, fun _ => by rw [HV.out.2]; exact ⟨HK1.out.size, rfl⟩⟩
  · have HV : Hid (clT s n d z σ = Sp.run s n .expr d (σ.step s) ∧ clN s n d z σ = .clause (σ.at_ s) (Sp.tr s n .expr d .nil (σ.step s))) := ⟨by rw [clT, hs]; rfl, by rw [clN, hs]; rfl⟩
    have HM : Hid (σ.must s z = σ.step s) := must_yes hs
    have HEX : Hid (∀ w', PS b c cap len s d (σ.must s z) w' → Calls Tryz.prog 175 #[.pointer (some ⟨b, 0, none⟩)] w' (PostV b c cap len s d (Sp.run s n .expr d (σ.must s z)) w' IsIf fun w'' v => Rp w'' (Sp.tr s n .expr d .nil (σ.must s z)) w'.heap.size w''.heap.size v)) := by rw [must_yes hs]; exact hex hs
    clear hex
    go_enter Tryz.func81, Tryz.ntmps81
    go_wp2_with fail
    refine (sees1 HH.out z hf).mono ?_
    rintro r w1 ⟨rfl, hp1, hk1⟩
    rw [hs]
    have HP1 : Hid (PS b c cap len s d σ w1) := hp1
    have HK1 : Hid (Kept b w w1) := hk1
    clear hp1 hk1
    go_wp2_with fail
    refine (clause_any (n := n) HP1.out z hf HEX.out).mono ?_
    rw [HM.out]
    rintro r w2 ⟨v2, rfl, hp2, hk2, ⟨a2, x2, rfl, hi2⟩, hr2⟩
    have HP2 : Hid (PS b c cap len s d (Sp.run s n .expr d (σ.step s)) w2) := hp2
    have HK2 : Hid (Kept b w1 w2) := hk2
    have HI2 : Hid (IsIf x2) := hi2
    have HR2 : Hid ((Sp.run s n .expr d (σ.step s)).isLive = true → a2 = (σ.at_ s : Nat) ∧ Rp w2 (Sp.tr s n .expr d .nil (σ.step s)) (w1.heap.size + 1) w2.heap.size x2) := fun hl => by
      obtain ⟨x, e, _, r⟩ := hr2 hl
      simp only [Value.agg.injEq] at e
      have e0 := congrArg (fun x : Array Value => x[0]?) e
      have e1 := congrArg (fun x : Array Value => x[1]?) e
      simp at e0 e1
      subst e0 e1
      exact ⟨rfl, r⟩
    have hv2 := hi2.cells
    unfold Value.cells at hv2
    have hst2 := fun a m w => hi2.st a m w
    clear hp2 hk2 hi2 hr2
    go_wp2_with fail
    go_ret
    refine ⟨_, rfl, by rw [HV.out.1]; exact HP2.out.alloc _, (HK1.out.trans HK2.out).alloc _, ⟨_, rfl⟩, fun hl => ?_⟩
    rw [HV.out.1] at hl
    rw [HV.out.2]
    obtain ⟨e, r⟩ := HR2.out hl
    subst e
    have hz1 := HK1.out.size
    have hz2 := HK2.out.size
    exact ⟨w2.heap.size, x2, w1.heap.size + 1, w2.heap.size, rfl, by omega, by simp, by have := Rp.le _ _ _ _ r; unfold Sub; simp; omega, (Bk.new w2 _ _).at_, HI2.out.noSl, r.keptN HI2.out.noSl ((Kept.refl b w2).alloc _) (by omega) (Nat.le_refl _)⟩

end Go.Proofs.YtgnncnhkgmhngaaGreatDoor
