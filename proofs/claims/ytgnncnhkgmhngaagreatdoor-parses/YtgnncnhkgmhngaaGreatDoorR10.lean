import Derived.Test.YtgnncnhkgmhngaaGreatDoorR8
namespace Go.Proofs.YtgnncnhkgmhngaaGreatDoor
open Go.RowKit

theorem newsN (w : World) (o : Obj) (cs : Array Value) (t : TypeId) : ∀ j u, cs.toList[j]? = some u → ((w.alloc o).alloc (.cells cs t)).drew.cell? (Addr.add ⟨w.heap.size + 1, 0, none⟩ j) = some u := by
  intro j u hj
  have e : Addr.add ⟨w.heap.size + 1, 0, none⟩ j = ⟨(w.alloc o).heap.size, j, none⟩ := by simp [Addr.add]; omega
  rw [World.cell?_drew, e, World.cell?_alloc_new, ← hj]
  simp

/-- Behind an append to one of the reader's lists: his own block stands; every other list of his does. -/
structure Grew (b : Nat) (w w1 : World) (v : Value) (g : Nat) : Prop where
  own : w1.heap[b]? = w.heap[b]?
  size : w.heap.size ≤ w1.heap.size
  os : w1.os = w.os
  tape : w1.tape = w.tape
  output : w1.output = w.output
  other : ∀ k, k < w.heap.size → v.ownBlock ≠ some k → w1.heap[k]? = w.heap[k]?
  at_ : v.ownBlock = some g ∨ w.heap.size ≤ g

theorem grew_of {b : Nat} {w w1 : World} {v : Value} {g : Nat} {o o' : Obj} (lb : b < w.heap.size) (hv : ∀ k, v.ownBlock = some k → b + 1 ≤ k) (hg : ((w.alloc o).alloc o').drew.grownBy w1 v.ownBlock) (hat : v.ownBlock = some g ∨ g = ((w.alloc o).alloc o').drew.heap.size) : Grew b w w1 v g := by
  have hs : w.heap.size + 2 ≤ w1.heap.size := by have := hg.size; simpa using this
  have hold : ∀ k, k < w.heap.size → v.ownBlock ≠ some k → w1.heap[k]? = w.heap[k]? := fun k hk hne => (hg.block k (by simp; omega) (fun e => hne e.symm)).trans ((Below.heap_alloc _ _ _ (by simp; omega)).trans (Below.heap_alloc _ _ _ hk))
  refine ⟨hold b lb (fun e => by have := hv b e; omega), by omega, hg.os, hg.tape, hg.output, hold, ?_⟩
  rcases hat with h | h
  · exact Or.inl h
  · exact Or.inr (by rw [h]; simp; omega)

theorem Ow.grew {b : Nat} {e e' : TypeId} {size size' : Nat} {v v' : Value} {n n' g : Nat} {w w1 : World} (h : Ow b e size v n w) (h' : Ow b e' size' v' n' w) (hne : e ≠ e') (hg : Grew b w w1 v' g) : Ow b e size v n w1 := by
  obtain ⟨xs, h1, h2⟩ := h
  refine ⟨xs, h1, ?_⟩
  rcases h2 with h | ⟨k, cap, cur, hv, hk, hc, r⟩
  · exact Or.inl h
  · refine Or.inr ⟨k, cap, cur, hv, hk, ?_, r⟩
    have hlt : k < w.heap.size := by
      rcases Nat.lt_or_ge k w.heap.size with x | x
      · exact x
      · rw [Array.getElem?_eq_none x] at hc; cases hc
    rw [hg.other k hlt]
    · exact hc
    · intro e1
      obtain ⟨ys, _, h3⟩ := h'
      rcases h3 with ⟨rfl, _⟩ | ⟨k', cap', cur', rfl, _, hc', _⟩
      · cases e1
      · have : k' = k := by simpa [Value.ownBlock] using e1
        subst this
        rw [hc] at hc'
        injection hc' with hc'
        injection hc' with _ hc' _
        exact hne hc'

/-- The reader's world behind the append and the store of the new list. -/
theorem RK.grew {b o : Nat} {w w1 : World} {v : Value} {g n cap : Nat} (ho : o = 12 ∨ o = 13 ∨ o = 14 ∨ o = 19 ∨ o = 20) (hv : w.cell? ⟨b, o, none⟩ = some v) (hg : Grew b w w1 v g) : RK b w (w1.setCell ⟨b, o, none⟩ (.slice (some ⟨g, 0, none⟩) n cap)) := by
  have hfp : ∀ k, v.ownBlock = some k → FP b w k := fun k h => Or.inr ⟨o, v, ho, hv, h⟩
  refine ⟨hg.os, hg.tape, hg.output, by simpa [World.setCell] using hg.size, fun k hk hf => ?_, fun k hk => ?_⟩
  · exact (Below.heap_setCell _ _ _ _ (fun e => hf (Or.inl e))).trans (hg.other k hk (fun e => hf (hfp k e)))
  · rcases hk with hk | ⟨p, u, hp, hc, hu⟩
    · exact Or.inl (Or.inl hk)
    · by_cases e : p = o
      · subst e
        have hc1 : w1.cell? ⟨b, p, none⟩ = some v := by rw [World.cell?_of_block (w := w) (a := ⟨b, p, none⟩) hg.own]; exact hv
        rw [World.cell?_setCell_same _ _ _ hc1] at hc
        injection hc with hc
        subst hc
        have : g = k := by simpa [Value.ownBlock] using hu
        subst this
        rcases hg.at_ with h | h
        · exact Or.inl (hfp _ h)
        · exact Or.inr h
      · rw [World.cell?_setCell_other _ _ _ _ (by intro x; injection x with x1 x2; omega), World.cell?_of_block (w := w) (a := ⟨b, p, none⟩) hg.own] at hc
        exact Or.inl (Or.inr ⟨p, u, hp, hc, hu⟩)

theorem Tryz.info294 : (Tryz.prog.info? 294).map (fun i => (i.zero, i.size, i.bytes)) = some (some (.agg #[.string ⟨#[]⟩, .int .i64 0, .slice none 0 0, .int .i64 0, .string ⟨#[]⟩, .string ⟨#[]⟩, .int .i64 0, .slice none 0 0, .slice none 0 0]), 9, 144) := by kernel_rfl

set_option maxRecDepth 100000 in
set_option maxHeartbeats 4000000 in
theorem rnode_raw {b : Nat} {s : ByteArray} {d e a : Nat} {x : RD} {w : World} (hc : RC b s x d e a w) (n : Nat) (xs : List Value) (hown : w.ownsRow (b + 1) 294 9 x.vn n xs) (hn : n ≤ 3000) (v0 v1 v2 v3 v4 v5 v6 v7 v8 : Value) (h1 : ∀ u ∈ [v0, v1, v2, v3, v4, v5, v6, v7, v8], u.oneCell' = true) :
    Calls Tryz.prog 208 #[.pointer (some ⟨b, 0, none⟩), .agg #[v0, v1, v2, v3, v4, v5, v6, v7, v8]] w fun r w' => ∃ (q : Int) (g cap : Nat) (w1 : World), r = .returned (.int .i64 q) ∧ w' = w1.setCell ⟨b, 19, none⟩ (.slice (some ⟨g, 0, none⟩) (n + 1) cap) ∧ Grew b w w1 x.vn g ∧ Ow b 294 9 (.slice (some ⟨g, 0, none⟩) (n + 1) cap) (n + 1) w1 := by
  obtain ⟨i0, hi, hz0, hz1, hz2⟩ := info_parts Tryz.info294
  have cv := hc.c19
  have fv := hc.fz 19
  have lb := hc.lb
  have HF : Hid (∀ w1 : World, w1.heap[b]? = w.heap[b]? → w1.cell? ⟨b, 19, none⟩ = some x.vn ∧ w1.frozen? ⟨b, 19, none⟩ = false) := fun w1 h => ⟨(World.cell?_of_block (w := w) (a := ⟨b, 19, none⟩) h).trans hc.c19, (World.frozen?_of_block (w := w) (a := ⟨b, 19, none⟩) h).trans (hc.fz 19)⟩
  have HO : Hid (((w.alloc (.cells #[v0, v1, v2, v3, v4, v5, v6, v7, v8] 294)).alloc (.cells #[v0, v1, v2, v3, v4, v5, v6, v7, v8] 294)).drew.ownsRow (b + 1) 294 9 x.vn n xs) := (hown.alloc _).alloc _
  have HN : Hid (∀ j u, [v0, v1, v2, v3, v4, v5, v6, v7, v8][j]? = some u → ((w.alloc (.cells #[v0, v1, v2, v3, v4, v5, v6, v7, v8] 294)).alloc (.cells #[v0, v1, v2, v3, v4, v5, v6, v7, v8] 294)).drew.cell? (Addr.add ⟨w.heap.size + 1, 0, none⟩ j) = some u) := newsN w _ #[v0, v1, v2, v3, v4, v5, v6, v7, v8] 294
  have HV : Hid (∀ k, x.vn.ownBlock = some k → b + 1 ≤ k) := fun k h => (owns_block hown k h).1
  have h63 : n + 1 ≤ maxLen := by unfold maxLen; omega
  have hby : (n + 1) * 144 ≤ 140737488355328 := by omega
  have hba : b + 1 ≤ ((w.alloc (.cells #[v0, v1, v2, v3, v4, v5, v6, v7, v8] 294)).alloc (.cells #[v0, v1, v2, v3, v4, v5, v6, v7, v8] 294)).drew.heap.size := by simp; omega
  have H1 : Hid (∀ u ∈ [v0, v1, v2, v3, v4, v5, v6, v7, v8], u.oneCell' = true) := h1
  have o0 := h1 v0 (by simp)
  have o1 := h1 v1 (by simp)
  have o2 := h1 v2 (by simp)
  have o3 := h1 v3 (by simp)
  have o4 := h1 v4 (by simp)
  have o5 := h1 v5 (by simp)
  have o6 := h1 v6 (by simp)
  have o7 := h1 v7 (by simp)
  have o8 := h1 v8 (by simp)
  clear hown hc h1
  go_enter Tryz.func208, Tryz.ntmps208
  go_wp2_with fail
  go_region_law (refine step_append_lies ((w.alloc (.cells #[v0, v1, v2, v3, v4, v5, v6, v7, v8] 294)).alloc (.cells #[v0, v1, v2, v3, v4, v5, v6, v7, v8] 294)).drew rfl (.tmp 10) (.tmp 12) 79 rfl (b + 1) 294 i0 (.agg #[.string ⟨#[]⟩, .int .i64 0, .slice none 0 0, .int .i64 0, .string ⟨#[]⟩, .string ⟨#[]⟩, .int .i64 0, .slice none 0 0, .slice none 0 0]) 9 144 Tryz.underlying79 hi hz0 hz1 hz2 rfl (by decide) x.vn n xs rfl HO.out ⟨w.heap.size + 1, 0, none⟩ 1 1 [v0, v1, v2, v3, v4, v5, v6, v7, v8] rfl rfl HN.out H1.out (by decide) h63 hby hba _ rfl ?_; intro g cap w1 hown1 hgrow hat hlt; have hG := grew_of lb HV.out hgrow hat; have hq := HF.out w1 hG.own; obtain ⟨q1, q2⟩ := hq; have HG : Hid (Grew b w w1 x.vn g) := hG; have HO1 : Hid (Ow b 294 9 (.slice (some ⟨g, 0, none⟩) (n + 1) cap) (n + 1) w1) := ⟨_, hown1⟩; clear hown1 hgrow hat hlt hG)
  all_goals go_wp2_with fail
  all_goals go_ret
  all_goals exact ⟨_, g, cap, w1, rfl, rfl, HG.out, HO1.out⟩

theorem Tryz.info219 : (Tryz.prog.info? 219).map (fun i => (i.zero, i.size, i.bytes)) = some (some (.agg #[.string ⟨#[]⟩, .bool false, .int .i64 0, .int .i64 0, .int .i64 0, .bool false, .int .i64 0, .slice none 0 0, .slice none 0 0, .int .i64 0, .int .i64 0]), 11, 128) := by kernel_rfl

set_option maxRecDepth 100000 in
set_option maxHeartbeats 4000000 in
theorem radd_raw {b : Nat} {s : ByteArray} {d e a : Nat} {x : RD} {w : World} (hc : RC b s x d e a w) (n : Nat) (xs : List Value) (hown : w.ownsRow (b + 1) 219 11 x.vq n xs) (hn : n ≤ 3000) (v0 v1 v2 v3 v4 v5 v6 v7 v8 v9 v10 : Value) (h1 : ∀ u ∈ [v0, v1, v2, v3, v4, v5, v6, v7, v8, v9, v10], u.oneCell' = true) :
    Calls Tryz.prog 111 #[.pointer (some ⟨b, 0, none⟩), .agg #[v0, v1, v2, v3, v4, v5, v6, v7, v8, v9, v10]] w fun r w' => ∃ (q : Int) (g cap : Nat) (w1 : World), r = .returned (.int .i64 q) ∧ w' = w1.setCell ⟨b, 20, none⟩ (.slice (some ⟨g, 0, none⟩) (n + 1) cap) ∧ Grew b w w1 x.vq g ∧ Ow b 219 11 (.slice (some ⟨g, 0, none⟩) (n + 1) cap) (n + 1) w1 := by
  obtain ⟨i0, hi, hz0, hz1, hz2⟩ := info_parts Tryz.info219
  have cv := hc.c20
  have fv := hc.fz 20
  have lb := hc.lb
  have HF : Hid (∀ w1 : World, w1.heap[b]? = w.heap[b]? → w1.cell? ⟨b, 20, none⟩ = some x.vq ∧ w1.frozen? ⟨b, 20, none⟩ = false) := fun w1 h => ⟨(World.cell?_of_block (w := w) (a := ⟨b, 20, none⟩) h).trans hc.c20, (World.frozen?_of_block (w := w) (a := ⟨b, 20, none⟩) h).trans (hc.fz 20)⟩
  have HO : Hid (((w.alloc (.cells #[v0, v1, v2, v3, v4, v5, v6, v7, v8, v9, v10] 219)).alloc (.cells #[v0, v1, v2, v3, v4, v5, v6, v7, v8, v9, v10] 219)).drew.ownsRow (b + 1) 219 11 x.vq n xs) := (hown.alloc _).alloc _
  have HN : Hid (∀ j u, [v0, v1, v2, v3, v4, v5, v6, v7, v8, v9, v10][j]? = some u → ((w.alloc (.cells #[v0, v1, v2, v3, v4, v5, v6, v7, v8, v9, v10] 219)).alloc (.cells #[v0, v1, v2, v3, v4, v5, v6, v7, v8, v9, v10] 219)).drew.cell? (Addr.add ⟨w.heap.size + 1, 0, none⟩ j) = some u) := newsN w _ #[v0, v1, v2, v3, v4, v5, v6, v7, v8, v9, v10] 219
  have HV : Hid (∀ k, x.vq.ownBlock = some k → b + 1 ≤ k) := fun k h => (owns_block hown k h).1
  have h63 : n + 1 ≤ maxLen := by unfold maxLen; omega
  have hby : (n + 1) * 128 ≤ 140737488355328 := by omega
  have hba : b + 1 ≤ ((w.alloc (.cells #[v0, v1, v2, v3, v4, v5, v6, v7, v8, v9, v10] 219)).alloc (.cells #[v0, v1, v2, v3, v4, v5, v6, v7, v8, v9, v10] 219)).drew.heap.size := by simp; omega
  have H1 : Hid (∀ u ∈ [v0, v1, v2, v3, v4, v5, v6, v7, v8, v9, v10], u.oneCell' = true) := h1
  have o0 := h1 v0 (by simp)
  have o1 := h1 v1 (by simp)
  have o2 := h1 v2 (by simp)
  have o3 := h1 v3 (by simp)
  have o4 := h1 v4 (by simp)
  have o5 := h1 v5 (by simp)
  have o6 := h1 v6 (by simp)
  have o7 := h1 v7 (by simp)
  have o8 := h1 v8 (by simp)
  have o9 := h1 v9 (by simp)
  have o10 := h1 v10 (by simp)
  clear hown hc h1
  go_enter Tryz.func111, Tryz.ntmps111
  go_wp2_with fail
  go_region_law (refine step_append_lies ((w.alloc (.cells #[v0, v1, v2, v3, v4, v5, v6, v7, v8, v9, v10] 219)).alloc (.cells #[v0, v1, v2, v3, v4, v5, v6, v7, v8, v9, v10] 219)).drew rfl (.tmp 10) (.tmp 12) 80 rfl (b + 1) 219 i0 (.agg #[.string ⟨#[]⟩, .bool false, .int .i64 0, .int .i64 0, .int .i64 0, .bool false, .int .i64 0, .slice none 0 0, .slice none 0 0, .int .i64 0, .int .i64 0]) 11 128 Tryz.underlying80 hi hz0 hz1 hz2 rfl (by decide) x.vq n xs rfl HO.out ⟨w.heap.size + 1, 0, none⟩ 1 1 [v0, v1, v2, v3, v4, v5, v6, v7, v8, v9, v10] rfl rfl HN.out H1.out (by decide) h63 hby hba _ rfl ?_; intro g cap w1 hown1 hgrow hat hlt; have hG := grew_of lb HV.out hgrow hat; have hq := HF.out w1 hG.own; obtain ⟨q1, q2⟩ := hq; have HG : Hid (Grew b w w1 x.vq g) := hG; have HO1 : Hid (Ow b 219 11 (.slice (some ⟨g, 0, none⟩) (n + 1) cap) (n + 1) w1) := ⟨_, hown1⟩; clear hown1 hgrow hat hlt hG)
  all_goals go_wp2_with fail
  all_goals go_ret
  all_goals exact ⟨_, g, cap, w1, rfl, rfl, HG.out, HO1.out⟩

end Go.Proofs.YtgnncnhkgmhngaaGreatDoor

namespace Go.Proofs.YtgnncnhkgmhngaaGreatDoor
open Go.RowKit

theorem far_top (s : ByteArray) (σ : Sp.St) : far s.data.toList σ ≤ s.size + 1 := by
  cases σ with
  | live e => simp only [far]; rw [size_data]; omega
  | dead x a => simp only [far]; rw [size_data]; exact Nat.le_refl _

theorem rnode_any {b : Nat} {s : ByteArray} {d k : Nat} {c : Ct} {σ : Sp.St} {w : World} (h : RS b s d (k + 1) c σ w) (v0 v1 v2 v3 v4 v5 v6 v7 v8 : Value) (h1 : ∀ u ∈ [v0, v1, v2, v3, v4, v5, v6, v7, v8], u.oneCell' = true) :
    Calls Tryz.prog 208 #[.pointer (some ⟨b, 0, none⟩), .agg #[v0, v1, v2, v3, v4, v5, v6, v7, v8]] w (RI b s d k c σ w) := by
  obtain ⟨hs, x, hc, ho, ht⟩ := h
  obtain ⟨m, ⟨xs, hown⟩, hm⟩ := ho.on
  obtain ⟨m2, hm2, hb2⟩ := ho.oq
  have hft := far_top s σ
  refine (rnode_raw hc m xs hown (by omega) v0 v1 v2 v3 v4 v5 v6 v7 v8 h1).mono ?_
  rintro r w' ⟨q, g, cap, w1, rfl, rfl, hG, hO1⟩
  refine ⟨q, rfl, ⟨hs, _, (hc.kept hG.own hG.size).s19 _, ?_, ?_⟩, RK.grew (by decide) hc.c19 hG⟩
  · exact ⟨(ho.oc.grew ⟨xs, hown⟩ (by decide) hG).set 19 _, (ho.or.grew ⟨xs, hown⟩ (by decide) hG).set 19 _, (ho.og.grew ⟨xs, hown⟩ (by decide) hG).set 19 _, ⟨m + 1, Ow.set hO1 19 _, by omega⟩, ⟨m2, ((hm2.grew ⟨xs, hown⟩ (by decide) hG)).set 19 _, by omega⟩⟩
  · cases σ with
    | live e => exact ht
    | dead y z => exact ht

theorem radd_any {b : Nat} {s : ByteArray} {d k : Nat} {c : Ct} {σ : Sp.St} {w : World} (h : RS b s d (k + 1) c σ w) (v0 v1 v2 v3 v4 v5 v6 v7 v8 v9 v10 : Value) (h1 : ∀ u ∈ [v0, v1, v2, v3, v4, v5, v6, v7, v8, v9, v10], u.oneCell' = true) :
    Calls Tryz.prog 111 #[.pointer (some ⟨b, 0, none⟩), .agg #[v0, v1, v2, v3, v4, v5, v6, v7, v8, v9, v10]] w (RI b s d k c σ w) := by
  obtain ⟨hs, x, hc, ho, ht⟩ := h
  obtain ⟨m, ⟨xs, hown⟩, hm⟩ := ho.oq
  obtain ⟨m2, hm2, hb2⟩ := ho.on
  have hft := far_top s σ
  refine (radd_raw hc m xs hown (by omega) v0 v1 v2 v3 v4 v5 v6 v7 v8 v9 v10 h1).mono ?_
  rintro r w' ⟨q, g, cap, w1, rfl, rfl, hG, hO1⟩
  refine ⟨q, rfl, ⟨hs, _, (hc.kept hG.own hG.size).s20 _, ?_, ?_⟩, RK.grew (by decide) hc.c20 hG⟩
  · exact ⟨(ho.oc.grew ⟨xs, hown⟩ (by decide) hG).set 20 _, (ho.or.grew ⟨xs, hown⟩ (by decide) hG).set 20 _, (ho.og.grew ⟨xs, hown⟩ (by decide) hG).set 20 _, ⟨m2, ((hm2.grew ⟨xs, hown⟩ (by decide) hG)).set 20 _, by omega⟩, ⟨m + 1, Ow.set hO1 20 _, by omega⟩⟩
  · cases σ with
    | live e => exact ht
    | dead y z => exact ht

theorem one9 (a0 a4 a5 : ByteArray) (a1 a3 a6 : Int) (a2 a7 a8 : Value) (h2 : a2.oneCell' = true) (h7 : a7.oneCell' = true) (h8 : a8.oneCell' = true) : ∀ u ∈ [Value.string a0, .int .i64 a1, a2, .int .i64 a3, .string a4, .string a5, .int .i64 a6, a7, a8], u.oneCell' = true := by
  intro u hu
  simp only [List.mem_cons, List.not_mem_nil, or_false] at hu
  rcases hu with rfl | rfl | rfl | rfl | rfl | rfl | rfl | rfl | rfl
  · rfl
  · rfl
  · exact h2
  · rfl
  · rfl
  · rfl
  · rfl
  · exact h7
  · exact h8

set_option maxHeartbeats 1000000 in
theorem rpair_any {b : Nat} {s : ByteArray} {d k : Nat} {c : Ct} {σ : Sp.St} {w : World} (h : RS b s d (k + 1) c σ w) (op : ByteArray) (at_ x y : Int) :
    Calls Tryz.prog 170 #[.pointer (some ⟨b, 0, none⟩), .string op, .int .i64 at_, .int .i64 x, .int .i64 y] w (RI b s d k c σ w) := by
  have HP : Hid (RS b s d (k + 1) c σ w) := h
  have lb := h.lb
  clear h
  go_enter Tryz.func170, Tryz.ntmps170
  go_wp2_with fail
  refine (rnode_any (HP.out.alloc _) _ _ _ _ _ _ _ _ _ (one9 _ _ _ _ _ _ _ _ _ rfl rfl rfl)).mono ?_
  rintro r w1 ⟨q, rfl, hp, hk⟩
  have HP1 : Hid (RS b s d k c σ w1) := hp
  have HK1 : Hid (RK b w w1) := ((RK.refl b w).alloc lb _).trans hk
  clear hp hk
  go_wp2_with fail
  go_ret
  exact ⟨_, rfl, HP1.out, HK1.out⟩
end Go.Proofs.YtgnncnhkgmhngaaGreatDoor
