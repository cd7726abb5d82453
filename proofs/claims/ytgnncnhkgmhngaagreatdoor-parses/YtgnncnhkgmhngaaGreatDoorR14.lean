import Derived.Test.YtgnncnhkgmhngaaGreatDoorR12
namespace Go.Proofs.YtgnncnhkgmhngaaGreatDoor
open Go.RowKit

theorem RS.fp_lt {b : Nat} {s : ByteArray} {d k : Nat} {c : Ct} {σ : Sp.St} {w : World} (h : RS b s d k c σ w) {j : Nat} (hj : FP b w j) : j < w.heap.size := by
  obtain ⟨_, x, hc, ho, _⟩ := h
  rcases hj with rfl | ⟨o, v, hv, hcell, hown⟩
  · exact hc.lb
  · have key : ∀ (e : TypeId) (size : Nat) (u : Value) (n : Nat), Ow b e size u n w → w.cell? ⟨b, o, none⟩ = some u → j < w.heap.size := by
      intro e size u n hw hu
      obtain ⟨xs, hw⟩ := hw
      rw [hcell] at hu
      injection hu with hu
      subst hu
      exact (owns_block hw j hown).2
    obtain ⟨n1, a1, _⟩ := ho.on
    obtain ⟨n2, a2, _⟩ := ho.oq
    rcases hv with rfl | rfl | rfl | rfl | rfl
    · exact key _ _ _ _ ho.oc hc.c12
    · exact key _ _ _ _ ho.or hc.c13
    · exact key _ _ _ _ ho.og hc.c14
    · exact key _ _ _ _ a1 hc.c19
    · exact key _ _ _ _ a2 hc.c20

/-- A block of the call's own, beside the reader's. -/
structure LB (b : Nat) (w0 : World) (j : Nat) (vs : List Value) (w : World) : Prop where
  lo : w0.heap.size ≤ j
  hi : j < w.heap.size
  nf : ¬ FP b w j
  cl : ∀ i u, vs[i]? = some u → w.cell? ⟨j, i, none⟩ = some u
  fz : ∀ i, w.frozen? ⟨j, i, none⟩ = false

theorem LB.keep {b : Nat} {w0 : World} {j : Nat} {vs : List Value} {w w' : World} (h : LB b w0 j vs w) (k : RK b w w') : LB b w0 j vs w' :=
  ⟨h.lo, Nat.lt_of_lt_of_le h.hi k.size, k.notfp h.hi h.nf, fun i u hu => (k.keeps (p := ⟨j, i, none⟩) h.hi h.nf).trans (h.cl i u hu), fun i => (k.keepsF (p := ⟨j, i, none⟩) h.hi h.nf).trans (h.fz i)⟩

theorem LB.new {b : Nat} {s : ByteArray} {d k : Nat} {c : Ct} {σ : Sp.St} {w0 w : World} (h : RS b s d k c σ w) (hw : w0.heap.size ≤ w.heap.size) (arr : Array Value) (t : TypeId) : LB b w0 w.heap.size arr.toList (w.alloc (.cells arr t)) := by
  refine ⟨hw, by simp, ?_, fun i u hu => ?_, fun i => ?_⟩
  · intro hf
    have := h.fp_lt (hf.same (Below.heap_alloc _ _ _ h.lb))
    omega
  · rw [World.cell?_alloc_new, ← hu]; simp
  · exact World.frozen?_alloc_at _ _ _ _ rfl

theorem LB.below {b : Nat} {w0 : World} {j : Nat} {vs : List Value} {w w' : World} (h : LB b w0 j vs w) (hb : b < w.heap.size) (k : Below w.heap.size w w') : LB b w0 j vs w' := h.keep (RK.below k hb)

theorem FP.set {b j o : Nat} {w : World} {u : Value} (hj : j ≠ b) {i : Nat} (h : FP b (w.setCell ⟨j, o, none⟩ u) i) : FP b w i := h.same (Below.heap_setCell _ _ _ _ (Ne.symm hj))

theorem LB.ne {b : Nat} {w0 : World} {j : Nat} {vs : List Value} {w : World} (h : LB b w0 j vs w) : j ≠ b := fun e => h.nf (Or.inl e)

theorem LB.set {b : Nat} {w0 : World} {j : Nat} {vs : List Value} {w : World} (h : LB b w0 j vs w) (o : Nat) (ho : o < vs.length) (u : Value) : LB b w0 j (vs.set o u) (w.setCell ⟨j, o, none⟩ u) := by
  refine ⟨h.lo, by simpa using h.hi, fun hf => h.nf (hf.set h.ne), fun i v hv => ?_, fset h.fz _ _⟩
  have hx : w.cell? ⟨j, o, none⟩ = some vs[o] := h.cl o _ (List.getElem?_eq_getElem ho)
  by_cases e : o = i
  · subst e
    rw [List.getElem?_set_self ho] at hv
    injection hv with hv
    subst hv
    exact cset hx _
  · rw [List.getElem?_set_ne e] at hv
    exact coth (h.cl i v hv) e _

/-- Another block of the call's own is written. -/
theorem LB.other {b : Nat} {w0 : World} {j j' : Nat} {vs : List Value} {w : World} (h : LB b w0 j vs w) (hj : j' ≠ j) (hb : j' ≠ b) (o : Nat) (u : Value) : LB b w0 j vs (w.setCell ⟨j', o, none⟩ u) := by
  have e : (w.setCell ⟨j', o, none⟩ u).heap[j]? = w.heap[j]? := Below.heap_setCell _ _ _ _ (Ne.symm hj)
  exact ⟨h.lo, by simpa using h.hi, fun hf => h.nf (hf.set hb), fun i v hv => (World.cell?_of_block (w := w) (a := ⟨j, i, none⟩) e).trans (h.cl i v hv), fun i => (World.frozen?_of_block (w := w) (a := ⟨j, i, none⟩) e).trans (h.fz i)⟩

theorem Ow.other {b : Nat} {e : TypeId} {size : Nat} {v : Value} {n j o : Nat} {w : World} {u : Value} (h : Ow b e size v n w) (hj : ∀ i, v.ownBlock = some i → i ≠ j) : Ow b e size v n (w.setCell ⟨j, o, none⟩ u) := by
  obtain ⟨xs, h1, h2⟩ := h
  refine ⟨xs, h1, ?_⟩
  rcases h2 with h | ⟨g, cap, cur, hv, hg, hc, r⟩
  · exact Or.inl h
  · exact Or.inr ⟨g, cap, cur, hv, hg, by rw [Below.heap_setCell _ _ _ _ (hj g (by rw [hv]; rfl))]; exact hc, r⟩

/-- The reader while a block of the call's own is written. -/
theorem RS.other {b : Nat} {s : ByteArray} {d k : Nat} {c : Ct} {σ : Sp.St} {w : World} (h : RS b s d k c σ w) (j o : Nat) (hf : ¬ FP b w j) (u : Value) : RS b s d k c σ (w.setCell ⟨j, o, none⟩ u) := by
  obtain ⟨hs, x, hc, ho, ht⟩ := h
  have hj : j ≠ b := fun e => hf (Or.inl e)
  have ne : ∀ (p : Nat) (v : Value), (p = 12 ∨ p = 13 ∨ p = 14 ∨ p = 19 ∨ p = 20) → w.cell? ⟨b, p, none⟩ = some v → ∀ i, v.ownBlock = some i → i ≠ j := fun p v hp hv i hi e => hf (Or.inr ⟨p, v, hp, hv, by rw [← e]; exact hi⟩)
  obtain ⟨n1, a1, b1⟩ := ho.on
  obtain ⟨n2, a2, b2⟩ := ho.oq
  exact ⟨hs, x, hc.kept (Below.heap_setCell _ _ _ _ (Ne.symm hj)) (by simp), ⟨ho.oc.other (ne 12 _ (by decide) hc.c12), ho.or.other (ne 13 _ (by decide) hc.c13), ho.og.other (ne 14 _ (by decide) hc.c14), ⟨n1, a1.other (ne 19 _ (by decide) hc.c19), b1⟩, ⟨n2, a2.other (ne 20 _ (by decide) hc.c20), b2⟩⟩, ht⟩

/-- The reader, and blocks that are not his. -/
structure RX (b : Nat) (s : ByteArray) (d k : Nat) (c : Ct) (σ : Sp.St) (js : List Nat) (w : World) : Prop where
  rs : RS b s d k c σ w
  nf : ∀ j ∈ js, ¬ FP b w j
theorem RX.set {b : Nat} {s : ByteArray} {d k : Nat} {c : Ct} {σ : Sp.St} {js : List Nat} {w : World} (h : RX b s d k c σ js w) (j : Nat) (hj : j ∈ js) (o : Nat) (u : Value) : RX b s d k c σ js (w.setCell ⟨j, o, none⟩ u) :=
  ⟨h.rs.other j o (h.nf j hj) u, fun i hi hf => h.nf i hi (hf.set (fun e => h.nf j hj (Or.inl e)))⟩

theorem one11 (a0 : ByteArray) (a1 a5 : Bool) (a2 a3 a4 a6 a9 a10 : Int) (a7 a8 : Value) (h7 : a7.oneCell' = true) (h8 : a8.oneCell' = true) : ∀ u ∈ [Value.string a0, .bool a1, .int .i64 a2, .int .i64 a3, .int .i64 a4, .bool a5, .int .i64 a6, a7, a8, .int .i64 a9, .int .i64 a10], u.oneCell' = true := by
  intro u hu
  simp only [List.mem_cons, List.not_mem_nil, or_false] at hu
  rcases hu with rfl | rfl | rfl | rfl | rfl | rfl | rfl | rfl | rfl | rfl | rfl
  · rfl
  · rfl
  · rfl
  · rfl
  · rfl
  · rfl
  · rfl
  · exact h7
  · exact h8
  · rfl
  · rfl

/-- What set hands back. -/
def qset (t : ByteArray) (all : Bool) (at_ x : Int) : Value := .agg #[.string t, .bool all, .int .i64 at_, .int .i64 x, .int .i64 0, .bool false, .int .i64 (-1), .slice none 0 0, .slice none 0 0, .int .i64 (-1), .int .i64 0]

set_option maxRecDepth 100000 in
set_option maxHeartbeats 4000000 in
theorem rset_any {b : Nat} {s : ByteArray} {d k : Nat} {c : Ct} {σ : Sp.St} {w : World} {z : Sp.Bs} (x : Int) (h : RS b s d k c σ w) (hz : σ.is s.data.toList z = true) :
    Calls Tryz.prog 110 #[.pointer (some ⟨b, 0, none⟩), .int .i64 x] w fun r w' => ∃ (t : ByteArray) (all : Bool) (at_ : Int), r = .returned (qset t all at_ x) ∧ RS b s d (k + 1) c ((σ.step s.data.toList).take s.data.toList [97, 108, 108]) w' ∧ RK b w w' := by
  obtain ⟨ta, c2⟩ := h.tat
  obtain ⟨ts, c3⟩ := h.tts
  have HP : Hid (RS b s d k c σ w) := h
  have HZ : Hid (σ.is s.data.toList z = true) := hz
  have lb := h.lb
  clear h hz
  go_enter Tryz.func110, Tryz.ntmps110
  go_wp2_with fail
  go_region
  go_wp2_with fail
  have HP0 : Hid (RS b s d k c σ ((w.alloc (.cells #[.string ⟨#[]⟩, .bool false, .int .i64 0, .int .i64 0, .int .i64 0, .bool false, .int .i64 0, .slice none 0 0, .slice none 0 0, .int .i64 0, .int .i64 0] 219)).alloc (.cells #[.string ts, .bool false, .int .i64 ta, .int .i64 x, .int .i64 0, .bool false, .int .i64 (-1), .slice none 0 0, .slice none 0 0, .int .i64 (-1), .int .i64 0] 219)).drew) := ((HP.out.alloc _).alloc _).drew
  have LR : Hid (LB b w w.heap.size #[.string ⟨#[]⟩, .bool false, .int .i64 0, .int .i64 0, .int .i64 0, .bool false, .int .i64 0, .slice none 0 0, .slice none 0 0, .int .i64 0, .int .i64 0].toList ((w.alloc (.cells #[.string ⟨#[]⟩, .bool false, .int .i64 0, .int .i64 0, .int .i64 0, .bool false, .int .i64 0, .slice none 0 0, .slice none 0 0, .int .i64 0, .int .i64 0] 219)).alloc (.cells #[.string ts, .bool false, .int .i64 ta, .int .i64 x, .int .i64 0, .bool false, .int .i64 (-1), .slice none 0 0, .slice none 0 0, .int .i64 (-1), .int .i64 0] 219)).drew) := (LB.new HP.out (Nat.le_refl _) #[.string ⟨#[]⟩, .bool false, .int .i64 0, .int .i64 0, .int .i64 0, .bool false, .int .i64 0, .slice none 0 0, .slice none 0 0, .int .i64 0, .int .i64 0] 219).below (by simp; omega) (((Below.refl _ _).alloc (Nat.le_refl _) _).drew)
  have LQ : Hid (LB b w (w.heap.size + 1) #[.string ts, .bool false, .int .i64 ta, .int .i64 x, .int .i64 0, .bool false, .int .i64 (-1), .slice none 0 0, .slice none 0 0, .int .i64 (-1), .int .i64 0].toList ((w.alloc (.cells #[.string ⟨#[]⟩, .bool false, .int .i64 0, .int .i64 0, .int .i64 0, .bool false, .int .i64 0, .slice none 0 0, .slice none 0 0, .int .i64 0, .int .i64 0] 219)).alloc (.cells #[.string ts, .bool false, .int .i64 ta, .int .i64 x, .int .i64 0, .bool false, .int .i64 (-1), .slice none 0 0, .slice none 0 0, .int .i64 (-1), .int .i64 0] 219)).drew) := by
    have := LB.new (w0 := w) (HP.out.alloc (.cells #[.string ⟨#[]⟩, .bool false, .int .i64 0, .int .i64 0, .int .i64 0, .bool false, .int .i64 0, .slice none 0 0, .slice none 0 0, .int .i64 0, .int .i64 0] 219)) (by simp) #[.string ts, .bool false, .int .i64 ta, .int .i64 x, .int .i64 0, .bool false, .int .i64 (-1), .slice none 0 0, .slice none 0 0, .int .i64 (-1), .int .i64 0] 219
    rw [World.size_alloc] at this
    exact this.below (by simp; omega) (Below.refl _ _).drew
  have HK0 : Hid (RK b w ((w.alloc (.cells #[.string ⟨#[]⟩, .bool false, .int .i64 0, .int .i64 0, .int .i64 0, .bool false, .int .i64 0, .slice none 0 0, .slice none 0 0, .int .i64 0, .int .i64 0] 219)).alloc (.cells #[.string ts, .bool false, .int .i64 ta, .int .i64 x, .int .i64 0, .bool false, .int .i64 (-1), .slice none 0 0, .slice none 0 0, .int .i64 (-1), .int .i64 0] 219)).drew) := (((RK.refl b w).alloc lb _).alloc (by simp; omega) _).drew
  refine (rstep_is HP0.out HZ.out).mono ?_
  rintro r w2 ⟨rfl, hp2, hk2⟩
  have HP2 : Hid (RS b s d (k + 1) c (σ.step s.data.toList) w2) := hp2
  have HK2 : Hid (RK b w w2) := HK0.out.trans hk2
  have LR2 : Hid (LB b w w.heap.size #[.string ⟨#[]⟩, .bool false, .int .i64 0, .int .i64 0, .int .i64 0, .bool false, .int .i64 0, .slice none 0 0, .slice none 0 0, .int .i64 0, .int .i64 0].toList w2) := LR.out.keep hk2
  have LQ2 : Hid (LB b w (w.heap.size + 1) #[.string ts, .bool false, .int .i64 ta, .int .i64 x, .int .i64 0, .bool false, .int .i64 (-1), .slice none 0 0, .slice none 0 0, .int .i64 (-1), .int .i64 0].toList w2) := LQ.out.keep hk2
  clear hp2 hk2 HP0 LR LQ HK0
  go_wp2_with fail
  refine (rtake_any HP2.out [97, 108, 108]).mono ?_
  rintro r w3 ⟨rfl, hp3, hk3⟩
  have HP3 : Hid (RS b s d (k + 1) c ((σ.step s.data.toList).take s.data.toList [97, 108, 108]) w3) := hp3
  have HK3 : Hid (RK b w w3) := HK2.out.trans hk3
  have LR3 : Hid (LB b w w.heap.size #[.string ⟨#[]⟩, .bool false, .int .i64 0, .int .i64 0, .int .i64 0, .bool false, .int .i64 0, .slice none 0 0, .slice none 0 0, .int .i64 0, .int .i64 0].toList w3) := LR2.out.keep hk3
  have LQ3 : Hid (LB b w (w.heap.size + 1) #[.string ts, .bool false, .int .i64 ta, .int .i64 x, .int .i64 0, .bool false, .int .i64 (-1), .slice none 0 0, .slice none 0 0, .int .i64 (-1), .int .i64 0].toList w3) := LQ2.out.keep hk3
  clear hp3 hk3
  have q0 := LQ3.out.cl 0 _ rfl
  have q1 := LQ3.out.cl 1 _ rfl
  have q2 := LQ3.out.cl 2 _ rfl
  have q3 := LQ3.out.cl 3 _ rfl
  have q4 := LQ3.out.cl 4 _ rfl
  have q5 := LQ3.out.cl 5 _ rfl
  have q6 := LQ3.out.cl 6 _ rfl
  have q7 := LQ3.out.cl 7 _ rfl
  have q8 := LQ3.out.cl 8 _ rfl
  have q9 := LQ3.out.cl 9 _ rfl
  have q10 := LQ3.out.cl 10 _ rfl
  have r0 := LR3.out.cl 0 _ rfl
  have r1 := LR3.out.cl 1 _ rfl
  have r2 := LR3.out.cl 2 _ rfl
  have r3 := LR3.out.cl 3 _ rfl
  have r4 := LR3.out.cl 4 _ rfl
  have r5 := LR3.out.cl 5 _ rfl
  have r6 := LR3.out.cl 6 _ rfl
  have r7 := LR3.out.cl 7 _ rfl
  have r8 := LR3.out.cl 8 _ rfl
  have r9 := LR3.out.cl 9 _ rfl
  have r10 := LR3.out.cl 10 _ rfl
  have g0 := LR3.out.fz 0
  have g1 := LR3.out.fz 1
  have g2 := LR3.out.fz 2
  have g3 := LR3.out.fz 3
  have g4 := LR3.out.fz 4
  have g5 := LR3.out.fz 5
  have g6 := LR3.out.fz 6
  have g7 := LR3.out.fz 7
  have g8 := LR3.out.fz 8
  have g9 := LR3.out.fz 9
  have g10 := LR3.out.fz 10
  have gq1 := LQ3.out.fz 1
  generalize (σ.step s.data.toList).is s.data.toList [97, 108, 108] = al
  go_wp2_with fail
  refine bodyPost_ret (v := qset ts al ta x) (by simp [results, Tryz.results110, go_sem, qset, r0, r1, r2, r3, r4, r5, r6, r7, r8, r9, r10]) rfl ⟨_, _, _, rfl, ?_, ?_⟩
  · refine RX.rs (js := [w.heap.size, w.heap.size + 1]) ?_
    iterate 12 refine RX.set ?_ _ (by simp) _ _
    exact ⟨HP3.out, fun j hj => by
      simp only [List.mem_cons, List.not_mem_nil, or_false] at hj
      rcases hj with rfl | rfl
      · exact LR3.out.nf
      · exact LQ3.out.nf⟩
  · iterate 12 refine RK.new ?_ lb (by simp) _
    exact HK3.out
end Go.Proofs.YtgnncnhkgmhngaaGreatDoor

namespace Go.Proofs.YtgnncnhkgmhngaaGreatDoor
open Go.RowKit

set_option maxHeartbeats 4000000 in
theorem rquery_step {b : Nat} {s : ByteArray} {n : Nat} (IH : Hid (∀ m, m ≤ n → RAll b s m)) : Rd b s (n + 1) .query 68 := by
  intro d k c σ w hd hm hp
  have hr := Sp.rem_run s.data.toList n .term d σ
  have hm' : 32 * Sp.rem s.data.toList σ + 15 ≤ n + 1 := hm
  clear hm
  have HP : Hid (RS b s d k c σ w) := hp
  have lb := hp.lb
  clear hp
  go_enter Tryz.func68, Tryz.ntmps68
  go_wp2_with fail
  refine ((IH.out n (Nat.le_refl _)).term d k c σ _ (by omega) (by show 32 * Sp.rem s.data.toList σ + 14 ≤ n; omega) HP.out).mono ?_
  rintro r w1 ⟨q1, rfl, hp1, hk1⟩
  have HP1 : Hid (RS b s d (k) c (Sp.run s.data.toList n .term d σ) w1) := hp1
  have HK1 : Hid (RK b w w1) := hk1
  clear hp1 hk1
  go_wp2_with fail
  go_loopg [3] n (fun m u0 wr => m ≤ n ∧ ∃ (q : Int) (σ' : Sp.St), u0 = .int .i64 q ∧ 32 * Sp.rem s.data.toList σ' + 1 ≤ m ∧ Hid (Sp.run s.data.toList (n + 1) .query d σ = Sp.run s.data.toList m .queryL d σ') ∧ Hid (RS b s d k c σ' wr) ∧ Hid (RK b w wr))
  case atStart => exact ⟨Nat.le_refl _, _, _, rfl, by omega, rfl, HP1.out, HK1.out⟩
  case round =>
    obtain ⟨hmn, q, σ', rfl, hms, HR, HPr, HKr⟩ := hrel
    obtain ⟨m, rfl⟩ : ∃ m, gk = m + 1 := ⟨gk - 1, by omega⟩
    have c7 := HPr.out.err
    cases hs : (σ'.is s.data.toList [117, 110, 105, 111, 110] || σ'.is s.data.toList [101, 120, 99, 101, 112, 116])
    · have HV : Hid (Sp.run s.data.toList (m + 1) .queryL d σ' = σ') := by show _ = _; rw [Sp.run, hs]; rfl
      cases σ' with
      | dead y a =>
        have hz := er_dead HPr.out
        clear hs
        go_wp2_with fail
        go_ret
        exact ⟨_, rfl, by rw [HR.out, HV.out]; exact HPr.out, HKr.out⟩
      | live e =>
        have hz : (((er (.live e) : Nat) : Int) == 0) = true := rfl
        obtain ⟨hs1, hs2⟩ := Bool.or_eq_false_iff.1 hs
        clear hs
        go_wp2_with fail
        refine (ris_any HPr.out [117, 110, 105, 111, 110]).mono ?_
        rintro r w9 ⟨rfl, rfl⟩
        go_wp2_with fail
        refine (ris_any HPr.out [101, 120, 99, 101, 112, 116]).mono ?_
        rintro r w9 ⟨rfl, rfl⟩
        go_wp2_with fail
        go_ret
        exact ⟨_, rfl, by rw [HR.out, HV.out]; exact HPr.out, HKr.out⟩
    · cases hs1 : σ'.is s.data.toList [117, 110, 105, 111, 110]
      · have hs2 : σ'.is s.data.toList [101, 120, 99, 101, 112, 116] = true := by rw [hs1] at hs; exact hs
        have HV : Hid (Sp.run s.data.toList (m + 1) .queryL d σ' = Sp.run s.data.toList m .queryL d (Sp.run s.data.toList m .term d ((σ'.step s.data.toList).take s.data.toList [97, 108, 108]))) := by show _ = _; rw [Sp.run, hs]; rfl
        have h1 := Sp.rem_step_lt hs2
        have h3 := Sp.rem_take s.data.toList [97, 108, 108] (σ'.step s.data.toList)
        have h2 := Sp.rem_run s.data.toList m .term d ((σ'.step s.data.toList).take s.data.toList [97, 108, 108])
        have hz : (((er σ' : Nat) : Int) == 0) = true := by obtain ⟨e, rfl, _⟩ := is_live hs2; rfl
        have HS : Hid (σ'.is s.data.toList [101, 120, 99, 101, 112, 116] = true) := hs2
        clear hs
        go_wp2_with fail
        refine (ris_any HPr.out [117, 110, 105, 111, 110]).mono ?_
        rintro r w9 ⟨rfl, rfl⟩
        go_wp2_with fail
        refine (ris_any HPr.out [101, 120, 99, 101, 112, 116]).mono ?_
        rintro r w9 ⟨rfl, rfl⟩
        go_wp2_with fail
        refine (rset_any _ HPr.out HS.out).mono ?_
        rintro r w2 ⟨t5, al5, at5, rfl, hp2, hk2⟩
        have HP2 : Hid (RS b s d (k + 1) c ((σ'.step s.data.toList).take s.data.toList [97, 108, 108]) w2) := hp2
        have HK2 : Hid (RK b w w2) := HKr.out.trans hk2
        have LQ : Hid (LB b w w2.heap.size #[.string t5, .bool al5, .int .i64 at5, .int .i64 q, .int .i64 0, .bool false, .int .i64 (-1), .slice none 0 0, .slice none 0 0, .int .i64 (-1), .int .i64 0].toList (w2.alloc (.cells #[.string t5, .bool al5, .int .i64 at5, .int .i64 q, .int .i64 0, .bool false, .int .i64 (-1), .slice none 0 0, .slice none 0 0, .int .i64 (-1), .int .i64 0] 219))) := LB.new hp2 HK2.out.size #[.string t5, .bool al5, .int .i64 at5, .int .i64 q, .int .i64 0, .bool false, .int .i64 (-1), .slice none 0 0, .slice none 0 0, .int .i64 (-1), .int .i64 0] 219
        have l2 := hp2.lb
        clear hp2 hk2
        have hqs : qset t5 al5 at5 q = .agg #[.string t5, .bool al5, .int .i64 at5, .int .i64 q, .int .i64 0, .bool false, .int .i64 (-1), .slice none 0 0, .slice none 0 0, .int .i64 (-1), .int .i64 0] := rfl
        rw [hqs]
        go_wp2_with fail
        refine ((IH.out m (by omega)).term d (k + 1) c _ _ (by omega) (by show 32 * Sp.rem s.data.toList _ + 14 ≤ m; omega) (HP2.out.alloc _)).mono ?_
        rintro r w3 ⟨q3, rfl, hp3, hk3⟩
        have HP3 : Hid (RS b s d (k + 1) c (Sp.run s.data.toList m .term d ((σ'.step s.data.toList).take s.data.toList [97, 108, 108])) w3) := hp3
        have HK3 : Hid (RK b w w3) := (HK2.out.alloc l2 _).trans hk3
        have LQ3 : Hid (LB b w w2.heap.size #[.string t5, .bool al5, .int .i64 at5, .int .i64 q, .int .i64 0, .bool false, .int .i64 (-1), .slice none 0 0, .slice none 0 0, .int .i64 (-1), .int .i64 0].toList w3) := LQ.out.keep hk3
        have b3 := hp3.lb
        clear hp3 hk3
        have q0 := LQ3.out.cl 0 _ rfl
        have q1 := LQ3.out.cl 1 _ rfl
        have q2 := LQ3.out.cl 2 _ rfl
        have q3' := LQ3.out.cl 3 _ rfl
        have q4' := LQ3.out.cl 4 _ rfl
        have q5 := LQ3.out.cl 5 _ rfl
        have q6 := LQ3.out.cl 6 _ rfl
        have q7 := LQ3.out.cl 7 _ rfl
        have q8 := LQ3.out.cl 8 _ rfl
        have q9 := LQ3.out.cl 9 _ rfl
        have q10 := LQ3.out.cl 10 _ rfl
        have g4 := LQ3.out.fz 4
        go_wp2_with fail
        refine (radd_any (HP3.out.other w2.heap.size 4 LQ3.out.nf _) _ _ _ _ _ _ _ _ _ _ _ (one11 _ _ _ _ _ _ _ _ _ _ _ rfl rfl)).mono ?_
        rintro r w4 ⟨q4, rfl, hp4, hk4⟩
        have HP4 : Hid (RS b s d k c (Sp.run s.data.toList m .term d ((σ'.step s.data.toList).take s.data.toList [97, 108, 108])) w4) := hp4
        have HK4 : Hid (RK b w w4) := (HK3.out.new lb (p := ⟨w2.heap.size, 4, none⟩) HK2.out.size _).trans hk4
        clear hp4 hk4 q0 q1 q2 q3' q4' q5 q6 q7 q8 q9 q10
        go_wp2_with fail
        go_roundg m
        case measure => omega
        case rel => exact ⟨by omega, _, _, rfl, by omega, by show _ = _; rw [HR.out, HV.out], HP4.out, HK4.out⟩
      · have HV : Hid (Sp.run s.data.toList (m + 1) .queryL d σ' = Sp.run s.data.toList m .queryL d (Sp.run s.data.toList m .term d ((σ'.step s.data.toList).take s.data.toList [97, 108, 108]))) := by show _ = _; rw [Sp.run, hs]; rfl
        have h1 := Sp.rem_step_lt hs1
        have h3 := Sp.rem_take s.data.toList [97, 108, 108] (σ'.step s.data.toList)
        have h2 := Sp.rem_run s.data.toList m .term d ((σ'.step s.data.toList).take s.data.toList [97, 108, 108])
        have hz : (((er σ' : Nat) : Int) == 0) = true := by obtain ⟨e, rfl, _⟩ := is_live hs1; rfl
        have HS : Hid (σ'.is s.data.toList [117, 110, 105, 111, 110] = true) := hs1
        clear hs
        go_wp2_with fail
        refine (ris_any HPr.out [117, 110, 105, 111, 110]).mono ?_
        rintro r w9 ⟨rfl, rfl⟩
        go_wp2_with fail
        refine (rset_any _ HPr.out HS.out).mono ?_
        rintro r w2 ⟨t5, al5, at5, rfl, hp2, hk2⟩
        have HP2 : Hid (RS b s d (k + 1) c ((σ'.step s.data.toList).take s.data.toList [97, 108, 108]) w2) := hp2
        have HK2 : Hid (RK b w w2) := HKr.out.trans hk2
        have LQ : Hid (LB b w w2.heap.size #[.string t5, .bool al5, .int .i64 at5, .int .i64 q, .int .i64 0, .bool false, .int .i64 (-1), .slice none 0 0, .slice none 0 0, .int .i64 (-1), .int .i64 0].toList (w2.alloc (.cells #[.string t5, .bool al5, .int .i64 at5, .int .i64 q, .int .i64 0, .bool false, .int .i64 (-1), .slice none 0 0, .slice none 0 0, .int .i64 (-1), .int .i64 0] 219))) := LB.new hp2 HK2.out.size #[.string t5, .bool al5, .int .i64 at5, .int .i64 q, .int .i64 0, .bool false, .int .i64 (-1), .slice none 0 0, .slice none 0 0, .int .i64 (-1), .int .i64 0] 219
        have l2 := hp2.lb
        clear hp2 hk2
        have hqs : qset t5 al5 at5 q = .agg #[.string t5, .bool al5, .int .i64 at5, .int .i64 q, .int .i64 0, .bool false, .int .i64 (-1), .slice none 0 0, .slice none 0 0, .int .i64 (-1), .int .i64 0] := rfl
        rw [hqs]
        go_wp2_with fail
        refine ((IH.out m (by omega)).term d (k + 1) c _ _ (by omega) (by show 32 * Sp.rem s.data.toList _ + 14 ≤ m; omega) (HP2.out.alloc _)).mono ?_
        rintro r w3 ⟨q3, rfl, hp3, hk3⟩
        have HP3 : Hid (RS b s d (k + 1) c (Sp.run s.data.toList m .term d ((σ'.step s.data.toList).take s.data.toList [97, 108, 108])) w3) := hp3
        have HK3 : Hid (RK b w w3) := (HK2.out.alloc l2 _).trans hk3
        have LQ3 : Hid (LB b w w2.heap.size #[.string t5, .bool al5, .int .i64 at5, .int .i64 q, .int .i64 0, .bool false, .int .i64 (-1), .slice none 0 0, .slice none 0 0, .int .i64 (-1), .int .i64 0].toList w3) := LQ.out.keep hk3
        have b3 := hp3.lb
        clear hp3 hk3
        have q0 := LQ3.out.cl 0 _ rfl
        have q1 := LQ3.out.cl 1 _ rfl
        have q2 := LQ3.out.cl 2 _ rfl
        have q3' := LQ3.out.cl 3 _ rfl
        have q4' := LQ3.out.cl 4 _ rfl
        have q5 := LQ3.out.cl 5 _ rfl
        have q6 := LQ3.out.cl 6 _ rfl
        have q7 := LQ3.out.cl 7 _ rfl
        have q8 := LQ3.out.cl 8 _ rfl
        have q9 := LQ3.out.cl 9 _ rfl
        have q10 := LQ3.out.cl 10 _ rfl
        have g4 := LQ3.out.fz 4
        go_wp2_with fail
        refine (radd_any (HP3.out.other w2.heap.size 4 LQ3.out.nf _) _ _ _ _ _ _ _ _ _ _ _ (one11 _ _ _ _ _ _ _ _ _ _ _ rfl rfl)).mono ?_
        rintro r w4 ⟨q4, rfl, hp4, hk4⟩
        have HP4 : Hid (RS b s d k c (Sp.run s.data.toList m .term d ((σ'.step s.data.toList).take s.data.toList [97, 108, 108])) w4) := hp4
        have HK4 : Hid (RK b w w4) := (HK3.out.new lb (p := ⟨w2.heap.size, 4, none⟩) HK2.out.size _).trans hk4
        clear hp4 hk4 q0 q1 q2 q3' q4' q5 q6 q7 q8 q9 q10
        go_wp2_with fail
        go_roundg m
        case measure => omega
        case rel => exact ⟨by omega, _, _, rfl, by omega, by show _ = _; rw [HR.out, HV.out], HP4.out, HK4.out⟩

set_option maxHeartbeats 4000000 in
theorem rterm_step {b : Nat} {s : ByteArray} {n : Nat} (IH : Hid (∀ m, m ≤ n → RAll b s m)) : Rd b s (n + 1) .term 109 := by
  intro d k c σ w hd hm hp
  have hr := Sp.rem_run s.data.toList n .factor d σ
  have hm' : 32 * Sp.rem s.data.toList σ + 14 ≤ n + 1 := hm
  clear hm
  have HP : Hid (RS b s d k c σ w) := hp
  have lb := hp.lb
  clear hp
  go_enter Tryz.func109, Tryz.ntmps109
  go_wp2_with fail
  refine ((IH.out n (Nat.le_refl _)).factor d k c σ _ (by omega) (by show 32 * Sp.rem s.data.toList σ + 12 ≤ n; omega) HP.out).mono ?_
  rintro r w1 ⟨q1, rfl, hp1, hk1⟩
  have HP1 : Hid (RS b s d (k) c (Sp.run s.data.toList n .factor d σ) w1) := hp1
  have HK1 : Hid (RK b w w1) := hk1
  clear hp1 hk1
  go_wp2_with fail
  go_loopg [3] n (fun m u0 wr => m ≤ n ∧ ∃ (q : Int) (σ' : Sp.St), u0 = .int .i64 q ∧ 32 * Sp.rem s.data.toList σ' + 1 ≤ m ∧ Hid (Sp.run s.data.toList (n + 1) .term d σ = Sp.run s.data.toList m .termL d σ') ∧ Hid (RS b s d k c σ' wr) ∧ Hid (RK b w wr))
  case atStart => exact ⟨Nat.le_refl _, _, _, rfl, by omega, rfl, HP1.out, HK1.out⟩
  case round =>
    obtain ⟨hmn, q, σ', rfl, hms, HR, HPr, HKr⟩ := hrel
    obtain ⟨m, rfl⟩ : ∃ m, gk = m + 1 := ⟨gk - 1, by omega⟩
    have c7 := HPr.out.err
    cases hs : σ'.is s.data.toList [105, 110, 116, 101, 114, 115, 101, 99, 116]
    · have HV : Hid (Sp.run s.data.toList (m + 1) .termL d σ' = σ') := by show _ = _; rw [Sp.run, hs]; rfl
      cases σ' with
      | dead y a =>
        have hz := er_dead HPr.out
        clear hs
        go_wp2_with fail
        go_ret
        exact ⟨_, rfl, by rw [HR.out, HV.out]; exact HPr.out, HKr.out⟩
      | live e =>
        have hz : (((er (.live e) : Nat) : Int) == 0) = true := rfl
        go_wp2_with fail
        refine (ris_any HPr.out [105, 110, 116, 101, 114, 115, 101, 99, 116]).mono ?_
        rintro r w9 ⟨rfl, rfl⟩
        go_wp2_with fail
        go_ret
        exact ⟨_, rfl, by rw [HR.out, HV.out]; exact HPr.out, HKr.out⟩
    · have HV : Hid (Sp.run s.data.toList (m + 1) .termL d σ' = Sp.run s.data.toList m .termL d (Sp.run s.data.toList m .factor d ((σ'.step s.data.toList).take s.data.toList [97, 108, 108]))) := by show _ = _; rw [Sp.run, hs]; rfl
      have h1 := Sp.rem_step_lt hs
      have h3 := Sp.rem_take s.data.toList [97, 108, 108] (σ'.step s.data.toList)
      have h2 := Sp.rem_run s.data.toList m .factor d ((σ'.step s.data.toList).take s.data.toList [97, 108, 108])
      have hz : (((er σ' : Nat) : Int) == 0) = true := by obtain ⟨e, rfl, _⟩ := is_live hs; rfl
      have HS : Hid (σ'.is s.data.toList [105, 110, 116, 101, 114, 115, 101, 99, 116] = true) := hs
      go_wp2_with fail
      refine (ris_any HPr.out [105, 110, 116, 101, 114, 115, 101, 99, 116]).mono ?_
      rintro r w9 ⟨rfl, rfl⟩
      go_wp2_with fail
      refine (rset_any _ HPr.out HS.out).mono ?_
      rintro r w2 ⟨t5, al5, at5, rfl, hp2, hk2⟩
      have HP2 : Hid (RS b s d (k + 1) c ((σ'.step s.data.toList).take s.data.toList [97, 108, 108]) w2) := hp2
      have HK2 : Hid (RK b w w2) := HKr.out.trans hk2
      have LQ : Hid (LB b w w2.heap.size #[.string t5, .bool al5, .int .i64 at5, .int .i64 q, .int .i64 0, .bool false, .int .i64 (-1), .slice none 0 0, .slice none 0 0, .int .i64 (-1), .int .i64 0].toList (w2.alloc (.cells #[.string t5, .bool al5, .int .i64 at5, .int .i64 q, .int .i64 0, .bool false, .int .i64 (-1), .slice none 0 0, .slice none 0 0, .int .i64 (-1), .int .i64 0] 219))) := LB.new hp2 HK2.out.size #[.string t5, .bool al5, .int .i64 at5, .int .i64 q, .int .i64 0, .bool false, .int .i64 (-1), .slice none 0 0, .slice none 0 0, .int .i64 (-1), .int .i64 0] 219
      have l2 := hp2.lb
      clear hp2 hk2
      have hqs : qset t5 al5 at5 q = .agg #[.string t5, .bool al5, .int .i64 at5, .int .i64 q, .int .i64 0, .bool false, .int .i64 (-1), .slice none 0 0, .slice none 0 0, .int .i64 (-1), .int .i64 0] := rfl
      rw [hqs]
      go_wp2_with fail
      refine ((IH.out m (by omega)).factor d (k + 1) c _ _ (by omega) (by show 32 * Sp.rem s.data.toList _ + 12 ≤ m; omega) (HP2.out.alloc _)).mono ?_
      rintro r w3 ⟨q3, rfl, hp3, hk3⟩
      have HP3 : Hid (RS b s d (k + 1) c (Sp.run s.data.toList m .factor d ((σ'.step s.data.toList).take s.data.toList [97, 108, 108])) w3) := hp3
      have HK3 : Hid (RK b w w3) := (HK2.out.alloc l2 _).trans hk3
      have LQ3 : Hid (LB b w w2.heap.size #[.string t5, .bool al5, .int .i64 at5, .int .i64 q, .int .i64 0, .bool false, .int .i64 (-1), .slice none 0 0, .slice none 0 0, .int .i64 (-1), .int .i64 0].toList w3) := LQ.out.keep hk3
      have b3 := hp3.lb
      clear hp3 hk3
      have q0 := LQ3.out.cl 0 _ rfl
      have q1 := LQ3.out.cl 1 _ rfl
      have q2 := LQ3.out.cl 2 _ rfl
      have q3' := LQ3.out.cl 3 _ rfl
      have q4' := LQ3.out.cl 4 _ rfl
      have q5 := LQ3.out.cl 5 _ rfl
      have q6 := LQ3.out.cl 6 _ rfl
      have q7 := LQ3.out.cl 7 _ rfl
      have q8 := LQ3.out.cl 8 _ rfl
      have q9 := LQ3.out.cl 9 _ rfl
      have q10 := LQ3.out.cl 10 _ rfl
      have g4 := LQ3.out.fz 4
      go_wp2_with fail
      refine (radd_any (HP3.out.other w2.heap.size 4 LQ3.out.nf _) _ _ _ _ _ _ _ _ _ _ _ (one11 _ _ _ _ _ _ _ _ _ _ _ rfl rfl)).mono ?_
      rintro r w4 ⟨q4, rfl, hp4, hk4⟩
      have HP4 : Hid (RS b s d k c (Sp.run s.data.toList m .factor d ((σ'.step s.data.toList).take s.data.toList [97, 108, 108])) w4) := hp4
      have HK4 : Hid (RK b w w4) := (HK3.out.new lb (p := ⟨w2.heap.size, 4, none⟩) HK2.out.size _).trans hk4
      clear hp4 hk4 q0 q1 q2 q3' q4' q5 q6 q7 q8 q9 q10
      go_wp2_with fail
      go_roundg m
      case measure => omega
      case rel => exact ⟨by omega, _, _, rfl, by omega, by show _ = _; rw [HR.out, HV.out], HP4.out, HK4.out⟩

end Go.Proofs.YtgnncnhkgmhngaaGreatDoor
