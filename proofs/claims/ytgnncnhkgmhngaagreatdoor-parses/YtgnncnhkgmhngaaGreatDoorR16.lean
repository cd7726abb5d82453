import Derived.Test.YtgnncnhkgmhngaaGreatDoorR15
namespace Go.Proofs.YtgnncnhkgmhngaaGreatDoor
open Go.RowKit

theorem Ow.grown {b : Nat} {e : TypeId} {size : Nat} {v : Value} {n : Nat} {w w1 : World} {row : Option Nat} (h : Ow b e size v n w) (hg : w.grownBy w1 row) (hj : ∀ i, v.ownBlock = some i → row ≠ some i) : Ow b e size v n w1 := by
  obtain ⟨xs, h1, h2⟩ := h
  refine ⟨xs, h1, ?_⟩
  rcases h2 with h | ⟨g, cap, cur, hv, hgb, hc, r⟩
  · exact Or.inl h
  · have hlt : g < w.heap.size := by
      rcases Nat.lt_or_ge g w.heap.size with x | x
      · exact x
      · rw [Array.getElem?_eq_none x] at hc; cases hc
    exact Or.inr ⟨g, cap, cur, hv, hgb, by rw [hg.block g hlt (fun e => hj g (by rw [hv]; rfl) e.symm)]; exact hc, r⟩

theorem RS.grown {b : Nat} {s : ByteArray} {d k : Nat} {c : Ct} {σ : Sp.St} {w w1 : World} {row : Option Nat} (h : RS b s d k c σ w) (hg : w.grownBy w1 row) (hn : ∀ g, row = some g → ¬ FP b w g) : RS b s d k c σ w1 := by
  obtain ⟨hs, x, hc, ho, ht⟩ := h
  have ne : ∀ (p : Nat) (v : Value), (p = 12 ∨ p = 13 ∨ p = 14 ∨ p = 19 ∨ p = 20) → w.cell? ⟨b, p, none⟩ = some v → ∀ i, v.ownBlock = some i → row ≠ some i := fun p v hp hv i hi e => hn i e (Or.inr ⟨p, v, hp, hv, hi⟩)
  obtain ⟨n1, a1, b1⟩ := ho.on
  obtain ⟨n2, a2, b2⟩ := ho.oq
  exact ⟨hs, x, hc.kept (hg.block b hc.lb (fun e => hn b e.symm (Or.inl rfl))) hg.size, ⟨ho.oc.grown hg (ne 12 _ (by decide) hc.c12), ho.or.grown hg (ne 13 _ (by decide) hc.c13), ho.og.grown hg (ne 14 _ (by decide) hc.c14), ⟨n1, a1.grown hg (ne 19 _ (by decide) hc.c19), b1⟩, ⟨n2, a2.grown hg (ne 20 _ (by decide) hc.c20), b2⟩⟩, ht⟩

theorem FP.grown {b : Nat} {w w1 : World} {row : Option Nat} (hb : b < w.heap.size) (hg : w.grownBy w1 row) (hn : ∀ g, row = some g → ¬ FP b w g) {i : Nat} (h : FP b w1 i) : FP b w i := h.same (hg.block b hb (fun e => hn b e.symm (Or.inl rfl)))

theorem RK.grown {b : Nat} {w0 w w1 : World} {row : Option Nat} (h : RK b w0 w) (hb : b < w.heap.size) (hg : w.grownBy w1 row) (hn : ∀ g, row = some g → ¬ FP b w g) (hr : ∀ g, row = some g → w0.heap.size ≤ g) : RK b w0 w1 :=
  ⟨hg.os.trans h.os, hg.tape.trans h.tape, hg.output.trans h.output, Nat.le_trans h.size hg.size, fun k hk hf => (hg.block k (Nat.lt_of_lt_of_le hk h.size) (fun e => by have := hr k e.symm; omega)).trans (h.block k hk hf), fun k hk => h.fp k (hk.grown hb hg hn)⟩

theorem LB.grown {b : Nat} {w0 : World} {j : Nat} {vs : List Value} {w w1 : World} {row : Option Nat} (h : LB b w0 j vs w) (hb : b < w.heap.size) (hg : w.grownBy w1 row) (hn : ∀ g, row = some g → ¬ FP b w g) (hr : row ≠ some j) : LB b w0 j vs w1 := by
  have e := hg.block j h.hi (fun e => hr e.symm)
  exact ⟨h.lo, Nat.lt_of_lt_of_le h.hi hg.size, fun hf => h.nf (hf.grown hb hg hn), fun i u hu => (World.cell?_of_block (w := w) (a := ⟨j, i, none⟩) e).trans (h.cl i u hu), fun i => (World.frozen?_of_block (w := w) (a := ⟨j, i, none⟩) e).trans (h.fz i)⟩

/-- A list of the call's own. -/
structure LO (b : Nat) (w0 : World) (e : TypeId) (size : Nat) (v : Value) (n : Nat) (w : World) : Prop where
  own : ∃ xs, w.ownsRow w0.heap.size e size v n xs
  nf : ∀ g, v.ownBlock = some g → ¬ FP b w g

theorem LO.nil (b : Nat) (w0 : World) (e : TypeId) (size : Nat) (w : World) : LO b w0 e size (.slice none 0 0) 0 w := ⟨⟨[], World.ownsRow_nil _ _ _ _⟩, fun g h => by cases h⟩
theorem LO.keep {b : Nat} {w0 : World} {e : TypeId} {size : Nat} {v : Value} {n : Nat} {w w' : World} (h : LO b w0 e size v n w) (k : RK b w w') : LO b w0 e size v n w' := by
  obtain ⟨xs, ho⟩ := h.own
  have hlt : ∀ g, v.ownBlock = some g → g < w.heap.size := fun g hg => (owns_block ho g hg).2
  refine ⟨⟨xs, ho.1, ?_⟩, fun g hg => k.notfp (hlt g hg) (h.nf g hg)⟩
  rcases ho.2 with x | ⟨g, cap, cur, hv, hgb, hc, r⟩
  · exact Or.inl x
  · have hg : v.ownBlock = some g := by rw [hv]; rfl
    exact Or.inr ⟨g, cap, cur, hv, hgb, by rw [k.block g (hlt g hg) (h.nf g hg)]; exact hc, r⟩
theorem LO.alloc {b : Nat} {w0 : World} {e : TypeId} {size : Nat} {v : Value} {n : Nat} {w : World} (h : LO b w0 e size v n w) (hb : b < w.heap.size) (o : Obj) : LO b w0 e size v n (w.alloc o) := h.keep ((RK.refl b w).alloc hb o)

/-- Behind an append to it. -/
theorem LO.next {b : Nat} {s : ByteArray} {d k : Nat} {c : Ct} {σ : Sp.St} {w0 : World} {e : TypeId} {size : Nat} {v : Value} {n : Nat} {w w1 : World} {g cap n' : Nat} {xs : List Value} (hrs : RS b s d k c σ w) (h : LO b w0 e size v n w) (hown : w1.ownsRow w0.heap.size e size (.slice (some ⟨g, 0, none⟩) n' cap) n' xs) (hg : w.grownBy w1 v.ownBlock) (hat : v.ownBlock = some g ∨ g = w.heap.size) : LO b w0 e size (.slice (some ⟨g, 0, none⟩) n' cap) n' w1 := by
  refine ⟨⟨xs, hown⟩, fun j hj hf => ?_⟩
  have : g = j := by simpa [Value.ownBlock] using hj
  subst this
  have hf' := hf.grown hrs.lb hg h.nf
  rcases hat with x | x
  · exact h.nf g x hf'
  · have := hrs.fp_lt hf'; omega
theorem LO.lo {b : Nat} {w0 : World} {e : TypeId} {size : Nat} {v : Value} {n : Nat} {w : World} (h : LO b w0 e size v n w) : ∀ g, v.ownBlock = some g → w0.heap.size ≤ g := by
  obtain ⟨xs, ho⟩ := h.own
  exact fun g hg => (owns_block ho g hg).1

theorem Tryz.info3 : (Tryz.prog.info? 3).map (fun i => (i.zero, i.size, i.bytes)) = some (some (.int .i64 0), 1, 8) := by kernel_rfl
theorem one1 (w : World) (q : Value) (t : TypeId) : ∀ j u, [q][j]? = some u → (w.alloc (.cells #[q] t)).cell? (Addr.add ⟨w.heap.size, 0, none⟩ j) = some u := by
  intro j u hj
  have e : Addr.add ⟨w.heap.size, 0, none⟩ j = ⟨w.heap.size, j, none⟩ := by simp [Addr.add]; omega
  rw [e, World.cell?_alloc_new, ← hj]
  simp
theorem int1 (q : Int) : ∀ u ∈ [Value.int .i64 q], u.oneCell' = true := by intro u hu; simp at hu; subst hu; rfl

set_option maxHeartbeats 4000000 in
theorem rlist_step {b : Nat} {s : ByteArray} {n : Nat} (IH : Hid (∀ m, m ≤ n → RAll b s m)) : RdL b s (n + 1) := by
  intro d k c σ w hd hm hp
  obtain ⟨i0, hi, hz0, hz1, hz2⟩ := info_parts Tryz.info3
  have hr := Sp.rem_run s.data.toList n .expr d σ
  have HP : Hid (RS b s d k c σ w) := hp
  have lb := hp.lb
  clear hp
  go_enter Tryz.func112, Tryz.ntmps112
  go_wp2_with fail
  refine ((IH.out n (Nat.le_refl _)).expr d k c σ _ (by omega) (by show 32 * Sp.rem s.data.toList σ + 9 ≤ n; omega) HP.out).mono ?_
  rintro r w1 ⟨q1, rfl, hp1, hk1⟩
  have HP1 : Hid (RS b s d (k) c (Sp.run s.data.toList n .expr d σ) w1) := hp1
  have HK1 : Hid (RK b w w1) := hk1
  clear hp1 hk1
  have l1 := HP1.out.lb
  have hb1 : w.heap.size ≤ (w1.alloc (.cells #[.int .i64 q1] 3)).heap.size := by have := HK1.out.size; simp; omega
  go_wp2_with (at_builtin; refine wpList_append_lies _ rfl (.tmp 7) (.tmp 9) 206 rfl w.heap.size 3 i0 (.int .i64 0) 1 8 Tryz.underlying206 hi hz0 hz1 hz2 rfl (by decide) _ 0 [] rfl (World.ownsRow_nil _ _ _ _) ⟨w1.heap.size, 0, none⟩ 1 1 [.int .i64 q1] rfl rfl (one1 _ _ _) (int1 _) (by decide) (by decide) (by decide) hb1 _ rfl ?_; intro g1 cap1 w2 hown2 hgrow2 hat2 hlt2)
  have HL2 : Hid (LO b w 3 1 (.slice (some ⟨g1, 0, none⟩) (0 + 1) cap1) (0 + 1) w2) := LO.next (HP1.out.alloc _) (LO.nil _ _ _ _ _) hown2 hgrow2 hat2
  have HP2 : Hid (RS b s d k c (Sp.run s.data.toList n .expr d σ) w2) := (HP1.out.alloc _).grown hgrow2 (fun g h => by cases h)
  have HK2 : Hid (RK b w w2) := (HK1.out.alloc l1 _).grown (by simp; omega) hgrow2 (fun g h => by cases h) (fun g h => by cases h)
  clear hown2 hgrow2 hat2 hlt2
  go_wp2_with fail
  go_loopg [3] n (fun m v wr => m ≤ n ∧ ∃ (σ' : Sp.St) (o : Option Addr) (j cp : Nat), v = .slice o j cp ∧ j + m ≤ n + 1 ∧ 32 * Sp.rem s.data.toList σ' + 1 ≤ m ∧ Hid (Sp.run s.data.toList (n + 1) .list d σ = Sp.run s.data.toList m .listL d σ') ∧ Hid (LO b w 3 1 (.slice o j cp) j wr) ∧ Hid (RS b s d k c σ' wr) ∧ Hid (RK b w wr))
  case atStart => exact ⟨Nat.le_refl _, _, _, _, _, rfl, by omega, by omega, rfl, HL2.out, HP2.out, HK2.out⟩
  case round =>
    obtain ⟨hmn, σ', o, j, cp, rfl, hjm, hms, HR, HLr, HPr, HKr⟩ := hrel
    obtain ⟨m, rfl⟩ : ∃ m, gk = m + 1 := ⟨gk - 1, by omega⟩
    have c7 := HPr.out.err
    cases hs : σ'.is s.data.toList [44]
    · have HV : Hid (Sp.run s.data.toList (m + 1) .listL d σ' = σ') := by show _ = _; rw [Sp.run, hs]; rfl
      cases σ' with
      | dead y a =>
        have hz := er_dead HPr.out
        clear hs
        go_wp2_with fail
        go_ret
        exact ⟨_, _, _, rfl, by rw [HR.out, HV.out]; exact HPr.out, HKr.out⟩
      | live e =>
        have hz : (((er (.live e) : Nat) : Int) == 0) = true := rfl
        go_wp2_with fail
        refine (ris_any HPr.out [44]).mono ?_
        rintro r w9 ⟨rfl, rfl⟩
        go_wp2_with fail
        go_ret
        exact ⟨_, _, _, rfl, by rw [HR.out, HV.out]; exact HPr.out, HKr.out⟩
    · have HV : Hid (Sp.run s.data.toList (m + 1) .listL d σ' = Sp.run s.data.toList m .listL d (Sp.run s.data.toList m .expr d (σ'.step s.data.toList))) := by show _ = _; rw [Sp.run, hs]; rfl
      have h1 := Sp.rem_step_lt hs
      have h2 := Sp.rem_run s.data.toList m .expr d (σ'.step s.data.toList)
      have hz : (((er σ' : Nat) : Int) == 0) = true := by obtain ⟨e, rfl, _⟩ := is_live hs; rfl
      go_wp2_with fail
      refine (ris_any HPr.out [44]).mono ?_
      rintro r w9 ⟨rfl, rfl⟩
      go_wp2_with fail
      refine (rstep_is HPr.out hs).mono ?_
      rintro r w3 ⟨rfl, hp3, hk3⟩
      have HL3 : Hid (LO b w 3 1 (.slice o j cp) j w3) := HLr.out.keep hk3
      have HP3 : Hid (RS b s d (k + 1) c (σ'.step s.data.toList) w3) := hp3
      have HK3 : Hid (RK b w w3) := HKr.out.trans hk3
      clear hp3 hk3
      go_wp2_with fail
      refine ((IH.out m (by omega)).expr d (k + 1) c _ _ (by omega) (by show 32 * Sp.rem s.data.toList _ + 9 ≤ m; omega) HP3.out).mono ?_
      rintro r w4 ⟨q4, rfl, hp4, hk4⟩
      have HL4 : Hid (LO b w 3 1 (.slice o j cp) j w4) := HL3.out.keep hk4
      have HP4 : Hid (RS b s d (k + 1) c (Sp.run s.data.toList m .expr d (σ'.step s.data.toList)) w4) := hp4
      have HK4 : Hid (RK b w w4) := HK3.out.trans hk4
      clear hp4 hk4
      have l4 := HP4.out.lb
      have hb4 : w.heap.size ≤ (w4.alloc (.cells #[.int .i64 q4] 3)).heap.size := by have := HK4.out.size; simp; omega
      have HA4 := HL4.out.alloc l4 (.cells #[.int .i64 q4] 3)
      obtain ⟨xs4, hx4⟩ := HA4.own
      have HX4 : Hid ((w4.alloc (.cells #[.int .i64 q4] 3)).ownsRow w.heap.size 3 1 (.slice o j cp) j xs4) := hx4
      have HA4h : Hid (LO b w 3 1 (.slice o j cp) j (w4.alloc (.cells #[.int .i64 q4] 3))) := HA4
      have hb63 : j + 1 ≤ maxLen := by unfold maxLen; omega
      have hb64 : (j + 1) * 8 ≤ 140737488355328 := by omega
      clear hx4 HA4
      go_wp2_with (at_builtin; refine wpList_append_lies _ rfl (.tmp 24) (.tmp 26) 206 rfl w.heap.size 3 i0 (.int .i64 0) 1 8 Tryz.underlying206 hi hz0 hz1 hz2 rfl (by decide) (.slice o j cp) j xs4 rfl HX4.out ⟨w4.heap.size, 0, none⟩ 1 1 [.int .i64 q4] rfl rfl (one1 _ _ _) (int1 _) (by decide) hb63 hb64 hb4 _ rfl ?_; intro g5 cap5 w5 hown5 hgrow5 hat5 hlt5)
      have HL5 : Hid (LO b w 3 1 (.slice (some ⟨g5, 0, none⟩) (j + 1) cap5) (j + 1) w5) := LO.next (HP4.out.alloc _) HA4h.out hown5 hgrow5 hat5
      have HP5 : Hid (RS b s d k c (Sp.run s.data.toList m .expr d (σ'.step s.data.toList)) w5) := ((HP4.out.alloc _).grown hgrow5 HA4h.out.nf).weak (by omega)
      have HK5 : Hid (RK b w w5) := (HK4.out.alloc l4 _).grown (by simp; omega) hgrow5 HA4h.out.nf HA4h.out.lo
      clear hown5 hgrow5 hat5 hlt5
      go_wp2_with fail
      go_roundg m
      case measure => omega
      case rel => exact ⟨by omega, _, _, _, _, rfl, by omega, by omega, by show _ = _; rw [HR.out, HV.out], HL5.out, HP5.out, HK5.out⟩
end Go.Proofs.YtgnncnhkgmhngaaGreatDoor
