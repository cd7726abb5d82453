import Derived.Test.YtpgeiieapkbjhaaGreatDoorP13
namespace Go.Proofs.YtpgeiieapkbjhaaGreatDoor
open Go.RowKit

theorem three (s : Sp.Bs) (x y z : Sp.Bs) (σ : Sp.St) : seesOne s [x, y, z] σ = (σ.is s x || σ.is s y || σ.is s z) := by simp [seesOne, Bool.or_assoc]

def colT (s : Sp.Bs) (σ : Sp.St) : Sp.St := if seesOne s [[105, 110, 116], [116, 101, 120, 116], [98, 111, 111, 108]] (σ.nameT s) then (σ.nameT s).step s else (σ.nameT s).fail s 2

theorem rem_colT (s : Sp.Bs) (σ : Sp.St) : Sp.rem s (colT s σ) ≤ Sp.rem s σ := by
  unfold colT
  have := Sp.rem_nameT s σ
  split
  · exact Nat.le_trans (Sp.rem_step_le _ _) this
  · rw [Sp.rem_fail]; omega

set_option maxHeartbeats 1000000 in
theorem column_any {b c cap len : Nat} {s : Sp.Bs} {d : Nat} {σ : Sp.St} {w : World} (h : PS b c cap len s d σ w) :
    Calls Tryz.prog 97 #[.pointer (some ⟨b, 0, none⟩)] w (Post b c cap len s d (colT s σ) w) := by
  have HP : Hid (PS b c cap len s d σ w) := h
  clear h
  go_enter Tryz.func97, Tryz.ntmps97
  go_wp2_with fail
  refine (name_any HP.out).mono ?_
  rintro r w1 ⟨rfl, hp1, hk1⟩
  have HP1 : Hid (PS b c cap len s d (σ.nameT s) w1) := hp1
  have HK1 : Hid (Kept b w w1) := hk1
  clear hp1 hk1
  go_wp2_with fail
  refine (expectOneOf_any HP1.out [[105, 110, 116], [116, 101, 120, 116], [98, 111, 111, 108]] (by decide) (by decide) 3 rfl _ rfl).mono ?_
  rintro r w2 ⟨rfl, hp2, hk2⟩
  have HP2 : Hid (PS b c cap len s d (colT s σ) w2) := hp2
  have HK2 : Hid (Kept b w w2) := HK1.out.trans hk2
  clear hp2 hk2
  go_wp2_with fail
  go_end0
  exact ⟨rfl, HP2.out, HK2.out⟩

/-- Of what was there nothing but blocks b and q has turned. -/
structure Kept2 (b q : Nat) (w w' : World) : Prop where
  os : w'.os = w.os
  tape : w'.tape = w.tape
  output : w'.output = w.output
  size : w.heap.size ≤ w'.heap.size
  block : ∀ k, k < w.heap.size → k ≠ b → k ≠ q → w'.heap[k]? = w.heap[k]?
theorem Kept2.refl (b q : Nat) (w : World) : Kept2 b q w w := ⟨rfl, rfl, rfl, Nat.le_refl _, fun _ _ _ _ => rfl⟩
theorem Kept2.trans {b q : Nat} {x y z : World} (h : Kept2 b q x y) (k : Kept2 b q y z) : Kept2 b q x z :=
  ⟨k.os.trans h.os, k.tape.trans h.tape, k.output.trans h.output, Nat.le_trans h.size k.size, fun i hi hb hq => (k.block i (Nat.lt_of_lt_of_le hi h.size) hb hq).trans (h.block i hi hb hq)⟩
theorem Kept2.of {b q : Nat} {w w' : World} (h : Kept b w w') : Kept2 b q w w' := ⟨h.os, h.tape, h.output, h.size, fun k hk hb _ => h.block k hk hb⟩
theorem Kept2.setCell {b q : Nat} {a w : World} (h : Kept2 b q a w) (o : Nat) (u : Value) : Kept2 b q a (w.setCell ⟨q, o, none⟩ u) :=
  h.trans ⟨rfl, rfl, rfl, by simp [World.setCell], fun k _ _ hq => Below.heap_setCell _ _ _ _ hq⟩
theorem Kept2.fresh {b q : Nat} {w w' : World} (h : Kept2 b q w w') (hq : w.heap.size ≤ q) : Kept b w w' := ⟨h.os, h.tape, h.output, h.size, fun k hk hb => h.block k hk hb (by omega)⟩
theorem Kept2.cell {b q : Nat} {w w' : World} (h : Kept2 b q w w') {p : Addr} (hp : p.block < w.heap.size) (hb : p.block ≠ b) (hq : p.block ≠ q) : w'.cell? p = w.cell? p := World.cell?_of_block (w := w) (h.block p.block hp hb hq)

theorem PS.other {b c cap len : Nat} {s : Sp.Bs} {d : Nat} {σ : Sp.St} {w : World} (h : PS b c cap len s d σ w) (q : Nat) (hb : q ≠ b) (hc : q ≠ c) (u : Value) : PS b c cap len s d σ (w.setCell ⟨q, 0, none⟩ u) := by
  have e : ∀ k, k ≠ q → (w.setCell ⟨q, 0, none⟩ u).heap[k]? = w.heap[k]? := fun k hk => Below.heap_setCell _ _ _ _ hk
  have eb : ∀ o, (w.setCell ⟨q, 0, none⟩ u).cell? ⟨b, o, none⟩ = w.cell? ⟨b, o, none⟩ := fun o => World.cell?_of_block (w := w) (a := ⟨b, o, none⟩) (e b (Ne.symm hb))
  have ec : ∀ o, (w.setCell ⟨q, 0, none⟩ u).cell? ⟨c, o, none⟩ = w.cell? ⟨c, o, none⟩ := fun o => World.cell?_of_block (w := w) (a := ⟨c, o, none⟩) (e c (Ne.symm hc))
  have ef : ∀ o, (w.setCell ⟨q, 0, none⟩ u).frozen? ⟨b, o, none⟩ = w.frozen? ⟨b, o, none⟩ := fun o => World.frozen?_of_block (w := w) (a := ⟨b, o, none⟩) (e b (Ne.symm hb))
  obtain ⟨i, hi, h1⟩ := h.h1
  refine ⟨by simpa using h.lb, by simpa using h.lc, h.ne, h.tk, (eb 0).trans h.h0, ⟨i, hi, (eb 1).trans h1⟩, (eb 2).trans h.h2, (eb 3).trans h.h3, (eb 4).trans h.h4, fun o => (ef o).trans (h.fz o), fun j hj => ?_⟩
  obtain ⟨wd, t⟩ := h.tc j hj
  exact ⟨wd, (ec _).trans t.k, (ec _).trans t.a, (ec _).trans t.t, t.ok⟩

/-- The boxes that create's literal has: how many columns; the parser. -/
structure Bx (b c q qp : Nat) (k : Nat) (w : World) : Prop where
  lq : q < w.heap.size
  lp : qp < w.heap.size
  qb : q ≠ b
  qc : q ≠ c
  pb : qp ≠ b
  pq : qp ≠ q
  hq : w.cell? ⟨q, 0, none⟩ = some (.int .i64 k)
  fq : w.frozen? ⟨q, 0, none⟩ = false
  hp : w.cell? ⟨qp, 0, none⟩ = some (.pointer (some ⟨b, 0, none⟩))

theorem Bx.kept {b c q qp k : Nat} {w w' : World} (h : Bx b c q qp k w) (kp : Kept b w w') : Bx b c q qp k w' :=
  ⟨Nat.lt_of_lt_of_le h.lq kp.size, Nat.lt_of_lt_of_le h.lp kp.size, h.qb, h.qc, h.pb, h.pq, (kp.cell (p := ⟨q, 0, none⟩) h.lq h.qb).trans h.hq, (kp.frozen (p := ⟨q, 0, none⟩) h.lq h.qb).trans h.fq, (kp.cell (p := ⟨qp, 0, none⟩) h.lp h.pb).trans h.hp⟩

theorem Bx.up {b c q qp k : Nat} {w : World} (h : Bx b c q qp k w) (u : Int) (hu : u = ((k + 1 : Nat) : Int)) : Bx b c q qp (k + 1) (w.setCell ⟨q, 0, none⟩ (.int .i64 u)) := by
  subst hu
  have hq := h.hq
  have hp := h.hp
  have fq := h.fq
  have ne : (⟨qp, 0, none⟩ : Addr) ≠ ⟨q, 0, none⟩ := by intro e; injection e with e; exact h.pq e
  exact ⟨by simpa using h.lq, by simpa using h.lp, h.qb, h.qc, h.pb, h.pq, World.cell?_setCell_same _ _ _ hq, by rw [World.frozen?_setCell]; exact fq, (World.cell?_setCell_other _ _ _ _ ne.symm).trans hp⟩

def colF (s : Sp.Bs) (k : Nat) (σ : Sp.St) : Sp.St := colT s (if k == 6 then σ.fail s 2 else σ)

set_option maxHeartbeats 1000000 in
theorem create1_any {b c cap len q qp k : Nat} {s : Sp.Bs} {d : Nat} {σ : Sp.St} {w : World} (h : PS b c cap len s d σ w) (x : Bx b c q qp k w) (hk : k ≤ 6) :
    Calls Tryz.prog 96 #[.pointer (some ⟨q, 0, none⟩), .pointer (some ⟨qp, 0, none⟩)] w fun r w' => r = .returned (.tuple #[]) ∧ PS b c cap len s d (colF s k σ) w' ∧ Bx b c q qp (k + 1) w' ∧ Kept2 b q w w' := by
  have hq := x.hq
  have hp := x.hp
  have fq := x.fq
  have HX := x.up ((k : Int) + 1) rfl
  have hq1 := HX.hq
  have hp1 := HX.hp
  have HP : Hid (PS b c cap len s d σ (w.setCell ⟨q, 0, none⟩ (.int .i64 ((k : Int) + 1)))) := h.other q x.qb x.qc _
  have HB : Hid (Bx b c q qp (k + 1) (w.setCell ⟨q, 0, none⟩ (.int .i64 ((k : Int) + 1)))) := HX
  have HK : Hid (Kept2 b q w (w.setCell ⟨q, 0, none⟩ (.int .i64 ((k : Int) + 1)))) := (Kept2.refl b q w).setCell 0 _
  clear h x HX
  have hq1' : (w.setCell ⟨q, 0, none⟩ (.int .i64 ((k : Int) + 1))).cell? ⟨q, 0, none⟩ = some (.int .i64 ((k : Int) + 1)) := hq1
  clear hq1
  by_cases h6 : ¬ k < 6
  · have HE : Hid (colF s k σ = colT s (σ.fail s 2)) := by
      obtain rfl : k = 6 := by omega
      rfl
    go_enter Tryz.func96, Tryz.ntmps96
    go_wp2_with fail
    refine (refuse_any HP.out).mono ?_
    rintro r w1 ⟨rfl, p1, k1⟩
    have HP1 : Hid (PS b c cap len s d (σ.fail s 2) w1) := p1
    have HB1 : Hid (Bx b c q qp (k + 1) w1) := HB.out.kept k1
    have HK1 : Hid (Kept2 b q w w1) := HK.out.trans (Kept2.of k1)
    have hp2 := HB1.out.hp
    clear p1 k1
    go_wp2_with fail
    refine (column_any HP1.out).mono ?_
    rintro r w2 ⟨rfl, p2, k2⟩
    have HP2 : Hid (PS b c cap len s d (colT s (σ.fail s 2)) w2) := p2
    have HB2 : Hid (Bx b c q qp (k + 1) w2) := HB1.out.kept k2
    have HK2 : Hid (Kept2 b q w w2) := HK1.out.trans (Kept2.of k2)
    clear p2 k2
    go_wp2_with fail
    go_end0
    exact ⟨rfl, by rw [HE.out]; exact HP2.out, HB2.out, HK2.out⟩
  · have HE : Hid (colF s k σ = colT s σ) := by show _ = _; unfold colF; rw [if_neg (by simp; omega)]
    go_enter Tryz.func96, Tryz.ntmps96
    go_wp2_with fail
    refine (column_any HP.out).mono ?_
    rintro r w2 ⟨rfl, p2, k2⟩
    have HP2 : Hid (PS b c cap len s d (colT s σ) w2) := p2
    have HB2 : Hid (Bx b c q qp (k + 1) w2) := HB.out.kept k2
    have HK2 : Hid (Kept2 b q w w2) := HK.out.trans (Kept2.of k2)
    clear p2 k2
    go_wp2_with fail
    go_end0
    exact ⟨rfl, by rw [HE.out]; exact HP2.out, HB2.out, HK2.out⟩

theorem colL_eq (s : Sp.Bs) (n k : Nat) (σ : Sp.St) : Sp.colL s (n + 1) k σ = if (colF s k σ).is s [44] then Sp.colL s n (k + 1) ((colF s k σ).step s) else colF s k σ := by
  rw [Sp.colL]
  simp only [← three]
  rfl

theorem colF_dead (s : Sp.Bs) (σ : Sp.St) : (colF s 6 σ).is s [44] = false := by
  have h : ∃ x a, σ.fail s 2 = .dead x a := by cases σ <;> exact ⟨_, _, rfl⟩
  obtain ⟨x, a, h⟩ := h
  have : colF s 6 σ = .dead x a := by
    show colT s (σ.fail s 2) = _
    rw [h]; rfl
  rw [this]; rfl

theorem colF_dead' (s : Sp.Bs) (σ : Sp.St) (k : Nat) (h : k + 1 = 7) : (colF s k σ).is s [44] = false := by
  obtain rfl : k = 6 := by omega
  exact colF_dead s σ

theorem rem_colF (s : Sp.Bs) (k : Nat) (σ : Sp.St) : Sp.rem s (colF s k σ) ≤ Sp.rem s σ := by
  unfold colF
  refine Nat.le_trans (rem_colT _ _) ?_
  split
  · rw [Sp.rem_fail]; omega
  · exact Nat.le_refl _

set_option maxHeartbeats 1000000 in
theorem listC_any {b c cap len q qp : Nat} {s : Sp.Bs} {n d : Nat} {σ : Sp.St} {w : World} (hm : 32 * Sp.rem s σ + 2 ≤ n) (h : PS b c cap len s d σ w) (x : Bx b c q qp 0 w) :
    Calls Tryz.prog 95 #[.pointer (some ⟨b, 0, none⟩), .func (.func 96) #[] #[.pointer (some ⟨q, 0, none⟩), .pointer (some ⟨qp, 0, none⟩)]] w fun r w' => r = .returned (.tuple #[]) ∧ PS b c cap len s d (Sp.colL s n 0 σ) w' ∧ Kept2 b q w w' ∧ ∃ k, Bx b c q qp k w' := by
  obtain ⟨n, rfl⟩ : ∃ m, n = m + 1 := ⟨n - 1, by omega⟩
  have hr := rem_colF s 0 σ
  have HP : Hid (PS b c cap len s d σ w) := h
  have HX : Hid (Bx b c q qp 0 w) := x
  clear h x
  have HE : Hid (Sp.colL s (n + 1) 0 σ = if (colF s 0 σ).is s [44] then Sp.colL s n (0 + 1) ((colF s 0 σ).step s) else colF s 0 σ) := colL_eq s n 0 σ
  go_enter Tryz.func95, Tryz.ntmps95
  go_wp2_with fail
  refine (create1_any HP.out HX.out (by omega)).mono ?_
  rintro r w1 ⟨rfl, p1, x1, k1⟩
  have HP1 : Hid (PS b c cap len s d (colF s 0 σ) w1) := p1
  have HX1 : Hid (Bx b c q qp (0 + 1) w1) := x1
  have HK1 : Hid (Kept2 b q w w1) := k1
  clear p1 x1 k1
  go_wp2_with fail
  go_loopg [8] n (fun m _ wr => m ≤ n ∧ ∃ σ' k, 32 * Sp.rem s σ' ≤ m + 1 ∧ k ≤ 7 ∧ Hid (k = 7 → σ'.is s [44] = false) ∧ Hid (Sp.colL s (n + 1) 0 σ = if σ'.is s [44] then Sp.colL s m k (σ'.step s) else σ') ∧ Hid (PS b c cap len s d σ' wr) ∧ Hid (Bx b c q qp k wr) ∧ Hid (Kept2 b q w wr))
  case atStart => exact ⟨Nat.le_refl _, _, 0 + 1, by omega, by omega, fun e => absurd e (by omega), HE.out, HP1.out, HX1.out, HK1.out⟩
  case round =>
    obtain ⟨hmn, σ', k, hms, hk7, H7, HR, HPr, HXr, HKr⟩ := hrel
    cases hs : σ'.is s [44]
    · have HV : Hid (Sp.colL s (n + 1) 0 σ = σ') := by show _ = _; rw [HR.out, hs]; rfl
      have HT : Hid (σ'.take s [44] = σ') := by show _ = _; rw [Sp.St.take, hs]; rfl
      clear HR
      go_wp2_with fail
      refine (accept1 HPr.out [44] (by decide)).mono ?_
      rintro r w2 ⟨rfl, hp2, hk2⟩
      rw [HT.out] at hp2
      have HP2 : Hid (PS b c cap len s d σ' w2) := hp2
      have HK2 : Hid (Kept2 b q w w2) := HKr.out.trans (Kept2.of hk2)
      have HX2 : Hid (Bx b c q qp k w2) := HXr.out.kept hk2
      clear hp2 hk2
      go_wp2_with fail
      go_end0
      exact ⟨rfl, by rw [HV.out]; exact HP2.out, HK2.out, k, HX2.out⟩
    · have h1 := Sp.rem_step_lt hs
      have hk6 : k ≤ 6 := by
        rcases Nat.lt_or_ge 6 k with y | y
        · have := H7.out (by omega); rw [hs] at this; cases this
        · exact y
      obtain ⟨m, rfl⟩ : ∃ m, gk = m + 1 := ⟨gk - 1, by omega⟩
      have h2 := rem_colF s k (σ'.step s)
      have HV : Hid (Sp.colL s (n + 1) 0 σ = if (colF s k (σ'.step s)).is s [44] then Sp.colL s m (k + 1) ((colF s k (σ'.step s)).step s) else colF s k (σ'.step s)) := by show _ = _; rw [HR.out, hs, if_pos rfl, colL_eq]
      have HT : Hid (σ'.take s [44] = σ'.step s) := by show _ = _; rw [Sp.St.take, hs]; rfl
      have H8 : Hid (k + 1 = 7 → (colF s k (σ'.step s)).is s [44] = false) := fun e => colF_dead' s _ k e
      clear HR
      go_wp2_with fail
      refine (accept1 HPr.out [44] (by decide)).mono ?_
      rintro r w2 ⟨rfl, hp2, hk2⟩
      rw [HT.out] at hp2
      have HP2 : Hid (PS b c cap len s d (σ'.step s) w2) := hp2
      have HK2 : Hid (Kept2 b q w w2) := HKr.out.trans (Kept2.of hk2)
      have HX2 : Hid (Bx b c q qp k w2) := HXr.out.kept hk2
      clear hp2 hk2
      go_wp2_with fail
      refine (create1_any HP2.out HX2.out hk6).mono ?_
      rintro r w3 ⟨rfl, p3, x3, k3⟩
      have HP3 : Hid (PS b c cap len s d (colF s k (σ'.step s)) w3) := p3
      have HX3 : Hid (Bx b c q qp (k + 1) w3) := x3
      have HK3 : Hid (Kept2 b q w w3) := HK2.out.trans k3
      clear p3 x3 k3
      go_wp2_with fail
      go_roundg m
      case measure => omega
      case rel => exact ⟨by omega, _, k + 1, by omega, by omega, H8.out, HV.out, HP3.out, HX3.out, HK3.out⟩

end Go.Proofs.YtpgeiieapkbjhaaGreatDoor
