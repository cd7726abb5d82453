import Derived.Test.YtgnncnhkgmhngaaGreatDoorR24
namespace Go.Proofs.YtgnncnhkgmhngaaGreatDoor
open Go.RowKit

theorem RS.s9 {b : Nat} {s : ByteArray} {d k : Nat} {c : Ct} {σ : Sp.St} {w : World} (h : RS b s d k c σ w) (v : ByteArray) : RS b s d k c σ (w.setCell ⟨b, 9, none⟩ (.string v)) := by
  obtain ⟨hs, x, hc, ho, ht⟩ := h
  obtain ⟨o1, o2, o3, o4, o5⟩ := ho.set 9 (.string v)
  exact ⟨hs, _, hc.s9 v, ⟨o1, o2, o3, o4, o5⟩, by cases σ <;> exact ht⟩
theorem RS.s10 {b : Nat} {s : ByteArray} {d k : Nat} {c : Ct} {σ : Sp.St} {w : World} (h : RS b s d k c σ w) (v : ByteArray) : RS b s d k c σ (w.setCell ⟨b, 10, none⟩ (.string v)) := by
  obtain ⟨hs, x, hc, ho, ht⟩ := h
  obtain ⟨o1, o2, o3, o4, o5⟩ := ho.set 10 (.string v)
  exact ⟨hs, _, hc.s10 v, ⟨o1, o2, o3, o4, o5⟩, by cases σ <;> exact ht⟩
theorem RS.s11 {b : Nat} {s : ByteArray} {d k : Nat} {c : Ct} {σ : Sp.St} {w : World} (h : RS b s d k c σ w) (v : Int) : RS b s d k c σ (w.setCell ⟨b, 11, none⟩ (.int .i64 v)) := by
  obtain ⟨hs, x, hc, ho, ht⟩ := h
  obtain ⟨o1, o2, o3, o4, o5⟩ := ho.set 11 (.int .i64 v)
  exact ⟨hs, _, hc.s11 v, ⟨o1, o2, o3, o4, o5⟩, by cases σ <;> exact ht⟩
theorem RS.s15 {b : Nat} {s : ByteArray} {d k : Nat} {c : Ct} {σ : Sp.St} {w : World} (h : RS b s d k c σ w) (v : Int) : RS b s d k c σ (w.setCell ⟨b, 15, none⟩ (.int .i64 v)) := by
  obtain ⟨hs, x, hc, ho, ht⟩ := h
  obtain ⟨o1, o2, o3, o4, o5⟩ := ho.set 15 (.int .i64 v)
  exact ⟨hs, _, hc.s15 v, ⟨o1, o2, o3, o4, o5⟩, by cases σ <;> exact ht⟩
theorem RS.s16 {b : Nat} {s : ByteArray} {d k : Nat} {c : Ct} {σ : Sp.St} {w : World} (h : RS b s d k c σ w) (v : Int) : RS b s d k c σ (w.setCell ⟨b, 16, none⟩ (.int .i64 v)) := by
  obtain ⟨hs, x, hc, ho, ht⟩ := h
  obtain ⟨o1, o2, o3, o4, o5⟩ := ho.set 16 (.int .i64 v)
  exact ⟨hs, _, hc.s16 v, ⟨o1, o2, o3, o4, o5⟩, by cases σ <;> exact ht⟩
theorem RS.s17 {b : Nat} {s : ByteArray} {d k : Nat} {c : Ct} {σ : Sp.St} {w : World} (h : RS b s d k c σ w) (v : Int) : RS b s d k c σ (w.setCell ⟨b, 17, none⟩ (.int .i64 v)) := by
  obtain ⟨hs, x, hc, ho, ht⟩ := h
  obtain ⟨o1, o2, o3, o4, o5⟩ := ho.set 17 (.int .i64 v)
  exact ⟨hs, _, hc.s17 v, ⟨o1, o2, o3, o4, o5⟩, by cases σ <;> exact ht⟩
theorem RS.s18 {b : Nat} {s : ByteArray} {d k : Nat} {c : Ct} {σ : Sp.St} {w : World} (h : RS b s d k c σ w) (v : Int) : RS b s d k c σ (w.setCell ⟨b, 18, none⟩ (.int .i64 v)) := by
  obtain ⟨hs, x, hc, ho, ht⟩ := h
  obtain ⟨o1, o2, o3, o4, o5⟩ := ho.set 18 (.int .i64 v)
  exact ⟨hs, _, hc.s18 v, ⟨o1, o2, o3, o4, o5⟩, by cases σ <;> exact ht⟩
theorem RS.cs {b : Nat} {s : ByteArray} {d k : Nat} {c : Ct} {σ : Sp.St} {w : World} (h : RS b s d k c σ w) : ∃ (v9 v10 : ByteArray) (v11 v15 v16 v17 v18 : Int), w.cell? ⟨b, 9, none⟩ = some (.string v9) ∧ w.cell? ⟨b, 10, none⟩ = some (.string v10) ∧ w.cell? ⟨b, 11, none⟩ = some (.int .i64 v11) ∧ w.cell? ⟨b, 15, none⟩ = some (.int .i64 v15) ∧ w.cell? ⟨b, 16, none⟩ = some (.int .i64 v16) ∧ w.cell? ⟨b, 17, none⟩ = some (.int .i64 v17) ∧ w.cell? ⟨b, 18, none⟩ = some (.int .i64 v18) ∧ ∀ o, w.frozen? ⟨b, o, none⟩ = false := by
  obtain ⟨_, x, hc, _⟩ := h
  exact ⟨_, _, _, _, _, _, _, hc.c9, hc.c10, hc.c11, hc.c15, hc.c16, hc.c17, hc.c18, hc.fz⟩

/-- What statement leaves. -/
def RSt (b : Nat) (s : ByteArray) (k n : Nat) (σ : Sp.St) (w : World) (r : Ending) (w' : World) : Prop := r = .returned (.tuple #[]) ∧ ∃ c, RS b s 0 k c (Sp.stmt s.data.toList n σ) w' ∧ RK b w w'

set_option maxRecDepth 100000 in
set_option maxHeartbeats 8000000 in
theorem rst_begin {b : Nat} {s : ByteArray} {n k : Nat} {c : Ct} {σ : Sp.St} {w : World} (_IA : Hid (RAll b s n)) (_hn : n ≤ 900000) (_hm : 32 * Sp.rem s.data.toList σ + 20 ≤ n) (_hc0 : c = ⟨0, 0, 0⟩) (HP : Hid (RS b s 0 k c σ w)) (hs : σ.is s.data.toList [98, 101, 103, 105, 110] = true) :
    Calls Tryz.prog 45 #[.pointer (some ⟨b, 0, none⟩)] w (RSt b s k n σ w) := by
  have lb := HP.out.lb
  obtain ⟨kd, ts, ta, tn, c1, c2, c3, c4, hw, hcl⟩ := HP.out.tok
  have hb := hs
  rw [hw, Bool.and_eq_true] at hb
  have hts : ts.toList = [98, 101, 103, 105, 110] := by simpa using hb.2
  have hkd : kd.toList = [107, 101, 121] := by simpa using hb.1
  have hkb : (kd.toList == [107, 101, 121]) = true := by rw [hkd]; rfl
  have hw' : ∀ z, σ.is s.data.toList z = (ts.toList == z) := fun z => by rw [hw, decide_eq_true hkd]; rfl
  have e0 : (ts.toList == [99, 114, 101, 97, 116, 101]) = false := by rw [hts]; rfl
  have f0 : σ.is s.data.toList [99, 114, 101, 97, 116, 101] = false := (hw' _).trans e0
  have e1 : (ts.toList == [100, 114, 111, 112]) = false := by rw [hts]; rfl
  have f1 : σ.is s.data.toList [100, 114, 111, 112] = false := (hw' _).trans e1
  have e2 : (ts.toList == [105, 110, 115, 101, 114, 116]) = false := by rw [hts]; rfl
  have f2 : σ.is s.data.toList [105, 110, 115, 101, 114, 116] = false := (hw' _).trans e2
  have e3 : (ts.toList == [100, 101, 108, 101, 116, 101]) = false := by rw [hts]; rfl
  have f3 : σ.is s.data.toList [100, 101, 108, 101, 116, 101] = false := (hw' _).trans e3
  have e4 : (ts.toList == [117, 112, 100, 97, 116, 101]) = false := by rw [hts]; rfl
  have f4 : σ.is s.data.toList [117, 112, 100, 97, 116, 101] = false := (hw' _).trans e4
  have e5 : (ts.toList == [98, 101, 103, 105, 110]) = true := by rw [hts]; rfl
  have f5 : σ.is s.data.toList [98, 101, 103, 105, 110] = true := (hw' _).trans e5
  have HV : Hid (Sp.stmt s.data.toList n σ = σ.step s.data.toList) := by show _ = _; unfold Sp.stmt; simp [f0, f1, f2, f3, f4, f5]
  clear hw hcl hw' hb hts hkd f0 f1 f2 f3 f4 f5
  obtain ⟨v9, v10, v11, v15, v16, v17, v18, d9, d10, d11, d15, d16, d17, d18, dz⟩ := HP.out.cs
  have z9 := dz 9
  have z15 := dz 15
  have z17 := dz 17
  clear dz d10 d11 d16 d18
  have HP0 : Hid (RS b s 0 k c σ (((w.setCell ⟨b, 15, none⟩ (.int .i64 (-1))).setCell ⟨b, 17, none⟩ (.int .i64 (-1))).setCell ⟨b, 9, none⟩ (.string ts))) := ((HP.out.s15 (-1)).s17 (-1)).s9 ts
  have HK0 : Hid (RK b w (((w.setCell ⟨b, 15, none⟩ (.int .i64 (-1))).setCell ⟨b, 17, none⟩ (.int .i64 (-1))).setCell ⟨b, 9, none⟩ (.string ts))) := (((RK.refl b w).set 15 (by decide) _).set 17 (by decide) _).set 9 (by decide) _
  go_enter Tryz.func45, Tryz.ntmps45
  go_wp2_with fail
  refine (rstep_is HP0.out hs).mono ?_
  rintro r w1 ⟨rfl, hp1, hk1⟩
  have HP1 : Hid (RS b s 0 k c (σ.step s.data.toList) w1) := hp1.weak (Nat.le_succ k)
  have HK1 : Hid (RK b w w1) := HK0.out.trans hk1
  clear hp1 hk1 c1 c2 c3 c4 d9 d15 d17 z9 z15 z17 HP0 HK0 e0 e1 e2 e3 e4 e5
  have t1 := Sp.rem_step_le s.data.toList σ
  go_wp2_with fail
  go_end0
  exact ⟨rfl, _, by rw [HV.out]; exact HP1.out, HK1.out⟩

set_option maxRecDepth 100000 in
set_option maxHeartbeats 8000000 in
theorem rst_commit {b : Nat} {s : ByteArray} {n k : Nat} {c : Ct} {σ : Sp.St} {w : World} (_IA : Hid (RAll b s n)) (_hn : n ≤ 900000) (_hm : 32 * Sp.rem s.data.toList σ + 20 ≤ n) (_hc0 : c = ⟨0, 0, 0⟩) (HP : Hid (RS b s 0 k c σ w)) (hs : σ.is s.data.toList [99, 111, 109, 109, 105, 116] = true) :
    Calls Tryz.prog 45 #[.pointer (some ⟨b, 0, none⟩)] w (RSt b s k n σ w) := by
  have lb := HP.out.lb
  obtain ⟨kd, ts, ta, tn, c1, c2, c3, c4, hw, hcl⟩ := HP.out.tok
  have hb := hs
  rw [hw, Bool.and_eq_true] at hb
  have hts : ts.toList = [99, 111, 109, 109, 105, 116] := by simpa using hb.2
  have hkd : kd.toList = [107, 101, 121] := by simpa using hb.1
  have hkb : (kd.toList == [107, 101, 121]) = true := by rw [hkd]; rfl
  have hw' : ∀ z, σ.is s.data.toList z = (ts.toList == z) := fun z => by rw [hw, decide_eq_true hkd]; rfl
  have e0 : (ts.toList == [99, 114, 101, 97, 116, 101]) = false := by rw [hts]; rfl
  have f0 : σ.is s.data.toList [99, 114, 101, 97, 116, 101] = false := (hw' _).trans e0
  have e1 : (ts.toList == [100, 114, 111, 112]) = false := by rw [hts]; rfl
  have f1 : σ.is s.data.toList [100, 114, 111, 112] = false := (hw' _).trans e1
  have e2 : (ts.toList == [105, 110, 115, 101, 114, 116]) = false := by rw [hts]; rfl
  have f2 : σ.is s.data.toList [105, 110, 115, 101, 114, 116] = false := (hw' _).trans e2
  have e3 : (ts.toList == [100, 101, 108, 101, 116, 101]) = false := by rw [hts]; rfl
  have f3 : σ.is s.data.toList [100, 101, 108, 101, 116, 101] = false := (hw' _).trans e3
  have e4 : (ts.toList == [117, 112, 100, 97, 116, 101]) = false := by rw [hts]; rfl
  have f4 : σ.is s.data.toList [117, 112, 100, 97, 116, 101] = false := (hw' _).trans e4
  have e5 : (ts.toList == [98, 101, 103, 105, 110]) = false := by rw [hts]; rfl
  have f5 : σ.is s.data.toList [98, 101, 103, 105, 110] = false := (hw' _).trans e5
  have e6 : (ts.toList == [99, 111, 109, 109, 105, 116]) = true := by rw [hts]; rfl
  have f6 : σ.is s.data.toList [99, 111, 109, 109, 105, 116] = true := (hw' _).trans e6
  have HV : Hid (Sp.stmt s.data.toList n σ = σ.step s.data.toList) := by show _ = _; unfold Sp.stmt; simp [f0, f1, f2, f3, f4, f5, f6]
  clear hw hcl hw' hb hts hkd f0 f1 f2 f3 f4 f5 f6
  obtain ⟨v9, v10, v11, v15, v16, v17, v18, d9, d10, d11, d15, d16, d17, d18, dz⟩ := HP.out.cs
  have z9 := dz 9
  have z15 := dz 15
  have z17 := dz 17
  clear dz d10 d11 d16 d18
  have HP0 : Hid (RS b s 0 k c σ (((w.setCell ⟨b, 15, none⟩ (.int .i64 (-1))).setCell ⟨b, 17, none⟩ (.int .i64 (-1))).setCell ⟨b, 9, none⟩ (.string ts))) := ((HP.out.s15 (-1)).s17 (-1)).s9 ts
  have HK0 : Hid (RK b w (((w.setCell ⟨b, 15, none⟩ (.int .i64 (-1))).setCell ⟨b, 17, none⟩ (.int .i64 (-1))).setCell ⟨b, 9, none⟩ (.string ts))) := (((RK.refl b w).set 15 (by decide) _).set 17 (by decide) _).set 9 (by decide) _
  go_enter Tryz.func45, Tryz.ntmps45
  go_wp2_with fail
  refine (rstep_is HP0.out hs).mono ?_
  rintro r w1 ⟨rfl, hp1, hk1⟩
  have HP1 : Hid (RS b s 0 k c (σ.step s.data.toList) w1) := hp1.weak (Nat.le_succ k)
  have HK1 : Hid (RK b w w1) := HK0.out.trans hk1
  clear hp1 hk1 c1 c2 c3 c4 d9 d15 d17 z9 z15 z17 HP0 HK0 e0 e1 e2 e3 e4 e5 e6
  have t1 := Sp.rem_step_le s.data.toList σ
  go_wp2_with fail
  go_end0
  exact ⟨rfl, _, by rw [HV.out]; exact HP1.out, HK1.out⟩

set_option maxRecDepth 100000 in
set_option maxHeartbeats 8000000 in
theorem rst_rollback {b : Nat} {s : ByteArray} {n k : Nat} {c : Ct} {σ : Sp.St} {w : World} (_IA : Hid (RAll b s n)) (_hn : n ≤ 900000) (_hm : 32 * Sp.rem s.data.toList σ + 20 ≤ n) (_hc0 : c = ⟨0, 0, 0⟩) (HP : Hid (RS b s 0 k c σ w)) (hs : σ.is s.data.toList [114, 111, 108, 108, 98, 97, 99, 107] = true) :
    Calls Tryz.prog 45 #[.pointer (some ⟨b, 0, none⟩)] w (RSt b s k n σ w) := by
  have lb := HP.out.lb
  obtain ⟨kd, ts, ta, tn, c1, c2, c3, c4, hw, hcl⟩ := HP.out.tok
  have hb := hs
  rw [hw, Bool.and_eq_true] at hb
  have hts : ts.toList = [114, 111, 108, 108, 98, 97, 99, 107] := by simpa using hb.2
  have hkd : kd.toList = [107, 101, 121] := by simpa using hb.1
  have hkb : (kd.toList == [107, 101, 121]) = true := by rw [hkd]; rfl
  have hw' : ∀ z, σ.is s.data.toList z = (ts.toList == z) := fun z => by rw [hw, decide_eq_true hkd]; rfl
  have e0 : (ts.toList == [99, 114, 101, 97, 116, 101]) = false := by rw [hts]; rfl
  have f0 : σ.is s.data.toList [99, 114, 101, 97, 116, 101] = false := (hw' _).trans e0
  have e1 : (ts.toList == [100, 114, 111, 112]) = false := by rw [hts]; rfl
  have f1 : σ.is s.data.toList [100, 114, 111, 112] = false := (hw' _).trans e1
  have e2 : (ts.toList == [105, 110, 115, 101, 114, 116]) = false := by rw [hts]; rfl
  have f2 : σ.is s.data.toList [105, 110, 115, 101, 114, 116] = false := (hw' _).trans e2
  have e3 : (ts.toList == [100, 101, 108, 101, 116, 101]) = false := by rw [hts]; rfl
  have f3 : σ.is s.data.toList [100, 101, 108, 101, 116, 101] = false := (hw' _).trans e3
  have e4 : (ts.toList == [117, 112, 100, 97, 116, 101]) = false := by rw [hts]; rfl
  have f4 : σ.is s.data.toList [117, 112, 100, 97, 116, 101] = false := (hw' _).trans e4
  have e5 : (ts.toList == [98, 101, 103, 105, 110]) = false := by rw [hts]; rfl
  have f5 : σ.is s.data.toList [98, 101, 103, 105, 110] = false := (hw' _).trans e5
  have e6 : (ts.toList == [99, 111, 109, 109, 105, 116]) = false := by rw [hts]; rfl
  have f6 : σ.is s.data.toList [99, 111, 109, 109, 105, 116] = false := (hw' _).trans e6
  have e7 : (ts.toList == [114, 111, 108, 108, 98, 97, 99, 107]) = true := by rw [hts]; rfl
  have f7 : σ.is s.data.toList [114, 111, 108, 108, 98, 97, 99, 107] = true := (hw' _).trans e7
  have HV : Hid (Sp.stmt s.data.toList n σ = σ.step s.data.toList) := by show _ = _; unfold Sp.stmt; simp [f0, f1, f2, f3, f4, f5, f6, f7]
  clear hw hcl hw' hb hts hkd f0 f1 f2 f3 f4 f5 f6 f7
  obtain ⟨v9, v10, v11, v15, v16, v17, v18, d9, d10, d11, d15, d16, d17, d18, dz⟩ := HP.out.cs
  have z9 := dz 9
  have z15 := dz 15
  have z17 := dz 17
  clear dz d10 d11 d16 d18
  have HP0 : Hid (RS b s 0 k c σ (((w.setCell ⟨b, 15, none⟩ (.int .i64 (-1))).setCell ⟨b, 17, none⟩ (.int .i64 (-1))).setCell ⟨b, 9, none⟩ (.string ts))) := ((HP.out.s15 (-1)).s17 (-1)).s9 ts
  have HK0 : Hid (RK b w (((w.setCell ⟨b, 15, none⟩ (.int .i64 (-1))).setCell ⟨b, 17, none⟩ (.int .i64 (-1))).setCell ⟨b, 9, none⟩ (.string ts))) := (((RK.refl b w).set 15 (by decide) _).set 17 (by decide) _).set 9 (by decide) _
  go_enter Tryz.func45, Tryz.ntmps45
  go_wp2_with fail
  refine (rstep_is HP0.out hs).mono ?_
  rintro r w1 ⟨rfl, hp1, hk1⟩
  have HP1 : Hid (RS b s 0 k c (σ.step s.data.toList) w1) := hp1.weak (Nat.le_succ k)
  have HK1 : Hid (RK b w w1) := HK0.out.trans hk1
  clear hp1 hk1 c1 c2 c3 c4 d9 d15 d17 z9 z15 z17 HP0 HK0 e0 e1 e2 e3 e4 e5 e6 e7
  have t1 := Sp.rem_step_le s.data.toList σ
  go_wp2_with fail
  go_end0
  exact ⟨rfl, _, by rw [HV.out]; exact HP1.out, HK1.out⟩

set_option maxRecDepth 100000 in
set_option maxHeartbeats 8000000 in
theorem rst_drop {b : Nat} {s : ByteArray} {n k : Nat} {c : Ct} {σ : Sp.St} {w : World} (_IA : Hid (RAll b s n)) (_hn : n ≤ 900000) (_hm : 32 * Sp.rem s.data.toList σ + 20 ≤ n) (_hc0 : c = ⟨0, 0, 0⟩) (HP : Hid (RS b s 0 k c σ w)) (hs : σ.is s.data.toList [100, 114, 111, 112] = true) :
    Calls Tryz.prog 45 #[.pointer (some ⟨b, 0, none⟩)] w (RSt b s k n σ w) := by
  have lb := HP.out.lb
  obtain ⟨kd, ts, ta, tn, c1, c2, c3, c4, hw, hcl⟩ := HP.out.tok
  have hb := hs
  rw [hw, Bool.and_eq_true] at hb
  have hts : ts.toList = [100, 114, 111, 112] := by simpa using hb.2
  have hkd : kd.toList = [107, 101, 121] := by simpa using hb.1
  have hkb : (kd.toList == [107, 101, 121]) = true := by rw [hkd]; rfl
  have hw' : ∀ z, σ.is s.data.toList z = (ts.toList == z) := fun z => by rw [hw, decide_eq_true hkd]; rfl
  have e0 : (ts.toList == [99, 114, 101, 97, 116, 101]) = false := by rw [hts]; rfl
  have f0 : σ.is s.data.toList [99, 114, 101, 97, 116, 101] = false := (hw' _).trans e0
  have e1 : (ts.toList == [100, 114, 111, 112]) = true := by rw [hts]; rfl
  have f1 : σ.is s.data.toList [100, 114, 111, 112] = true := (hw' _).trans e1
  have HV : Hid (Sp.stmt s.data.toList n σ = ((σ.step s.data.toList).must s.data.toList [116, 97, 98, 108, 101]).nameT s.data.toList) := by show _ = _; unfold Sp.stmt; simp [f0, f1]
  clear hw hcl hw' hb hts hkd f0 f1
  obtain ⟨v9, v10, v11, v15, v16, v17, v18, d9, d10, d11, d15, d16, d17, d18, dz⟩ := HP.out.cs
  have z9 := dz 9
  have z15 := dz 15
  have z17 := dz 17
  clear dz d10 d11 d16 d18
  have HP0 : Hid (RS b s 0 k c σ (((w.setCell ⟨b, 15, none⟩ (.int .i64 (-1))).setCell ⟨b, 17, none⟩ (.int .i64 (-1))).setCell ⟨b, 9, none⟩ (.string ts))) := ((HP.out.s15 (-1)).s17 (-1)).s9 ts
  have HK0 : Hid (RK b w (((w.setCell ⟨b, 15, none⟩ (.int .i64 (-1))).setCell ⟨b, 17, none⟩ (.int .i64 (-1))).setCell ⟨b, 9, none⟩ (.string ts))) := (((RK.refl b w).set 15 (by decide) _).set 17 (by decide) _).set 9 (by decide) _
  go_enter Tryz.func45, Tryz.ntmps45
  go_wp2_with fail
  refine (rstep_is HP0.out hs).mono ?_
  rintro r w1 ⟨rfl, hp1, hk1⟩
  have HP1 : Hid (RS b s 0 k c (σ.step s.data.toList) w1) := hp1.weak (Nat.le_succ k)
  have HK1 : Hid (RK b w w1) := HK0.out.trans hk1
  clear hp1 hk1 c1 c2 c3 c4 d9 d15 d17 z9 z15 z17 HP0 HK0 e0 e1
  have t1 := Sp.rem_step_le s.data.toList σ
  go_wp2_with fail
  refine (rmust_any HP1.out [116, 97, 98, 108, 101] k (by have := far_must s.data.toList [116, 97, 98, 108, 101] (σ.step s.data.toList); omega)).mono ?_
  rintro r w2 ⟨rfl, hp2, hk2⟩
  have HP2 : Hid (RS b s 0 k c ((σ.step s.data.toList).must s.data.toList [116, 97, 98, 108, 101]) w2) := hp2
  have HK2 : Hid (RK b w w2) := HK1.out.trans hk2
  have t2 := Sp.rem_must s.data.toList [116, 97, 98, 108, 101] (σ.step s.data.toList)
  clear hp2 hk2
  go_wp2_with fail
  refine (rname_any HP2.out k (by omega) (by have := far_nameT s.data.toList ((σ.step s.data.toList).must s.data.toList [116, 97, 98, 108, 101]); omega)).mono ?_
  rintro r w3 ⟨nm, na, rfl, hp3, hk3⟩
  have HP4 : Hid (RS b s 0 k c (((σ.step s.data.toList).must s.data.toList [116, 97, 98, 108, 101]).nameT s.data.toList) ((w3.setCell ⟨b, 10, none⟩ (.string nm)).setCell ⟨b, 11, none⟩ (.int .i64 na))) := (hp3.s10 nm).s11 na
  have HK4 : Hid (RK b w ((w3.setCell ⟨b, 10, none⟩ (.string nm)).setCell ⟨b, 11, none⟩ (.int .i64 na))) := ((HK2.out.trans hk3).set 10 (by decide) _).set 11 (by decide) _
  have t3 := Sp.rem_nameT s.data.toList ((σ.step s.data.toList).must s.data.toList [116, 97, 98, 108, 101])
  have HPx : Hid (RS b s 0 k c (((σ.step s.data.toList).must s.data.toList [116, 97, 98, 108, 101]).nameT s.data.toList) w3) := hp3
  clear hp3 hk3
  obtain ⟨v9, v10, v11, v15, v16, v17, v18, d9, d10, d11, d15, d16, d17, d18, dz⟩ := HPx.out.cs
  have z10 := dz 10
  have z11 := dz 11
  clear dz d9 d15 d16 d17 d18
  clear HPx
  go_wp2_with fail
  go_end0
  exact ⟨rfl, _, by rw [HV.out]; exact HP4.out, HK4.out⟩

set_option maxRecDepth 100000 in
set_option maxHeartbeats 8000000 in
theorem rst_delete {b : Nat} {s : ByteArray} {n k : Nat} {c : Ct} {σ : Sp.St} {w : World} (IA : Hid (RAll b s n)) (hn : n ≤ 900000) (hm : 32 * Sp.rem s.data.toList σ + 20 ≤ n) (_hc0 : c = ⟨0, 0, 0⟩) (HP : Hid (RS b s 0 k c σ w)) (hs : σ.is s.data.toList [100, 101, 108, 101, 116, 101] = true) :
    Calls Tryz.prog 45 #[.pointer (some ⟨b, 0, none⟩)] w (RSt b s k n σ w) := by
  have lb := HP.out.lb
  obtain ⟨kd, ts, ta, tn, c1, c2, c3, c4, hw, hcl⟩ := HP.out.tok
  have hb := hs
  rw [hw, Bool.and_eq_true] at hb
  have hts : ts.toList = [100, 101, 108, 101, 116, 101] := by simpa using hb.2
  have hkd : kd.toList = [107, 101, 121] := by simpa using hb.1
  have hkb : (kd.toList == [107, 101, 121]) = true := by rw [hkd]; rfl
  have hw' : ∀ z, σ.is s.data.toList z = (ts.toList == z) := fun z => by rw [hw, decide_eq_true hkd]; rfl
  have e0 : (ts.toList == [99, 114, 101, 97, 116, 101]) = false := by rw [hts]; rfl
  have f0 : σ.is s.data.toList [99, 114, 101, 97, 116, 101] = false := (hw' _).trans e0
  have e1 : (ts.toList == [100, 114, 111, 112]) = false := by rw [hts]; rfl
  have f1 : σ.is s.data.toList [100, 114, 111, 112] = false := (hw' _).trans e1
  have e2 : (ts.toList == [105, 110, 115, 101, 114, 116]) = false := by rw [hts]; rfl
  have f2 : σ.is s.data.toList [105, 110, 115, 101, 114, 116] = false := (hw' _).trans e2
  have e3 : (ts.toList == [100, 101, 108, 101, 116, 101]) = true := by rw [hts]; rfl
  have f3 : σ.is s.data.toList [100, 101, 108, 101, 116, 101] = true := (hw' _).trans e3
  have HV : Hid (Sp.stmt s.data.toList n σ = Sp.run s.data.toList n .where_ 0 (((σ.step s.data.toList).must s.data.toList [102, 114, 111, 109]).nameT s.data.toList)) := by show _ = _; unfold Sp.stmt; simp [f0, f1, f2, f3]
  clear hw hcl hw' hb hts hkd f0 f1 f2 f3
  obtain ⟨v9, v10, v11, v15, v16, v17, v18, d9, d10, d11, d15, d16, d17, d18, dz⟩ := HP.out.cs
  have z9 := dz 9
  have z15 := dz 15
  have z17 := dz 17
  clear dz d10 d11 d16 d18
  have HP0 : Hid (RS b s 0 k c σ (((w.setCell ⟨b, 15, none⟩ (.int .i64 (-1))).setCell ⟨b, 17, none⟩ (.int .i64 (-1))).setCell ⟨b, 9, none⟩ (.string ts))) := ((HP.out.s15 (-1)).s17 (-1)).s9 ts
  have HK0 : Hid (RK b w (((w.setCell ⟨b, 15, none⟩ (.int .i64 (-1))).setCell ⟨b, 17, none⟩ (.int .i64 (-1))).setCell ⟨b, 9, none⟩ (.string ts))) := (((RK.refl b w).set 15 (by decide) _).set 17 (by decide) _).set 9 (by decide) _
  go_enter Tryz.func45, Tryz.ntmps45
  go_wp2_with fail
  refine (rstep_is HP0.out hs).mono ?_
  rintro r w1 ⟨rfl, hp1, hk1⟩
  have HP1 : Hid (RS b s 0 k c (σ.step s.data.toList) w1) := hp1.weak (Nat.le_succ k)
  have HK1 : Hid (RK b w w1) := HK0.out.trans hk1
  clear hp1 hk1 c1 c2 c3 c4 d9 d15 d17 z9 z15 z17 HP0 HK0 e0 e1 e2 e3
  have t1 := Sp.rem_step_le s.data.toList σ
  go_wp2_with fail
  refine (rmust_any HP1.out [102, 114, 111, 109] k (by have := far_must s.data.toList [102, 114, 111, 109] (σ.step s.data.toList); omega)).mono ?_
  rintro r w2 ⟨rfl, hp2, hk2⟩
  have HP2 : Hid (RS b s 0 k c ((σ.step s.data.toList).must s.data.toList [102, 114, 111, 109]) w2) := hp2
  have HK2 : Hid (RK b w w2) := HK1.out.trans hk2
  have t2 := Sp.rem_must s.data.toList [102, 114, 111, 109] (σ.step s.data.toList)
  clear hp2 hk2
  go_wp2_with fail
  refine (rname_any HP2.out k (by omega) (by have := far_nameT s.data.toList ((σ.step s.data.toList).must s.data.toList [102, 114, 111, 109]); omega)).mono ?_
  rintro r w3 ⟨nm, na, rfl, hp3, hk3⟩
  have HP4 : Hid (RS b s 0 k c (((σ.step s.data.toList).must s.data.toList [102, 114, 111, 109]).nameT s.data.toList) ((w3.setCell ⟨b, 10, none⟩ (.string nm)).setCell ⟨b, 11, none⟩ (.int .i64 na))) := (hp3.s10 nm).s11 na
  have HK4 : Hid (RK b w ((w3.setCell ⟨b, 10, none⟩ (.string nm)).setCell ⟨b, 11, none⟩ (.int .i64 na))) := ((HK2.out.trans hk3).set 10 (by decide) _).set 11 (by decide) _
  have t3 := Sp.rem_nameT s.data.toList ((σ.step s.data.toList).must s.data.toList [102, 114, 111, 109])
  have HPx : Hid (RS b s 0 k c (((σ.step s.data.toList).must s.data.toList [102, 114, 111, 109]).nameT s.data.toList) w3) := hp3
  clear hp3 hk3
  obtain ⟨v9, v10, v11, v15, v16, v17, v18, d9, d10, d11, d15, d16, d17, d18, dz⟩ := HPx.out.cs
  have z10 := dz 10
  have z11 := dz 11
  clear dz d9 d15 d16 d17 d18
  clear HPx
  go_wp2_with fail
  refine (IA.out.where_ 0 k _ _ _ (by omega) (by omega) HP4.out).mono ?_
  rintro r w5 ⟨xa, xb, rfl, hp5, hk5⟩
  clear d10 d11 z10 z11
  have HP6 : Hid (RS b s 0 k c (Sp.run s.data.toList n .where_ 0 (((σ.step s.data.toList).must s.data.toList [102, 114, 111, 109]).nameT s.data.toList)) ((w5.setCell ⟨b, 15, none⟩ (.int .i64 xa)).setCell ⟨b, 16, none⟩ (.int .i64 xb))) := (hp5.s15 xa).s16 xb
  have HK6 : Hid (RK b w ((w5.setCell ⟨b, 15, none⟩ (.int .i64 xa)).setCell ⟨b, 16, none⟩ (.int .i64 xb))) := ((HK4.out.trans hk5).set 15 (by decide) _).set 16 (by decide) _
  have HPy : Hid (RS b s 0 k c (Sp.run s.data.toList n .where_ 0 (((σ.step s.data.toList).must s.data.toList [102, 114, 111, 109]).nameT s.data.toList)) w5) := hp5
  clear hp5 hk5
  obtain ⟨v9, v10, v11, v15, v16, v17, v18, d9, d10, d11, d15, d16, d17, d18, dz⟩ := HPy.out.cs
  have z15 := dz 15
  have z16 := dz 16
  clear dz d9 d10 d11 d17 d18
  clear HPy
  go_wp2_with fail
  go_end0
  exact ⟨rfl, _, by rw [HV.out]; exact HP6.out, HK6.out⟩

end Go.Proofs.YtgnncnhkgmhngaaGreatDoor

namespace Go.Proofs.YtgnncnhkgmhngaaGreatDoor
open Go.RowKit

set_option maxRecDepth 100000 in
set_option maxHeartbeats 8000000 in
theorem rst_create {b : Nat} {s : ByteArray} {n k : Nat} {c : Ct} {σ : Sp.St} {w : World} (IA : Hid (RAll b s n)) (hn : n ≤ 900000) (hm : 32 * Sp.rem s.data.toList σ + 20 ≤ n) (hc0 : c = ⟨0, 0, 0⟩) (HP : Hid (RS b s 0 k c σ w)) (hs : σ.is s.data.toList [99, 114, 101, 97, 116, 101] = true) :
    Calls Tryz.prog 45 #[.pointer (some ⟨b, 0, none⟩)] w (RSt b s k n σ w) := by
  have lb := HP.out.lb
  obtain ⟨kd, ts, ta, tn, c1, c2, c3, c4, hw, hcl⟩ := HP.out.tok
  have hb := hs
  rw [hw, Bool.and_eq_true] at hb
  have hts : ts.toList = [99, 114, 101, 97, 116, 101] := by simpa using hb.2
  have hkd : kd.toList = [107, 101, 121] := by simpa using hb.1
  have hkb : (kd.toList == [107, 101, 121]) = true := by rw [hkd]; rfl
  have hw' : ∀ z, σ.is s.data.toList z = (ts.toList == z) := fun z => by rw [hw, decide_eq_true hkd]; rfl
  have e0 : (ts.toList == [99, 114, 101, 97, 116, 101]) = true := by rw [hts]; rfl
  have f0 : σ.is s.data.toList [99, 114, 101, 97, 116, 101] = true := (hw' _).trans e0
  have HV : Hid (Sp.stmt s.data.toList n σ = (Sp.colL s.data.toList n 0 ((((σ.step s.data.toList).must s.data.toList [116, 97, 98, 108, 101]).nameT s.data.toList).must s.data.toList [40])).must s.data.toList [41]) := by show _ = _; unfold Sp.stmt; simp [f0]
  clear hw hcl hw' hb hts hkd f0
  obtain ⟨v9, v10, v11, v15, v16, v17, v18, d9, d10, d11, d15, d16, d17, d18, dz⟩ := HP.out.cs
  have z9 := dz 9
  have z15 := dz 15
  have z17 := dz 17
  clear dz d10 d11 d16 d18
  have HP0 : Hid (RS b s 0 k c σ (((w.setCell ⟨b, 15, none⟩ (.int .i64 (-1))).setCell ⟨b, 17, none⟩ (.int .i64 (-1))).setCell ⟨b, 9, none⟩ (.string ts))) := ((HP.out.s15 (-1)).s17 (-1)).s9 ts
  have HK0 : Hid (RK b w (((w.setCell ⟨b, 15, none⟩ (.int .i64 (-1))).setCell ⟨b, 17, none⟩ (.int .i64 (-1))).setCell ⟨b, 9, none⟩ (.string ts))) := (((RK.refl b w).set 15 (by decide) _).set 17 (by decide) _).set 9 (by decide) _
  go_enter Tryz.func45, Tryz.ntmps45
  go_wp2_with fail
  refine (rstep_is HP0.out hs).mono ?_
  rintro r w1 ⟨rfl, hp1, hk1⟩
  have HP1 : Hid (RS b s 0 k c (σ.step s.data.toList) w1) := hp1.weak (Nat.le_succ k)
  have HK1 : Hid (RK b w w1) := HK0.out.trans hk1
  clear hp1 hk1 c1 c2 c3 c4 d9 d15 d17 z9 z15 z17 HP0 HK0 e0
  have t1 := Sp.rem_step_le s.data.toList σ
  go_wp2_with fail
  refine (rmust_any HP1.out [116, 97, 98, 108, 101] k (by have := far_must s.data.toList [116, 97, 98, 108, 101] (σ.step s.data.toList); omega)).mono ?_
  rintro r w2 ⟨rfl, hp2, hk2⟩
  have HP2 : Hid (RS b s 0 k c ((σ.step s.data.toList).must s.data.toList [116, 97, 98, 108, 101]) w2) := hp2
  have HK2 : Hid (RK b w w2) := HK1.out.trans hk2
  have t2 := Sp.rem_must s.data.toList [116, 97, 98, 108, 101] (σ.step s.data.toList)
  clear hp2 hk2
  go_wp2_with fail
  refine (rname_any HP2.out k (by omega) (by have := far_nameT s.data.toList ((σ.step s.data.toList).must s.data.toList [116, 97, 98, 108, 101]); omega)).mono ?_
  rintro r w3 ⟨nm, na, rfl, hp3, hk3⟩
  have HP4 : Hid (RS b s 0 k c (((σ.step s.data.toList).must s.data.toList [116, 97, 98, 108, 101]).nameT s.data.toList) ((w3.setCell ⟨b, 10, none⟩ (.string nm)).setCell ⟨b, 11, none⟩ (.int .i64 na))) := (hp3.s10 nm).s11 na
  have HK4 : Hid (RK b w ((w3.setCell ⟨b, 10, none⟩ (.string nm)).setCell ⟨b, 11, none⟩ (.int .i64 na))) := ((HK2.out.trans hk3).set 10 (by decide) _).set 11 (by decide) _
  have t3 := Sp.rem_nameT s.data.toList ((σ.step s.data.toList).must s.data.toList [116, 97, 98, 108, 101])
  have HPx : Hid (RS b s 0 k c (((σ.step s.data.toList).must s.data.toList [116, 97, 98, 108, 101]).nameT s.data.toList) w3) := hp3
  clear hp3 hk3
  obtain ⟨v9, v10, v11, v15, v16, v17, v18, d9, d10, d11, d15, d16, d17, d18, dz⟩ := HPx.out.cs
  have z10 := dz 10
  have z11 := dz 11
  clear dz d9 d15 d16 d17 d18
  clear HPx
  go_wp2_with fail
  refine (rmust_any HP4.out [40] k (by have := far_must s.data.toList [40] (((σ.step s.data.toList).must s.data.toList [116, 97, 98, 108, 101]).nameT s.data.toList); omega)).mono ?_
  rintro r w5 ⟨rfl, hp5, hk5⟩
  have HP5 : Hid (RS b s 0 k c ((((σ.step s.data.toList).must s.data.toList [116, 97, 98, 108, 101]).nameT s.data.toList).must s.data.toList [40]) w5) := hp5
  have HK5 : Hid (RK b w w5) := HK4.out.trans hk5
  have t5 := Sp.rem_must s.data.toList [40] (((σ.step s.data.toList).must s.data.toList [116, 97, 98, 108, 101]).nameT s.data.toList)
  clear hp5 hk5
  clear d10 d11 z10 z11
  have hcn : c.nc = 0 := by rw [hc0]
  obtain ⟨n, rfl⟩ : ∃ m, n = m + 1 := ⟨n - 1, by omega⟩
  obtain ⟨σ0, HS0⟩ : ∃ σ0, Hid ((((σ.step s.data.toList).must s.data.toList [116, 97, 98, 108, 101]).nameT s.data.toList).must s.data.toList [40] = σ0) := ⟨_, rfl⟩
  rw [HS0.out] at HV HP5 t5
  have hr := rem_colF s.data.toList 0 σ0
  have HE : Hid (Sp.colL s.data.toList (n + 1) 0 σ0 = if (colF s.data.toList 0 σ0).is s.data.toList [44] then Sp.colL s.data.toList n (0 + 1) ((colF s.data.toList 0 σ0).step s.data.toList) else colF s.data.toList 0 σ0) := colL_eq s.data.toList n 0 σ0
  go_wp2_with fail
  refine (rcolumn_any HP5 (by omega)).mono ?_
  rintro r w6 ⟨rfl, nc6, hp6, hn6, hk6⟩
  rw [hcn] at hp6 hn6
  have HP6 : Hid (RS b s 0 k { c with nc := nc6 } (colF s.data.toList 0 σ0) w6) := hp6
  have HN6 : Hid (Sp.St.is s.data.toList [44] (colF s.data.toList 0 σ0) = true → nc6 = 1) := hn6
  have HK6 : Hid (RK b w w6) := HK5.out.trans hk6
  clear hp6 hn6 hk6
  go_wp2_with fail
  go_loopg [68] n (fun m _ wr => m ≤ n ∧ ∃ (σ' : Sp.St) (j nc : Nat), 32 * Sp.rem s.data.toList σ' ≤ m + 1 ∧ j ≤ 7 ∧ Hid (j = 7 → σ'.is s.data.toList [44] = false) ∧ Hid (σ'.is s.data.toList [44] = true → nc = j) ∧ Hid (Sp.colL s.data.toList (n + 1) 0 σ0 = if σ'.is s.data.toList [44] then Sp.colL s.data.toList m j (σ'.step s.data.toList) else σ') ∧ Hid (RS b s 0 k { c with nc := nc } σ' wr) ∧ Hid (RK b w wr))
  case atStart => exact ⟨Nat.le_refl _, _, 0 + 1, nc6, by omega, by omega, fun e => absurd e (by omega), HN6.out, HE.out, HP6.out, HK6.out⟩
  case round =>
    obtain ⟨hmn, σ', j, nc, hms, hj7, H7, HN, HR, HPr, HKr⟩ := hrel
    have c7 := HPr.out.err
    cases hb : σ'.is s.data.toList [44]
    · have HT : Hid (Sp.colL s.data.toList (n + 1) 0 σ0 = σ') := by show _ = _; rw [HR.out, hb]; rfl
      clear HR
      cases σ' with
      | dead y a =>
        have hz := er_dead HPr.out
        clear hb
        go_wp2_with fail
        refine (rmust_any HPr.out [41] k (by have := far_must s.data.toList [41] (Sp.St.dead y a); omega)).mono ?_
        rintro r wm ⟨rfl, hpm, hkm⟩
        have HPm : Hid (RS b s 0 k { c with nc := nc } ((Sp.St.dead y a).must s.data.toList [41]) wm) := hpm
        have HKm : Hid (RK b w wm) := HKr.out.trans hkm
        clear hpm hkm
        go_wp2_with fail
        go_end0
        exact ⟨rfl, _, by rw [HV.out, HT.out]; exact HPm.out, HKm.out⟩
      | live e =>
        have hz : (((er (.live e) : Nat) : Int) == 0) = true := rfl
        go_wp2_with fail
        refine (ris_any HPr.out [44]).mono ?_
        rintro r w9 ⟨rfl, rfl⟩
        go_wp2_with fail
        refine (rmust_any HPr.out [41] k (by have := far_must s.data.toList [41] (Sp.St.live e); omega)).mono ?_
        rintro r wm ⟨rfl, hpm, hkm⟩
        have HPm : Hid (RS b s 0 k { c with nc := nc } ((Sp.St.live e).must s.data.toList [41]) wm) := hpm
        have HKm : Hid (RK b w wm) := HKr.out.trans hkm
        clear hpm hkm
        go_wp2_with fail
        go_end0
        exact ⟨rfl, _, by rw [HV.out, HT.out]; exact HPm.out, HKm.out⟩
    · have h1 := Sp.rem_step_lt hb
      have hz : (((er σ' : Nat) : Int) == 0) = true := by obtain ⟨e, rfl, _⟩ := is_live hb; rfl
      have hj6 : j ≤ 6 := by
        rcases Nat.lt_or_ge 6 j with y | y
        · have := H7.out (by omega); rw [hb] at this; cases this
        · exact y
      have hnc := HN.out hb
      subst hnc
      obtain ⟨m, rfl⟩ : ∃ m, gk = m + 1 := ⟨gk - 1, by omega⟩
      have h2 := rem_colF s.data.toList nc (σ'.step s.data.toList)
      have HT : Hid (Sp.colL s.data.toList (n + 1) 0 σ0 = if (colF s.data.toList nc (σ'.step s.data.toList)).is s.data.toList [44] then Sp.colL s.data.toList m (nc + 1) ((colF s.data.toList nc (σ'.step s.data.toList)).step s.data.toList) else colF s.data.toList nc (σ'.step s.data.toList)) := by show _ = _; rw [HR.out, hb, if_pos rfl, colL_eq]
      have H8 : Hid (nc + 1 = 7 → (colF s.data.toList nc (σ'.step s.data.toList)).is s.data.toList [44] = false) := fun e => colF_dead' s.data.toList _ nc e
      clear HR
      go_wp2_with fail
      refine (ris_any HPr.out [44]).mono ?_
      rintro r w9 ⟨rfl, rfl⟩
      go_wp2_with fail
      refine (rstep_is HPr.out hb).mono ?_
      rintro r w2 ⟨rfl, hp2, hk2⟩
      have HP2 : Hid (RS b s 0 k { c with nc := nc } (σ'.step s.data.toList) w2) := hp2.weak (Nat.le_succ k)
      have HK2 : Hid (RK b w w2) := HKr.out.trans hk2
      clear hp2 hk2
      go_wp2_with fail
      refine (rcolumn_any HP2 hj6).mono ?_
      rintro r w3 ⟨rfl, nc3, hp3, hn3, hk3⟩
      have HP3 : Hid (RS b s 0 k { c with nc := nc3 } (colF s.data.toList nc (σ'.step s.data.toList)) w3) := hp3
      have HN3 : Hid (Sp.St.is s.data.toList [44] (colF s.data.toList nc (σ'.step s.data.toList)) = true → nc3 = nc + 1) := hn3
      have HK3 : Hid (RK b w w3) := HK2.out.trans hk3
      clear hp3 hn3 hk3
      go_wp2_with fail
      go_roundg m
      case measure => omega
      case rel => exact ⟨by omega, _, nc + 1, nc3, by omega, by omega, H8.out, HN3.out, HT.out, HP3.out, HK3.out⟩

set_option maxRecDepth 100000 in
set_option maxHeartbeats 8000000 in
theorem rst_insertV {b : Nat} {s : ByteArray} {n k : Nat} {c : Ct} {σ : Sp.St} {w : World} (IA : Hid (RAll b s n)) (hn : n ≤ 900000) (hm : 32 * Sp.rem s.data.toList σ + 20 ≤ n) (hc0 : c = ⟨0, 0, 0⟩) (HP : Hid (RS b s 0 k c σ w)) (hs : σ.is s.data.toList [105, 110, 115, 101, 114, 116] = true) (hv : (((σ.step s.data.toList).must s.data.toList [105, 110, 116, 111]).nameT s.data.toList).is s.data.toList [118, 97, 108, 117, 101, 115] = true) :
    Calls Tryz.prog 45 #[.pointer (some ⟨b, 0, none⟩)] w (RSt b s k n σ w) := by
  have lb := HP.out.lb
  obtain ⟨kd, ts, ta, tn, c1, c2, c3, c4, hw, hcl⟩ := HP.out.tok
  have hb := hs
  rw [hw, Bool.and_eq_true] at hb
  have hts : ts.toList = [105, 110, 115, 101, 114, 116] := by simpa using hb.2
  have hkd : kd.toList = [107, 101, 121] := by simpa using hb.1
  have hkb : (kd.toList == [107, 101, 121]) = true := by rw [hkd]; rfl
  have hw' : ∀ z, σ.is s.data.toList z = (ts.toList == z) := fun z => by rw [hw, decide_eq_true hkd]; rfl
  have e0 : (ts.toList == [99, 114, 101, 97, 116, 101]) = false := by rw [hts]; rfl
  have f0 : σ.is s.data.toList [99, 114, 101, 97, 116, 101] = false := (hw' _).trans e0
  have e1 : (ts.toList == [100, 114, 111, 112]) = false := by rw [hts]; rfl
  have f1 : σ.is s.data.toList [100, 114, 111, 112] = false := (hw' _).trans e1
  have e2 : (ts.toList == [105, 110, 115, 101, 114, 116]) = true := by rw [hts]; rfl
  have f2 : σ.is s.data.toList [105, 110, 115, 101, 114, 116] = true := (hw' _).trans e2
  have HV : Hid (Sp.stmt s.data.toList n σ = Sp.rowL s.data.toList n n ((((σ.step s.data.toList).must s.data.toList [105, 110, 116, 111]).nameT s.data.toList).step s.data.toList)) := by show _ = _; unfold Sp.stmt; simp [f0, f1, f2, hv]
  clear hw hcl hw' hb hts hkd f0 f1 f2
  obtain ⟨v9, v10, v11, v15, v16, v17, v18, d9, d10, d11, d15, d16, d17, d18, dz⟩ := HP.out.cs
  have z9 := dz 9
  have z15 := dz 15
  have z17 := dz 17
  clear dz d10 d11 d16 d18
  have HP0 : Hid (RS b s 0 k c σ (((w.setCell ⟨b, 15, none⟩ (.int .i64 (-1))).setCell ⟨b, 17, none⟩ (.int .i64 (-1))).setCell ⟨b, 9, none⟩ (.string ts))) := ((HP.out.s15 (-1)).s17 (-1)).s9 ts
  have HK0 : Hid (RK b w (((w.setCell ⟨b, 15, none⟩ (.int .i64 (-1))).setCell ⟨b, 17, none⟩ (.int .i64 (-1))).setCell ⟨b, 9, none⟩ (.string ts))) := (((RK.refl b w).set 15 (by decide) _).set 17 (by decide) _).set 9 (by decide) _
  go_enter Tryz.func45, Tryz.ntmps45
  go_wp2_with fail
  refine (rstep_is HP0.out hs).mono ?_
  rintro r w1 ⟨rfl, hp1, hk1⟩
  have HP1 : Hid (RS b s 0 k c (σ.step s.data.toList) w1) := hp1.weak (Nat.le_succ k)
  have HK1 : Hid (RK b w w1) := HK0.out.trans hk1
  clear hp1 hk1 c1 c2 c3 c4 d9 d15 d17 z9 z15 z17 HP0 HK0 e0 e1 e2
  have t1 := Sp.rem_step_le s.data.toList σ
  obtain ⟨ta1, c2⟩ := HP1.out.tat
  obtain ⟨v9, v10, v11, v15, v16, v17, v18, d9, d10, d11, d15, d16, d17, d18, dz⟩ := HP1.out.cs
  have z18 := dz 18
  clear dz d9 d10 d11 d15 d16 d17
  have HP1' : Hid (RS b s 0 k c (σ.step s.data.toList) (w1.setCell ⟨b, 18, none⟩ (.int .i64 ta1))) := HP1.out.s18 ta1
  have HK1' : Hid (RK b w (w1.setCell ⟨b, 18, none⟩ (.int .i64 ta1))) := HK1.out.set 18 (by decide) _
  go_wp2_with fail
  refine (rmust_any HP1'.out [105, 110, 116, 111] k (by have := far_must s.data.toList [105, 110, 116, 111] (σ.step s.data.toList); omega)).mono ?_
  rintro r w2 ⟨rfl, hp2, hk2⟩
  have HP2 : Hid (RS b s 0 k c ((σ.step s.data.toList).must s.data.toList [105, 110, 116, 111]) w2) := hp2
  have HK2 : Hid (RK b w w2) := HK1'.out.trans hk2
  have t2 := Sp.rem_must s.data.toList [105, 110, 116, 111] (σ.step s.data.toList)
  clear hp2 hk2
  clear c2 d18 z18
  go_wp2_with fail
  refine (rname_any HP2.out k (by omega) (by have := far_nameT s.data.toList ((σ.step s.data.toList).must s.data.toList [105, 110, 116, 111]); omega)).mono ?_
  rintro r w3 ⟨nm, na, rfl, hp3, hk3⟩
  have HP4 : Hid (RS b s 0 k c (((σ.step s.data.toList).must s.data.toList [105, 110, 116, 111]).nameT s.data.toList) ((w3.setCell ⟨b, 10, none⟩ (.string nm)).setCell ⟨b, 11, none⟩ (.int .i64 na))) := (hp3.s10 nm).s11 na
  have HK4 : Hid (RK b w ((w3.setCell ⟨b, 10, none⟩ (.string nm)).setCell ⟨b, 11, none⟩ (.int .i64 na))) := ((HK2.out.trans hk3).set 10 (by decide) _).set 11 (by decide) _
  have t3 := Sp.rem_nameT s.data.toList ((σ.step s.data.toList).must s.data.toList [105, 110, 116, 111])
  have HPx : Hid (RS b s 0 k c (((σ.step s.data.toList).must s.data.toList [105, 110, 116, 111]).nameT s.data.toList) w3) := hp3
  clear hp3 hk3
  obtain ⟨v9, v10, v11, v15, v16, v17, v18, d9, d10, d11, d15, d16, d17, d18, dz⟩ := HPx.out.cs
  have z10 := dz 10
  have z11 := dz 11
  clear dz d9 d15 d16 d17 d18
  clear HPx
  go_wp2_with fail
  refine (rtake_any HP4.out [118, 97, 108, 117, 101, 115]).mono ?_
  rintro r w5 ⟨rfl, hp5, hk5⟩
  clear d10 d11 z10 z11
  rw [take_yes hv] at hp5
  have HK5 : Hid (RK b w w5) := HK4.out.trans hk5
  have HP5 : Hid (RS b s 0 k c ((((σ.step s.data.toList).must s.data.toList [105, 110, 116, 111]).nameT s.data.toList).step s.data.toList) w5) := hp5
  clear hp5 hk5
  have t5 := Sp.rem_step_le s.data.toList (((σ.step s.data.toList).must s.data.toList [105, 110, 116, 111]).nameT s.data.toList)
  obtain ⟨σ0, HS0⟩ : ∃ σ0, Hid ((((σ.step s.data.toList).must s.data.toList [105, 110, 116, 111]).nameT s.data.toList).step s.data.toList = σ0) := ⟨_, rfl⟩
  rw [HS0.out] at HV HP5 t5
  have hcn : c.nr = 0 := by rw [hc0]
  obtain ⟨n', hn'⟩ : ∃ m, n = m + 1 := ⟨n - 1, by omega⟩
  have hr := rem_rowT s.data.toList n σ0
  have HE : Hid (Sp.rowL s.data.toList n n σ0 = if (Sp.rowT s.data.toList n σ0).is s.data.toList [44] then Sp.rowL s.data.toList n n' ((Sp.rowT s.data.toList n σ0).step s.data.toList) else Sp.rowT s.data.toList n σ0) := by
    show _ = _
    have h := rowL_eq s.data.toList n n' σ0
    rw [← hn'] at h
    exact h
  go_wp2_with fail
  refine (rrow_any IA hn (by omega) (by omega) HP5).mono ?_
  rintro r w6 ⟨rfl, hp6, hk6⟩
  have HP6 : Hid (RS b s 0 k { c with nr := c.nr + 1 } (Sp.rowT s.data.toList n σ0) w6) := hp6
  have HK6 : Hid (RK b w w6) := HK5.out.trans hk6
  clear hp6 hk6
  go_wp2_with fail
  go_loopg [133] n' (fun m _ wr => m ≤ n' ∧ ∃ (σ' : Sp.St) (j : Nat), 32 * Sp.rem s.data.toList σ' ≤ m + 1 ∧ Sp.rem s.data.toList σ' ≤ Sp.rem s.data.toList σ ∧ j + m ≤ n ∧ Hid (Sp.rowL s.data.toList n n σ0 = if σ'.is s.data.toList [44] then Sp.rowL s.data.toList n m (σ'.step s.data.toList) else σ') ∧ Hid (RS b s 0 k { c with nr := j } σ' wr) ∧ Hid (RK b w wr))
  case atStart => exact ⟨Nat.le_refl _, _, c.nr + 1, by omega, by omega, by omega, HE.out, HP6.out, HK6.out⟩
  case round =>
    obtain ⟨hmn, σ', j, hms, hrr, hjm, HR, HPr, HKr⟩ := hrel
    have c7 := HPr.out.err
    cases hb : σ'.is s.data.toList [44]
    · have HT : Hid (Sp.rowL s.data.toList n n σ0 = σ') := by show _ = _; rw [HR.out, hb]; rfl
      clear HR
      cases σ' with
      | dead y a =>
        have hz := er_dead HPr.out
        clear hb
        go_wp2_with fail
        go_end0
        exact ⟨rfl, _, by rw [HV.out, HT.out]; exact HPr.out, HKr.out⟩
      | live e =>
        have hz : (((er (.live e) : Nat) : Int) == 0) = true := rfl
        go_wp2_with fail
        refine (ris_any HPr.out [44]).mono ?_
        rintro r w9 ⟨rfl, rfl⟩
        go_wp2_with fail
        go_end0
        exact ⟨rfl, _, by rw [HV.out, HT.out]; exact HPr.out, HKr.out⟩
    · have h1 := Sp.rem_step_lt hb
      have hz : (((er σ' : Nat) : Int) == 0) = true := by obtain ⟨e, rfl, _⟩ := is_live hb; rfl
      obtain ⟨m, rfl⟩ : ∃ m, gk = m + 1 := ⟨gk - 1, by omega⟩
      have h2 := rem_rowT s.data.toList n (σ'.step s.data.toList)
      have HT : Hid (Sp.rowL s.data.toList n n σ0 = if (Sp.rowT s.data.toList n (σ'.step s.data.toList)).is s.data.toList [44] then Sp.rowL s.data.toList n m ((Sp.rowT s.data.toList n (σ'.step s.data.toList)).step s.data.toList) else Sp.rowT s.data.toList n (σ'.step s.data.toList)) := by show _ = _; rw [HR.out, hb, if_pos rfl, rowL_eq]
      clear HR
      go_wp2_with fail
      refine (ris_any HPr.out [44]).mono ?_
      rintro r w9 ⟨rfl, rfl⟩
      go_wp2_with fail
      refine (rstep_is HPr.out hb).mono ?_
      rintro r w2 ⟨rfl, hp2, hk2⟩
      have HP2 : Hid (RS b s 0 k { c with nr := j } (σ'.step s.data.toList) w2) := hp2.weak (Nat.le_succ k)
      have HK2 : Hid (RK b w w2) := HKr.out.trans hk2
      clear hp2 hk2
      go_wp2_with fail
      refine (rrow_any IA hn (by omega) (by show j ≤ 1000000; omega) HP2).mono ?_
      rintro r w3 ⟨rfl, hp3, hk3⟩
      have HP3 : Hid (RS b s 0 k { c with nr := j + 1 } (Sp.rowT s.data.toList n (σ'.step s.data.toList)) w3) := hp3
      have HK3 : Hid (RK b w w3) := HK2.out.trans hk3
      clear hp3 hk3
      go_wp2_with fail
      go_roundg m
      case measure => omega
      case rel => exact ⟨by omega, _, j + 1, by omega, by omega, by omega, HT.out, HP3.out, HK3.out⟩

set_option maxRecDepth 100000 in
set_option maxHeartbeats 8000000 in
theorem rst_insertQ {b : Nat} {s : ByteArray} {n k : Nat} {c : Ct} {σ : Sp.St} {w : World} (IA : Hid (RAll b s n)) (hn : n ≤ 900000) (hm : 32 * Sp.rem s.data.toList σ + 20 ≤ n) (_hc0 : c = ⟨0, 0, 0⟩) (HP : Hid (RS b s 0 k c σ w)) (hs : σ.is s.data.toList [105, 110, 115, 101, 114, 116] = true) (hv : (((σ.step s.data.toList).must s.data.toList [105, 110, 116, 111]).nameT s.data.toList).is s.data.toList [118, 97, 108, 117, 101, 115] = false) :
    Calls Tryz.prog 45 #[.pointer (some ⟨b, 0, none⟩)] w (RSt b s k n σ w) := by
  have lb := HP.out.lb
  obtain ⟨kd, ts, ta, tn, c1, c2, c3, c4, hw, hcl⟩ := HP.out.tok
  have hb := hs
  rw [hw, Bool.and_eq_true] at hb
  have hts : ts.toList = [105, 110, 115, 101, 114, 116] := by simpa using hb.2
  have hkd : kd.toList = [107, 101, 121] := by simpa using hb.1
  have hkb : (kd.toList == [107, 101, 121]) = true := by rw [hkd]; rfl
  have hw' : ∀ z, σ.is s.data.toList z = (ts.toList == z) := fun z => by rw [hw, decide_eq_true hkd]; rfl
  have e0 : (ts.toList == [99, 114, 101, 97, 116, 101]) = false := by rw [hts]; rfl
  have f0 : σ.is s.data.toList [99, 114, 101, 97, 116, 101] = false := (hw' _).trans e0
  have e1 : (ts.toList == [100, 114, 111, 112]) = false := by rw [hts]; rfl
  have f1 : σ.is s.data.toList [100, 114, 111, 112] = false := (hw' _).trans e1
  have e2 : (ts.toList == [105, 110, 115, 101, 114, 116]) = true := by rw [hts]; rfl
  have f2 : σ.is s.data.toList [105, 110, 115, 101, 114, 116] = true := (hw' _).trans e2
  have HV : Hid (Sp.stmt s.data.toList n σ = Sp.run s.data.toList n .query 0 (((σ.step s.data.toList).must s.data.toList [105, 110, 116, 111]).nameT s.data.toList)) := by show _ = _; unfold Sp.stmt; simp [f0, f1, f2, hv]
  clear hw hcl hw' hb hts hkd f0 f1 f2
  obtain ⟨v9, v10, v11, v15, v16, v17, v18, d9, d10, d11, d15, d16, d17, d18, dz⟩ := HP.out.cs
  have z9 := dz 9
  have z15 := dz 15
  have z17 := dz 17
  clear dz d10 d11 d16 d18
  have HP0 : Hid (RS b s 0 k c σ (((w.setCell ⟨b, 15, none⟩ (.int .i64 (-1))).setCell ⟨b, 17, none⟩ (.int .i64 (-1))).setCell ⟨b, 9, none⟩ (.string ts))) := ((HP.out.s15 (-1)).s17 (-1)).s9 ts
  have HK0 : Hid (RK b w (((w.setCell ⟨b, 15, none⟩ (.int .i64 (-1))).setCell ⟨b, 17, none⟩ (.int .i64 (-1))).setCell ⟨b, 9, none⟩ (.string ts))) := (((RK.refl b w).set 15 (by decide) _).set 17 (by decide) _).set 9 (by decide) _
  go_enter Tryz.func45, Tryz.ntmps45
  go_wp2_with fail
  refine (rstep_is HP0.out hs).mono ?_
  rintro r w1 ⟨rfl, hp1, hk1⟩
  have HP1 : Hid (RS b s 0 k c (σ.step s.data.toList) w1) := hp1.weak (Nat.le_succ k)
  have HK1 : Hid (RK b w w1) := HK0.out.trans hk1
  clear hp1 hk1 c1 c2 c3 c4 d9 d15 d17 z9 z15 z17 HP0 HK0 e0 e1 e2
  have t1 := Sp.rem_step_le s.data.toList σ
  obtain ⟨ta1, c2⟩ := HP1.out.tat
  obtain ⟨v9, v10, v11, v15, v16, v17, v18, d9, d10, d11, d15, d16, d17, d18, dz⟩ := HP1.out.cs
  have z18 := dz 18
  clear dz d9 d10 d11 d15 d16 d17
  have HP1' : Hid (RS b s 0 k c (σ.step s.data.toList) (w1.setCell ⟨b, 18, none⟩ (.int .i64 ta1))) := HP1.out.s18 ta1
  have HK1' : Hid (RK b w (w1.setCell ⟨b, 18, none⟩ (.int .i64 ta1))) := HK1.out.set 18 (by decide) _
  go_wp2_with fail
  refine (rmust_any HP1'.out [105, 110, 116, 111] k (by have := far_must s.data.toList [105, 110, 116, 111] (σ.step s.data.toList); omega)).mono ?_
  rintro r w2 ⟨rfl, hp2, hk2⟩
  have HP2 : Hid (RS b s 0 k c ((σ.step s.data.toList).must s.data.toList [105, 110, 116, 111]) w2) := hp2
  have HK2 : Hid (RK b w w2) := HK1'.out.trans hk2
  have t2 := Sp.rem_must s.data.toList [105, 110, 116, 111] (σ.step s.data.toList)
  clear hp2 hk2
  clear c2 d18 z18
  go_wp2_with fail
  refine (rname_any HP2.out k (by omega) (by have := far_nameT s.data.toList ((σ.step s.data.toList).must s.data.toList [105, 110, 116, 111]); omega)).mono ?_
  rintro r w3 ⟨nm, na, rfl, hp3, hk3⟩
  have HP4 : Hid (RS b s 0 k c (((σ.step s.data.toList).must s.data.toList [105, 110, 116, 111]).nameT s.data.toList) ((w3.setCell ⟨b, 10, none⟩ (.string nm)).setCell ⟨b, 11, none⟩ (.int .i64 na))) := (hp3.s10 nm).s11 na
  have HK4 : Hid (RK b w ((w3.setCell ⟨b, 10, none⟩ (.string nm)).setCell ⟨b, 11, none⟩ (.int .i64 na))) := ((HK2.out.trans hk3).set 10 (by decide) _).set 11 (by decide) _
  have t3 := Sp.rem_nameT s.data.toList ((σ.step s.data.toList).must s.data.toList [105, 110, 116, 111])
  have HPx : Hid (RS b s 0 k c (((σ.step s.data.toList).must s.data.toList [105, 110, 116, 111]).nameT s.data.toList) w3) := hp3
  clear hp3 hk3
  obtain ⟨v9, v10, v11, v15, v16, v17, v18, d9, d10, d11, d15, d16, d17, d18, dz⟩ := HPx.out.cs
  have z10 := dz 10
  have z11 := dz 11
  clear dz d9 d15 d16 d17 d18
  clear HPx
  go_wp2_with fail
  refine (rtake_any HP4.out [118, 97, 108, 117, 101, 115]).mono ?_
  rintro r w5 ⟨rfl, hp5, hk5⟩
  clear d10 d11 z10 z11
  rw [take_no hv] at hp5
  have HK5 : Hid (RK b w w5) := HK4.out.trans hk5
  have HP5 : Hid (RS b s 0 k c (((σ.step s.data.toList).must s.data.toList [105, 110, 116, 111]).nameT s.data.toList) w5) := hp5
  clear hp5 hk5
  go_wp2_with fail
  refine (IA.out.query 0 k _ _ _ (by omega) (by show 32 * Sp.rem s.data.toList _ + 15 ≤ n; omega) HP5.out).mono ?_
  rintro r w6 ⟨q6, rfl, hp6, hk6⟩
  have HP6 : Hid (RS b s 0 k c (Sp.run s.data.toList n .query 0 (((σ.step s.data.toList).must s.data.toList [105, 110, 116, 111]).nameT s.data.toList)) w6) := hp6
  have HP7 : Hid (RS b s 0 k c (Sp.run s.data.toList n .query 0 (((σ.step s.data.toList).must s.data.toList [105, 110, 116, 111]).nameT s.data.toList)) (w6.setCell ⟨b, 17, none⟩ (.int .i64 q6))) := hp6.s17 q6
  have HK7 : Hid (RK b w (w6.setCell ⟨b, 17, none⟩ (.int .i64 q6))) := (HK5.out.trans hk6).set 17 (by decide) _
  clear hp6 hk6
  obtain ⟨v9, v10, v11, v15, v16, v17, v18, d9, d10, d11, d15, d16, d17, d18, dz⟩ := HP6.out.cs
  have z17 := dz 17
  clear dz d9 d10 d11 d15 d16 d18
  go_wp2_with fail
  go_end0
  exact ⟨rfl, _, by rw [HV.out]; exact HP7.out, HK7.out⟩

set_option maxRecDepth 100000 in
set_option maxHeartbeats 8000000 in
theorem rst_update {b : Nat} {s : ByteArray} {n k : Nat} {c : Ct} {σ : Sp.St} {w : World} (IA : Hid (RAll b s n)) (hn : n ≤ 900000) (hm : 32 * Sp.rem s.data.toList σ + 20 ≤ n) (hc0 : c = ⟨0, 0, 0⟩) (HP : Hid (RS b s 0 k c σ w)) (hs : σ.is s.data.toList [117, 112, 100, 97, 116, 101] = true) :
    Calls Tryz.prog 45 #[.pointer (some ⟨b, 0, none⟩)] w (RSt b s k n σ w) := by
  have lb := HP.out.lb
  obtain ⟨kd, ts, ta, tn, c1, c2, c3, c4, hw, hcl⟩ := HP.out.tok
  have hb := hs
  rw [hw, Bool.and_eq_true] at hb
  have hts : ts.toList = [117, 112, 100, 97, 116, 101] := by simpa using hb.2
  have hkd : kd.toList = [107, 101, 121] := by simpa using hb.1
  have hkb : (kd.toList == [107, 101, 121]) = true := by rw [hkd]; rfl
  have hw' : ∀ z, σ.is s.data.toList z = (ts.toList == z) := fun z => by rw [hw, decide_eq_true hkd]; rfl
  have e0 : (ts.toList == [99, 114, 101, 97, 116, 101]) = false := by rw [hts]; rfl
  have f0 : σ.is s.data.toList [99, 114, 101, 97, 116, 101] = false := (hw' _).trans e0
  have e1 : (ts.toList == [100, 114, 111, 112]) = false := by rw [hts]; rfl
  have f1 : σ.is s.data.toList [100, 114, 111, 112] = false := (hw' _).trans e1
  have e2 : (ts.toList == [105, 110, 115, 101, 114, 116]) = false := by rw [hts]; rfl
  have f2 : σ.is s.data.toList [105, 110, 115, 101, 114, 116] = false := (hw' _).trans e2
  have e3 : (ts.toList == [100, 101, 108, 101, 116, 101]) = false := by rw [hts]; rfl
  have f3 : σ.is s.data.toList [100, 101, 108, 101, 116, 101] = false := (hw' _).trans e3
  have e4 : (ts.toList == [117, 112, 100, 97, 116, 101]) = true := by rw [hts]; rfl
  have f4 : σ.is s.data.toList [117, 112, 100, 97, 116, 101] = true := (hw' _).trans e4
  have HV : Hid (Sp.stmt s.data.toList n σ = Sp.run s.data.toList n .where_ 0 (Sp.chgL s.data.toList n n (((σ.step s.data.toList).nameT s.data.toList).must s.data.toList [115, 101, 116]))) := by show _ = _; unfold Sp.stmt; simp [f0, f1, f2, f3, f4]
  clear hw hcl hw' hb hts hkd f0 f1 f2 f3 f4
  obtain ⟨v9, v10, v11, v15, v16, v17, v18, d9, d10, d11, d15, d16, d17, d18, dz⟩ := HP.out.cs
  have z9 := dz 9
  have z15 := dz 15
  have z17 := dz 17
  clear dz d10 d11 d16 d18
  have HP0 : Hid (RS b s 0 k c σ (((w.setCell ⟨b, 15, none⟩ (.int .i64 (-1))).setCell ⟨b, 17, none⟩ (.int .i64 (-1))).setCell ⟨b, 9, none⟩ (.string ts))) := ((HP.out.s15 (-1)).s17 (-1)).s9 ts
  have HK0 : Hid (RK b w (((w.setCell ⟨b, 15, none⟩ (.int .i64 (-1))).setCell ⟨b, 17, none⟩ (.int .i64 (-1))).setCell ⟨b, 9, none⟩ (.string ts))) := (((RK.refl b w).set 15 (by decide) _).set 17 (by decide) _).set 9 (by decide) _
  go_enter Tryz.func45, Tryz.ntmps45
  go_wp2_with fail
  refine (rstep_is HP0.out hs).mono ?_
  rintro r w1 ⟨rfl, hp1, hk1⟩
  have HP1 : Hid (RS b s 0 k c (σ.step s.data.toList) w1) := hp1.weak (Nat.le_succ k)
  have HK1 : Hid (RK b w w1) := HK0.out.trans hk1
  clear hp1 hk1 c1 c2 c3 c4 d9 d15 d17 z9 z15 z17 HP0 HK0 e0 e1 e2 e3 e4
  have t1 := Sp.rem_step_le s.data.toList σ
  go_wp2_with fail
  refine (rname_any HP1.out k (by omega) (by have := far_nameT s.data.toList (σ.step s.data.toList); omega)).mono ?_
  rintro r w3 ⟨nm, na, rfl, hp3, hk3⟩
  have HP4 : Hid (RS b s 0 k c ((σ.step s.data.toList).nameT s.data.toList) ((w3.setCell ⟨b, 10, none⟩ (.string nm)).setCell ⟨b, 11, none⟩ (.int .i64 na))) := (hp3.s10 nm).s11 na
  have HK4 : Hid (RK b w ((w3.setCell ⟨b, 10, none⟩ (.string nm)).setCell ⟨b, 11, none⟩ (.int .i64 na))) := ((HK1.out.trans hk3).set 10 (by decide) _).set 11 (by decide) _
  have t3 := Sp.rem_nameT s.data.toList (σ.step s.data.toList)
  have HPx : Hid (RS b s 0 k c ((σ.step s.data.toList).nameT s.data.toList) w3) := hp3
  clear hp3 hk3
  obtain ⟨v9, v10, v11, v15, v16, v17, v18, d9, d10, d11, d15, d16, d17, d18, dz⟩ := HPx.out.cs
  have z10 := dz 10
  have z11 := dz 11
  clear dz d9 d15 d16 d17 d18
  clear HPx
  go_wp2_with fail
  refine (rmust_any HP4.out [115, 101, 116] k (by have := far_must s.data.toList [115, 101, 116] ((σ.step s.data.toList).nameT s.data.toList); omega)).mono ?_
  rintro r w5 ⟨rfl, hp5, hk5⟩
  have HP5 : Hid (RS b s 0 k c (((σ.step s.data.toList).nameT s.data.toList).must s.data.toList [115, 101, 116]) w5) := hp5
  have HK5 : Hid (RK b w w5) := HK4.out.trans hk5
  have t5 := Sp.rem_must s.data.toList [115, 101, 116] ((σ.step s.data.toList).nameT s.data.toList)
  clear hp5 hk5
  clear d10 d11 z10 z11
  obtain ⟨σ0, HS0⟩ : ∃ σ0, Hid (((σ.step s.data.toList).nameT s.data.toList).must s.data.toList [115, 101, 116] = σ0) := ⟨_, rfl⟩
  rw [HS0.out] at HV HP5 t5
  have hcn : c.ng = 0 := by rw [hc0]
  obtain ⟨n', hn'⟩ : ∃ m, n = m + 1 := ⟨n - 1, by omega⟩
  have hr := rem_chgT s.data.toList n σ0
  have HE : Hid (Sp.chgL s.data.toList n n σ0 = if (Sp.chgT s.data.toList n σ0).is s.data.toList [44] then Sp.chgL s.data.toList n n' ((Sp.chgT s.data.toList n σ0).step s.data.toList) else Sp.chgT s.data.toList n σ0) := by
    show _ = _
    have h := chgL_eq s.data.toList n n' σ0
    rw [← hn'] at h
    exact h
  go_wp2_with fail
  refine (rchange_any IA hn (by omega) (by omega) HP5).mono ?_
  rintro r w6 ⟨rfl, hp6, hk6⟩
  have HP6 : Hid (RS b s 0 k { c with ng := c.ng + 1 } (Sp.chgT s.data.toList n σ0) w6) := hp6
  have HK6 : Hid (RK b w w6) := HK5.out.trans hk6
  clear hp6 hk6
  go_wp2_with fail
  go_loopg [193] n' (fun m _ wr => m ≤ n' ∧ ∃ (σ' : Sp.St) (j : Nat), 32 * Sp.rem s.data.toList σ' ≤ m + 1 ∧ Sp.rem s.data.toList σ' ≤ Sp.rem s.data.toList σ ∧ j + m ≤ n ∧ Hid (Sp.chgL s.data.toList n n σ0 = if σ'.is s.data.toList [44] then Sp.chgL s.data.toList n m (σ'.step s.data.toList) else σ') ∧ Hid (RS b s 0 k { c with ng := j } σ' wr) ∧ Hid (RK b w wr))
  case atStart => exact ⟨Nat.le_refl _, _, c.ng + 1, by omega, by omega, by omega, HE.out, HP6.out, HK6.out⟩
  case round =>
    obtain ⟨hmn, σ', j, hms, hrr, hjm, HR, HPr, HKr⟩ := hrel
    have c7 := HPr.out.err
    cases hb : σ'.is s.data.toList [44]
    · have HT : Hid (Sp.chgL s.data.toList n n σ0 = σ') := by show _ = _; rw [HR.out, hb]; rfl
      clear HR
      cases σ' with
      | dead y a =>
        have hz := er_dead HPr.out
        clear hb
        go_wp2_with fail
        refine (IA.out.where_ 0 k _ _ _ (by omega) (by omega) HPr.out).mono ?_
        rintro r w7 ⟨xa, xb, rfl, hp7, hk7⟩
        have HP8 : Hid (RS b s 0 k { c with ng := j } (Sp.run s.data.toList n .where_ 0 (Sp.St.dead y a)) ((w7.setCell ⟨b, 15, none⟩ (.int .i64 xa)).setCell ⟨b, 16, none⟩ (.int .i64 xb))) := (hp7.s15 xa).s16 xb
        have HK8 : Hid (RK b w ((w7.setCell ⟨b, 15, none⟩ (.int .i64 xa)).setCell ⟨b, 16, none⟩ (.int .i64 xb))) := ((HKr.out.trans hk7).set 15 (by decide) _).set 16 (by decide) _
        have HPy : Hid (RS b s 0 k { c with ng := j } (Sp.run s.data.toList n .where_ 0 (Sp.St.dead y a)) w7) := hp7
        clear hp7 hk7
        obtain ⟨v9, v10, v11, v15, v16, v17, v18, d9, d10, d11, d15, d16, d17, d18, dz⟩ := HPy.out.cs
        have z15 := dz 15
        have z16 := dz 16
        clear dz d9 d10 d11 d17 d18
        clear HPy
        go_wp2_with fail
        go_end0
        exact ⟨rfl, _, by rw [HV.out, HT.out]; exact HP8.out, HK8.out⟩
      | live e =>
        have hz : (((er (.live e) : Nat) : Int) == 0) = true := rfl
        go_wp2_with fail
        refine (ris_any HPr.out [44]).mono ?_
        rintro r w9 ⟨rfl, rfl⟩
        go_wp2_with fail
        refine (IA.out.where_ 0 k _ _ _ (by omega) (by omega) HPr.out).mono ?_
        rintro r w7 ⟨xa, xb, rfl, hp7, hk7⟩
        have HP8 : Hid (RS b s 0 k { c with ng := j } (Sp.run s.data.toList n .where_ 0 (Sp.St.live e)) ((w7.setCell ⟨b, 15, none⟩ (.int .i64 xa)).setCell ⟨b, 16, none⟩ (.int .i64 xb))) := (hp7.s15 xa).s16 xb
        have HK8 : Hid (RK b w ((w7.setCell ⟨b, 15, none⟩ (.int .i64 xa)).setCell ⟨b, 16, none⟩ (.int .i64 xb))) := ((HKr.out.trans hk7).set 15 (by decide) _).set 16 (by decide) _
        have HPy : Hid (RS b s 0 k { c with ng := j } (Sp.run s.data.toList n .where_ 0 (Sp.St.live e)) w7) := hp7
        clear hp7 hk7
        obtain ⟨v9, v10, v11, v15, v16, v17, v18, d9, d10, d11, d15, d16, d17, d18, dz⟩ := HPy.out.cs
        have z15 := dz 15
        have z16 := dz 16
        clear dz d9 d10 d11 d17 d18
        clear HPy
        go_wp2_with fail
        go_end0
        exact ⟨rfl, _, by rw [HV.out, HT.out]; exact HP8.out, HK8.out⟩
    · have h1 := Sp.rem_step_lt hb
      have hz : (((er σ' : Nat) : Int) == 0) = true := by obtain ⟨e, rfl, _⟩ := is_live hb; rfl
      obtain ⟨m, rfl⟩ : ∃ m, gk = m + 1 := ⟨gk - 1, by omega⟩
      have h2 := rem_chgT s.data.toList n (σ'.step s.data.toList)
      have HT : Hid (Sp.chgL s.data.toList n n σ0 = if (Sp.chgT s.data.toList n (σ'.step s.data.toList)).is s.data.toList [44] then Sp.chgL s.data.toList n m ((Sp.chgT s.data.toList n (σ'.step s.data.toList)).step s.data.toList) else Sp.chgT s.data.toList n (σ'.step s.data.toList)) := by show _ = _; rw [HR.out, hb, if_pos rfl, chgL_eq]
      clear HR
      go_wp2_with fail
      refine (ris_any HPr.out [44]).mono ?_
      rintro r w9 ⟨rfl, rfl⟩
      go_wp2_with fail
      refine (rstep_is HPr.out hb).mono ?_
      rintro r w2 ⟨rfl, hp2, hk2⟩
      have HP2 : Hid (RS b s 0 k { c with ng := j } (σ'.step s.data.toList) w2) := hp2.weak (Nat.le_succ k)
      have HK2 : Hid (RK b w w2) := HKr.out.trans hk2
      clear hp2 hk2
      go_wp2_with fail
      refine (rchange_any IA hn (by omega) (by show j ≤ 1000000; omega) HP2).mono ?_
      rintro r w3 ⟨rfl, hp3, hk3⟩
      have HP3 : Hid (RS b s 0 k { c with ng := j + 1 } (Sp.chgT s.data.toList n (σ'.step s.data.toList)) w3) := hp3
      have HK3 : Hid (RK b w w3) := HK2.out.trans hk3
      clear hp3 hk3
      go_wp2_with fail
      go_roundg m
      case measure => omega
      case rel => exact ⟨by omega, _, j + 1, by omega, by omega, by omega, HT.out, HP3.out, HK3.out⟩

end Go.Proofs.YtgnncnhkgmhngaaGreatDoor

namespace Go.Proofs.YtgnncnhkgmhngaaGreatDoor
open Go.RowKit

set_option maxRecDepth 100000 in
set_option maxHeartbeats 8000000 in
theorem rst_queryK {b : Nat} {s : ByteArray} {n k : Nat} {c : Ct} {σ : Sp.St} {w : World} (IA : Hid (RAll b s n)) (hn : n ≤ 900000) (hm : 32 * Sp.rem s.data.toList σ + 20 ≤ n) (HP : Hid (RS b s 0 k c σ w)) (hk : σ.isCl s.data.toList .key = true) (f0 : σ.is s.data.toList [99, 114, 101, 97, 116, 101] = false) (f1 : σ.is s.data.toList [100, 114, 111, 112] = false) (f2 : σ.is s.data.toList [105, 110, 115, 101, 114, 116] = false) (f3 : σ.is s.data.toList [100, 101, 108, 101, 116, 101] = false) (f4 : σ.is s.data.toList [117, 112, 100, 97, 116, 101] = false) (f5 : σ.is s.data.toList [98, 101, 103, 105, 110] = false) (f6 : σ.is s.data.toList [99, 111, 109, 109, 105, 116] = false) (f7 : σ.is s.data.toList [114, 111, 108, 108, 98, 97, 99, 107] = false) :
    Calls Tryz.prog 45 #[.pointer (some ⟨b, 0, none⟩)] w (RSt b s k n σ w) := by
  have lb := HP.out.lb
  obtain ⟨kd, ts, ta, tn, c1, c2, c3, c4, hw, hcl⟩ := HP.out.tok
  have hkb : (kd.toList == [107, 101, 121]) = true := (hcl .key (by decide)).trans hk
  have hkd : kd.toList = [107, 101, 121] := by simpa using hkb
  have hw' : ∀ z, (ts.toList == z) = σ.is s.data.toList z := fun z => by rw [hw, decide_eq_true hkd]; rfl
  have e0 : (ts.toList == [99, 114, 101, 97, 116, 101]) = false := (hw' _).trans f0
  have e1 : (ts.toList == [100, 114, 111, 112]) = false := (hw' _).trans f1
  have e2 : (ts.toList == [105, 110, 115, 101, 114, 116]) = false := (hw' _).trans f2
  have e3 : (ts.toList == [100, 101, 108, 101, 116, 101]) = false := (hw' _).trans f3
  have e4 : (ts.toList == [117, 112, 100, 97, 116, 101]) = false := (hw' _).trans f4
  have e5 : (ts.toList == [98, 101, 103, 105, 110]) = false := (hw' _).trans f5
  have e6 : (ts.toList == [99, 111, 109, 109, 105, 116]) = false := (hw' _).trans f6
  have e7 : (ts.toList == [114, 111, 108, 108, 98, 97, 99, 107]) = false := (hw' _).trans f7
  have HV : Hid (Sp.stmt s.data.toList n σ = Sp.run s.data.toList n .query 0 σ) := by show _ = _; unfold Sp.stmt; simp only [f0, f1, f2, f3, f4, f5, f6, f7, Bool.or_self, Bool.false_eq_true, if_false]
  clear hw hcl hw' hkd f0 f1 f2 f3 f4 f5 f6 f7
  obtain ⟨v9, v10, v11, v15, v16, v17, v18, d9, d10, d11, d15, d16, d17, d18, dz⟩ := HP.out.cs
  have z9 := dz 9
  have z15 := dz 15
  have z17 := dz 17
  clear dz d10 d11 d16 d18
  have HP0 : Hid (RS b s 0 k c σ ((((w.setCell ⟨b, 15, none⟩ (.int .i64 (-1))).setCell ⟨b, 17, none⟩ (.int .i64 (-1))).setCell ⟨b, 9, none⟩ (.string ts)).setCell ⟨b, 9, none⟩ (.string ⟨#[113, 117, 101, 114, 121]⟩))) := (((HP.out.s15 (-1)).s17 (-1)).s9 ts).s9 _
  have HK0 : Hid (RK b w ((((w.setCell ⟨b, 15, none⟩ (.int .i64 (-1))).setCell ⟨b, 17, none⟩ (.int .i64 (-1))).setCell ⟨b, 9, none⟩ (.string ts)).setCell ⟨b, 9, none⟩ (.string ⟨#[113, 117, 101, 114, 121]⟩))) := ((((RK.refl b w).set 15 (by decide) _).set 17 (by decide) _).set 9 (by decide) _).set 9 (by decide) _
  go_enter Tryz.func45, Tryz.ntmps45
  go_wp2_with fail
  refine (IA.out.query 0 k _ _ _ (by omega) (by show 32 * Sp.rem s.data.toList _ + 15 ≤ n; omega) HP0.out).mono ?_
  rintro r w6 ⟨q6, rfl, hp6, hk6⟩
  have HP6 : Hid (RS b s 0 k c (Sp.run s.data.toList n .query 0 σ) w6) := hp6
  have HP7 : Hid (RS b s 0 k c (Sp.run s.data.toList n .query 0 σ) (w6.setCell ⟨b, 17, none⟩ (.int .i64 q6))) := hp6.s17 q6
  have HK7 : Hid (RK b w (w6.setCell ⟨b, 17, none⟩ (.int .i64 q6))) := (HK0.out.trans hk6).set 17 (by decide) _
  clear hp6 hk6 c1 c2 c3 c4 d9 d15 d17 z9 z15 z17 HP0 HK0
  obtain ⟨v9, v10, v11, v15, v16, v17, v18, d9, d10, d11, d15, d16, d17, d18, dz⟩ := HP6.out.cs
  have z17 := dz 17
  clear dz d9 d10 d11 d15 d16 d18
  go_wp2_with fail
  go_end0
  exact ⟨rfl, _, by rw [HV.out]; exact HP7.out, HK7.out⟩

set_option maxRecDepth 100000 in
set_option maxHeartbeats 8000000 in
theorem rst_queryN {b : Nat} {s : ByteArray} {n k : Nat} {c : Ct} {σ : Sp.St} {w : World} (IA : Hid (RAll b s n)) (hn : n ≤ 900000) (hm : 32 * Sp.rem s.data.toList σ + 20 ≤ n) (HP : Hid (RS b s 0 k c σ w)) (hk : σ.isCl s.data.toList .key = false) (h9 : w.cell? ⟨b, 9, none⟩ = some (.string ⟨#[]⟩)) (f0 : σ.is s.data.toList [99, 114, 101, 97, 116, 101] = false) (f1 : σ.is s.data.toList [100, 114, 111, 112] = false) (f2 : σ.is s.data.toList [105, 110, 115, 101, 114, 116] = false) (f3 : σ.is s.data.toList [100, 101, 108, 101, 116, 101] = false) (f4 : σ.is s.data.toList [117, 112, 100, 97, 116, 101] = false) (f5 : σ.is s.data.toList [98, 101, 103, 105, 110] = false) (f6 : σ.is s.data.toList [99, 111, 109, 109, 105, 116] = false) (f7 : σ.is s.data.toList [114, 111, 108, 108, 98, 97, 99, 107] = false) :
    Calls Tryz.prog 45 #[.pointer (some ⟨b, 0, none⟩)] w (RSt b s k n σ w) := by
  have lb := HP.out.lb
  obtain ⟨kd, ts, ta, tn, c1, c2, c3, c4, hw, hcl⟩ := HP.out.tok
  have hkb : (kd.toList == [107, 101, 121]) = false := (hcl .key (by decide)).trans hk
  have HV : Hid (Sp.stmt s.data.toList n σ = Sp.run s.data.toList n .query 0 σ) := by show _ = _; unfold Sp.stmt; simp only [f0, f1, f2, f3, f4, f5, f6, f7, Bool.or_self, Bool.false_eq_true, if_false]
  clear hw hcl f0 f1 f2 f3 f4 f5 f6 f7
  obtain ⟨v9, v10, v11, v15, v16, v17, v18, d9, d10, d11, d15, d16, d17, d18, dz⟩ := HP.out.cs
  have z9 := dz 9
  have z15 := dz 15
  have z17 := dz 17
  clear dz d10 d11 d16 d18
  clear d9
  have d9 := h9
  clear h9
  have HP0 : Hid (RS b s 0 k c σ (((w.setCell ⟨b, 15, none⟩ (.int .i64 (-1))).setCell ⟨b, 17, none⟩ (.int .i64 (-1))).setCell ⟨b, 9, none⟩ (.string ⟨#[113, 117, 101, 114, 121]⟩))) := ((HP.out.s15 (-1)).s17 (-1)).s9 _
  have HK0 : Hid (RK b w (((w.setCell ⟨b, 15, none⟩ (.int .i64 (-1))).setCell ⟨b, 17, none⟩ (.int .i64 (-1))).setCell ⟨b, 9, none⟩ (.string ⟨#[113, 117, 101, 114, 121]⟩))) := (((RK.refl b w).set 15 (by decide) _).set 17 (by decide) _).set 9 (by decide) _
  go_enter Tryz.func45, Tryz.ntmps45
  go_wp2_with fail
  refine (IA.out.query 0 k _ _ _ (by omega) (by show 32 * Sp.rem s.data.toList _ + 15 ≤ n; omega) HP0.out).mono ?_
  rintro r w6 ⟨q6, rfl, hp6, hk6⟩
  have HP6 : Hid (RS b s 0 k c (Sp.run s.data.toList n .query 0 σ) w6) := hp6
  have HP7 : Hid (RS b s 0 k c (Sp.run s.data.toList n .query 0 σ) (w6.setCell ⟨b, 17, none⟩ (.int .i64 q6))) := hp6.s17 q6
  have HK7 : Hid (RK b w (w6.setCell ⟨b, 17, none⟩ (.int .i64 q6))) := (HK0.out.trans hk6).set 17 (by decide) _
  clear hp6 hk6 c1 c2 c3 c4 d9 d15 d17 z9 z15 z17 HP0 HK0
  obtain ⟨v9, v10, v11, v15, v16, v17, v18, d9, d10, d11, d15, d16, d17, d18, dz⟩ := HP6.out.cs
  have z17 := dz 17
  clear dz d9 d10 d11 d15 d16 d18
  go_wp2_with fail
  go_end0
  exact ⟨rfl, _, by rw [HV.out]; exact HP7.out, HK7.out⟩

theorem rstatement_any {b : Nat} {s : ByteArray} {n k : Nat} {σ : Sp.St} {w : World} (hn : n ≤ 900000) (hm : 32 * Sp.rem s.data.toList σ + 20 ≤ n) (HP : Hid (RS b s 0 k ⟨0, 0, 0⟩ σ w)) (h9 : w.cell? ⟨b, 9, none⟩ = some (.string ⟨#[]⟩)) :
    Calls Tryz.prog 45 #[.pointer (some ⟨b, 0, none⟩)] w (RSt b s k n σ w) := by
  have IA : Hid (RAll b s n) := rall b s n n (Nat.le_refl _)
  cases f0 : σ.is s.data.toList [99, 114, 101, 97, 116, 101]
  · skip
    cases f1 : σ.is s.data.toList [100, 114, 111, 112]
    · skip
      cases f2 : σ.is s.data.toList [105, 110, 115, 101, 114, 116]
      · skip
        cases f3 : σ.is s.data.toList [100, 101, 108, 101, 116, 101]
        · skip
          cases f4 : σ.is s.data.toList [117, 112, 100, 97, 116, 101]
          · skip
            cases f5 : σ.is s.data.toList [98, 101, 103, 105, 110]
            · skip
              cases f6 : σ.is s.data.toList [99, 111, 109, 109, 105, 116]
              · skip
                cases f7 : σ.is s.data.toList [114, 111, 108, 108, 98, 97, 99, 107]
                · skip
                  cases hk : σ.isCl s.data.toList .key
                  · exact rst_queryN IA hn hm HP hk h9 f0 f1 f2 f3 f4 f5 f6 f7
                  · exact rst_queryK IA hn hm HP hk f0 f1 f2 f3 f4 f5 f6 f7
                · exact rst_rollback IA hn hm rfl HP f7
              · exact rst_commit IA hn hm rfl HP f6
            · exact rst_begin IA hn hm rfl HP f5
          · exact rst_update IA hn hm rfl HP f4
        · exact rst_delete IA hn hm rfl HP f3
      · cases hv : (((σ.step s.data.toList).must s.data.toList [105, 110, 116, 111]).nameT s.data.toList).is s.data.toList [118, 97, 108, 117, 101, 115]
        · exact rst_insertQ IA hn hm rfl HP f2 hv
        · exact rst_insertV IA hn hm rfl HP f2 hv
    · exact rst_drop IA hn hm rfl HP f1
  · exact rst_create IA hn hm rfl HP f0
end Go.Proofs.YtgnncnhkgmhngaaGreatDoor
