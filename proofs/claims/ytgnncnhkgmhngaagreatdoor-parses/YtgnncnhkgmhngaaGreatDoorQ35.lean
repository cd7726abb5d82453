import Derived.Test.YtgnncnhkgmhngaaGreatDoorQ34
namespace Go.Proofs.YtgnncnhkgmhngaaGreatDoor
open Go.RowKit

/-- A statement in memory. -/
def StV (w : World) : Sp.Stm → Nat → Nat → Value → Prop
  | .create t cols, lo, hi, v => ∃ p, v = .iface 160 p ∧ CrV w t cols lo hi p
  | .drop t, lo, hi, v => ∃ q, v = .iface 163 (.pointer (some ⟨q, 0, none⟩)) ∧ lo ≤ q ∧ q < hi ∧ At w q [.string (bz t.1), .int .i64 (t.2 : Nat)]
  | .insertV a t rows, lo, hi, v => ∃ p, v = .iface 169 p ∧ InV w a t rows lo hi p
  | .insertQ a t nd, lo, hi, v => ∃ p, v = .iface 169 p ∧ InQ w a t nd lo hi p
  | .delete t wh, lo, hi, v => ∃ q pv, v = .iface 171 (.pointer (some ⟨q, 0, none⟩)) ∧ lo ≤ q ∧ q < hi ∧ At w q [.string (bz t.1), .int .i64 (t.2 : Nat), pv] ∧ IsPt pv ∧ Rp w wh lo q pv
  | .update t sets wh, lo, hi, v => ∃ p, v = .iface 176 p ∧ UpV w t sets wh lo hi p
  | .trans z, lo, hi, v => ∃ q, v = .iface 122 (.pointer (some ⟨q, 0, none⟩)) ∧ lo ≤ q ∧ q < hi ∧ At w q [.string (bz z)]
  | .query nd, lo, hi, v => Rp w nd lo hi v
theorem CrV.low {w : World} {nm : Sp.Nm} {ns : List (Sp.Nm × Int)} {lo hi lo' : Nat} {v : Value} (h : CrV w nm ns lo hi v) (h1 : lo' ≤ lo) : CrV w nm ns lo' hi v := by
  obtain ⟨q, sl, e, a, b, c, d⟩ := h
  exact ⟨q, sl, e, by omega, b, c, d.wide h1 (Nat.le_refl _)⟩
theorem InV.low {w : World} {a : Nat} {nm : Sp.Nm} {ns : List (Nat × Sp.Nd)} {lo hi lo' : Nat} {v : Value} (h : InV w a nm ns lo hi v) (h1 : lo' ≤ lo) : InV w a nm ns lo' hi v := by
  obtain ⟨q, sl, e, a, b, c, d⟩ := h
  exact ⟨q, sl, e, by omega, b, c, d⟩
theorem InQ.low {w : World} {a : Nat} {nm : Sp.Nm} {nd : Sp.Nd} {lo hi lo' : Nat} {v : Value} (h : InQ w a nm nd lo hi v) (h1 : lo' ≤ lo) : InQ w a nm nd lo' hi v := by
  obtain ⟨q, sl, e, a, b, c, d⟩ := h
  exact ⟨q, sl, e, by omega, b, c, d⟩
theorem UpV.low {w : World} {nm : Sp.Nm} {ns : List (Sp.Nm × Nat × Sp.Nd)} {wh : Sp.Nd} {lo hi lo' : Nat} {v : Value} (h : UpV w nm ns wh lo hi v) (h1 : lo' ≤ lo) : UpV w nm ns wh lo' hi v := by
  obtain ⟨q, sl, pv, mid, e, a, b, c, d, f, g⟩ := h
  exact ⟨q, sl, pv, mid, e, by omega, b, c, d, f.wide h1 (Nat.le_refl _), g⟩

set_option maxHeartbeats 4000000 in
theorem statement_create {b c cap len : Nat} {s : Sp.Bs} {m : Nat} {σ : Sp.St} {w : World} (IA : All b c cap len s (m + 1)) (IB : All b c cap len s m) (hn : m + 1 ≤ 900000) (hm : 32 * Sp.rem s σ + 31 ≤ m + 1) (hp : PS b c cap len s 0 σ w) (h_create : σ.is s [99, 114, 101, 97, 116, 101] = true) :
    Calls Tryz.prog 48 #[.pointer (some ⟨b, 0, none⟩)] w (PostV b c cap len s 0 (Sp.stmt s (m + 1) σ) w IsIf fun w' v => StV w' (Sp.stm s (m + 1) σ) w.heap.size w'.heap.size v) := by
  have hbw := hp.lb
  have hcw := hp.lc
  have r0 := Sp.rem_step_le s σ
  obtain ⟨i, wd, hi, tc, PK⟩ := peek_any hp
  have HTK : Hid (σ.isLive = true → (∀ e, σ = .live e → Sp.tokCl s e ≠ .bad) → wd = bz (σ.word s)) := fun hl => (tok_live hi tc hl).2
  have HP0 : Hid (PS b c cap len s 0 σ w) := hp
  have HPK : Hid (∀ w', w' = w → Calls Tryz.prog 75 #[.pointer (some ⟨b, 0, none⟩)] w' fun r w'' => r = .returned (.agg #[.int .i64 (kn (Sp.tokCl s (pos s i))), .int .i64 (Sp.tokAt s (pos s i) : Nat), .string wd]) ∧ Below w.heap.size w w'') := fun w' e => by subst e; exact PK
  have HIA : Hid (All b c cap len s (m + 1)) := IA
  have HIB : Hid (All b c cap len s m) := IB
  have HV : Hid (Sp.stmt s (m + 1) σ = crT s m (σ.step s)) := by show _ = _; simp only [Sp.stmt, h_create, if_true]; rfl
  have HVT : Hid (Sp.stm s (m + 1) σ = .create (((σ.step s).must s [116, 97, 98, 108, 101]).nm s) (Sp.colTs s (m + 1) 0 ((((σ.step s).must s [116, 97, 98, 108, 101]).nameT s).must s [40]))) := by show _ = _; simp only [Sp.stm, h_create, if_true]
  clear hp tc hi PK IA IB
  generalize kn (Sp.tokCl s (pos s i)) = kk at *
  generalize Sp.tokAt s (pos s i) = st at *
  have hfd := tokF2
  go_enter Tryz.func48, Tryz.ntmps48
  go_wp2_with fail
  refine (HPK.out _ rfl).mono ?_
  clear HPK
  rintro r w1 ⟨rfl, hb1⟩
  have HP1 : Hid (PS b c cap len s 0 σ (w1.alloc (.cells #[.int .i64 kk, .int .i64 (st : Int), .string wd] 155))) := (HP0.out.below hb1).alloc _
  have HK1 : Hid (Kept b w (w1.alloc (.cells #[.int .i64 kk, .int .i64 (st : Int), .string wd] 155))) := (Kept.below hb1).alloc _
  have HX1 : Hid (Bk (w1.alloc (.cells #[.int .i64 kk, .int .i64 (st : Int), .string wd] 155)) w1.heap.size [.int .i64 kk, .int .i64 (st : Int), .string wd]) := Bk.new _ _ _
  have hz1 : w.heap.size ≤ w1.heap.size := hb1.size
  clear hb1 HP0
  go_wp2_with fail
  refine (accept1q HP1.out [99, 114, 101, 97, 116, 101] (by decide) _ (by simp)).mono ?_
  generalize w1.alloc (.cells #[.int .i64 kk, .int .i64 (st : Int), .string wd] 155) = w1' at *
  rintro r w2 ⟨rfl, hp2, hk2⟩
  rw [take_yes h_create] at hp2
  rw [h_create]
  have HP2 : Hid (PS b c cap len s 0 (σ.step s) w2) := hp2
  have HK2 : Hid (Kept b w w2) := HK1.out.trans hk2
  have HX2 : Hid (Bk w2 w1.heap.size [.int .i64 kk, .int .i64 (st : Int), .string wd]) := HX1.out.kept hk2 (by omega)
  clear hp2 hk2 HP1 HK1 HX1
  go_wp2_with fail
  refine (create_any (m := m) (by omega) (by omega) HP2.out).mono ?_
  rintro r w20 ⟨v20, rfl, hp20, hk20, ⟨q20, rfl⟩, hq20⟩
  have HP20 : Hid (PS b c cap len s 0 (Sp.stmt s (m + 1) σ) w20) := by show PS b c cap len s 0 _ w20; rw [HV.out]; exact hp20
  have HK20 : Hid (Kept b w w20) := HK2.out.trans hk20
  have hzk := HK2.out.size
  have HR20 : Hid ((Sp.stmt s (m + 1) σ).isLive = true → StV w20 (Sp.stm s (m + 1) σ) w.heap.size w20.heap.size (.iface 160 (.pointer (some ⟨q20, 0, none⟩)))) := fun hl => by rw [HV.out] at hl; rw [HVT.out]; exact ⟨_, rfl, CrV.low (hq20 hl) hzk⟩
  clear hp20 hk20 hq20 HP2 HK2 HX2
  go_wp2_with fail
  go_ret
  exact ⟨_, rfl, HP20.out, HK20.out, Or.inr ⟨_, _, rfl⟩, HR20.out⟩

set_option maxHeartbeats 4000000 in
theorem statement_insertV {b c cap len : Nat} {s : Sp.Bs} {m : Nat} {σ : Sp.St} {w : World} (IA : All b c cap len s (m + 1)) (IB : All b c cap len s m) (hn : m + 1 ≤ 900000) (hm : 32 * Sp.rem s σ + 31 ≤ m + 1) (hp : PS b c cap len s 0 σ w) (h_create : σ.is s [99, 114, 101, 97, 116, 101] = false) (h_drop : σ.is s [100, 114, 111, 112] = false) (h_insert : σ.is s [105, 110, 115, 101, 114, 116] = true) (h_values : Sp.St.is s [118, 97, 108, 117, 101, 115] (((σ.step s).must s [105, 110, 116, 111]).nameT s) = true) :
    Calls Tryz.prog 48 #[.pointer (some ⟨b, 0, none⟩)] w (PostV b c cap len s 0 (Sp.stmt s (m + 1) σ) w IsIf fun w' v => StV w' (Sp.stm s (m + 1) σ) w.heap.size w'.heap.size v) := by
  have hbw := hp.lb
  have hcw := hp.lc
  have r0 := Sp.rem_step_le s σ
  obtain ⟨i, wd, hi, tc, PK⟩ := peek_any hp
  have HTK : Hid (σ.isLive = true → (∀ e, σ = .live e → Sp.tokCl s e ≠ .bad) → wd = bz (σ.word s)) := fun hl => (tok_live hi tc hl).2
  have HP0 : Hid (PS b c cap len s 0 σ w) := hp
  have HPK : Hid (∀ w', w' = w → Calls Tryz.prog 75 #[.pointer (some ⟨b, 0, none⟩)] w' fun r w'' => r = .returned (.agg #[.int .i64 (kn (Sp.tokCl s (pos s i))), .int .i64 (Sp.tokAt s (pos s i) : Nat), .string wd]) ∧ Below w.heap.size w w'') := fun w' e => by subst e; exact PK
  have HIA : Hid (All b c cap len s (m + 1)) := IA
  have HIB : Hid (All b c cap len s m) := IB
  have HV : Hid (Sp.stmt s (m + 1) σ = Sp.rowL s (m + 1) (m + 1) (Sp.St.step s (((σ.step s).must s [105, 110, 116, 111]).nameT s))) := by show _ = _; simp only [Sp.stmt, h_create, h_drop, h_insert, h_values, Bool.false_eq_true, if_true, if_false]; skip
  have HVT : Hid (Sp.stm s (m + 1) σ = .insertV ((σ.step s).at_ s) (((σ.step s).must s [105, 110, 116, 111]).nm s) (Sp.rowTs s (m + 1) (m + 1) (Sp.St.step s (((σ.step s).must s [105, 110, 116, 111]).nameT s)))) := by show _ = _; simp only [Sp.stm, h_create, h_drop, h_insert, h_values, Bool.false_eq_true, if_true, if_false]
  clear hp tc hi PK IA IB
  generalize kn (Sp.tokCl s (pos s i)) = kk at *
  generalize Sp.tokAt s (pos s i) = st at *
  have hfd := tokF2
  go_enter Tryz.func48, Tryz.ntmps48
  go_wp2_with fail
  refine (HPK.out _ rfl).mono ?_
  clear HPK
  rintro r w1 ⟨rfl, hb1⟩
  have HP1 : Hid (PS b c cap len s 0 σ (w1.alloc (.cells #[.int .i64 kk, .int .i64 (st : Int), .string wd] 155))) := (HP0.out.below hb1).alloc _
  have HK1 : Hid (Kept b w (w1.alloc (.cells #[.int .i64 kk, .int .i64 (st : Int), .string wd] 155))) := (Kept.below hb1).alloc _
  have HX1 : Hid (Bk (w1.alloc (.cells #[.int .i64 kk, .int .i64 (st : Int), .string wd] 155)) w1.heap.size [.int .i64 kk, .int .i64 (st : Int), .string wd]) := Bk.new _ _ _
  have hz1 : w.heap.size ≤ w1.heap.size := hb1.size
  clear hb1 HP0
  go_wp2_with fail
  refine (accept1q HP1.out [99, 114, 101, 97, 116, 101] (by decide) _ (by simp)).mono ?_
  generalize w1.alloc (.cells #[.int .i64 kk, .int .i64 (st : Int), .string wd] 155) = w1' at *
  rintro r w2 ⟨rfl, hp2, hk2⟩
  rw [take_no h_create] at hp2
  rw [h_create]
  have HP2 : Hid (PS b c cap len s 0 σ w2) := hp2
  have HK2 : Hid (Kept b w w2) := HK1.out.trans hk2
  have HX2 : Hid (Bk w2 w1.heap.size [.int .i64 kk, .int .i64 (st : Int), .string wd]) := HX1.out.kept hk2 (by omega)
  clear hp2 hk2 HP1 HK1 HX1
  go_wp2_with fail
  refine (accept1 HP2.out [100, 114, 111, 112] (by decide)).mono ?_
  rintro r w3 ⟨rfl, hp3, hk3⟩
  rw [take_no h_drop] at hp3
  rw [h_drop]
  have HP3 : Hid (PS b c cap len s 0 σ w3) := hp3
  have HK3 : Hid (Kept b w w3) := HK2.out.trans hk3
  have HX3 : Hid (Bk w3 w1.heap.size [.int .i64 kk, .int .i64 (st : Int), .string wd]) := HX2.out.kept hk3 (by omega)
  clear hp3 hk3 HP2 HK2 HX2
  go_wp2_with fail
  refine (accept1 HP3.out [105, 110, 115, 101, 114, 116] (by decide)).mono ?_
  rintro r w4 ⟨rfl, hp4, hk4⟩
  rw [take_yes h_insert] at hp4
  rw [h_insert]
  have HP4 : Hid (PS b c cap len s 0 (σ.step s) w4) := hp4
  have HK4 : Hid (Kept b w w4) := HK3.out.trans hk4
  have HX4 : Hid (Bk w4 w1.heap.size [.int .i64 kk, .int .i64 (st : Int), .string wd]) := HX3.out.kept hk4 (by omega)
  clear hp4 hk4 HP3 HK3 HX3
  go_wp2_with fail
  refine (insertV_any HIA.out hn (by omega) HP4.out h_values).mono ?_
  rintro r w20 ⟨v20, rfl, hp20, hk20, ⟨q20, rfl⟩, hq20⟩
  have HP20 : Hid (PS b c cap len s 0 (Sp.stmt s (m + 1) σ) w20) := by show PS b c cap len s 0 _ w20; rw [HV.out]; exact hp20
  have HK20 : Hid (Kept b w w20) := HK4.out.trans hk20
  have hzk := HK4.out.size
  have HR20 : Hid ((Sp.stmt s (m + 1) σ).isLive = true → StV w20 (Sp.stm s (m + 1) σ) w.heap.size w20.heap.size (.iface 169 (.pointer (some ⟨q20, 0, none⟩)))) := fun hl => by rw [HV.out] at hl; rw [HVT.out]; exact ⟨_, rfl, InV.low (hq20 hl) hzk⟩
  clear hp20 hk20 hq20 HP4 HK4 HX4
  go_wp2_with fail
  go_ret
  exact ⟨_, rfl, HP20.out, HK20.out, Or.inr ⟨_, _, rfl⟩, HR20.out⟩

set_option maxHeartbeats 4000000 in
theorem statement_insertQ {b c cap len : Nat} {s : Sp.Bs} {m : Nat} {σ : Sp.St} {w : World} (IA : All b c cap len s (m + 1)) (IB : All b c cap len s m) (hn : m + 1 ≤ 900000) (hm : 32 * Sp.rem s σ + 31 ≤ m + 1) (hp : PS b c cap len s 0 σ w) (h_create : σ.is s [99, 114, 101, 97, 116, 101] = false) (h_drop : σ.is s [100, 114, 111, 112] = false) (h_insert : σ.is s [105, 110, 115, 101, 114, 116] = true) (h_values : Sp.St.is s [118, 97, 108, 117, 101, 115] (((σ.step s).must s [105, 110, 116, 111]).nameT s) = false) :
    Calls Tryz.prog 48 #[.pointer (some ⟨b, 0, none⟩)] w (PostV b c cap len s 0 (Sp.stmt s (m + 1) σ) w IsIf fun w' v => StV w' (Sp.stm s (m + 1) σ) w.heap.size w'.heap.size v) := by
  have hbw := hp.lb
  have hcw := hp.lc
  have r0 := Sp.rem_step_le s σ
  obtain ⟨i, wd, hi, tc, PK⟩ := peek_any hp
  have HTK : Hid (σ.isLive = true → (∀ e, σ = .live e → Sp.tokCl s e ≠ .bad) → wd = bz (σ.word s)) := fun hl => (tok_live hi tc hl).2
  have HP0 : Hid (PS b c cap len s 0 σ w) := hp
  have HPK : Hid (∀ w', w' = w → Calls Tryz.prog 75 #[.pointer (some ⟨b, 0, none⟩)] w' fun r w'' => r = .returned (.agg #[.int .i64 (kn (Sp.tokCl s (pos s i))), .int .i64 (Sp.tokAt s (pos s i) : Nat), .string wd]) ∧ Below w.heap.size w w'') := fun w' e => by subst e; exact PK
  have HIA : Hid (All b c cap len s (m + 1)) := IA
  have HIB : Hid (All b c cap len s m) := IB
  have HV : Hid (Sp.stmt s (m + 1) σ = Sp.run s (m + 1) .query 0 (((σ.step s).must s [105, 110, 116, 111]).nameT s)) := by show _ = _; simp only [Sp.stmt, h_create, h_drop, h_insert, h_values, Bool.false_eq_true, if_true, if_false]; skip
  have HVT : Hid (Sp.stm s (m + 1) σ = .insertQ ((σ.step s).at_ s) (((σ.step s).must s [105, 110, 116, 111]).nm s) (Sp.tr s (m + 1) .query 0 .nil (((σ.step s).must s [105, 110, 116, 111]).nameT s))) := by show _ = _; simp only [Sp.stm, h_create, h_drop, h_insert, h_values, Bool.false_eq_true, if_true, if_false]
  clear hp tc hi PK IA IB
  generalize kn (Sp.tokCl s (pos s i)) = kk at *
  generalize Sp.tokAt s (pos s i) = st at *
  have hfd := tokF2
  go_enter Tryz.func48, Tryz.ntmps48
  go_wp2_with fail
  refine (HPK.out _ rfl).mono ?_
  clear HPK
  rintro r w1 ⟨rfl, hb1⟩
  have HP1 : Hid (PS b c cap len s 0 σ (w1.alloc (.cells #[.int .i64 kk, .int .i64 (st : Int), .string wd] 155))) := (HP0.out.below hb1).alloc _
  have HK1 : Hid (Kept b w (w1.alloc (.cells #[.int .i64 kk, .int .i64 (st : Int), .string wd] 155))) := (Kept.below hb1).alloc _
  have HX1 : Hid (Bk (w1.alloc (.cells #[.int .i64 kk, .int .i64 (st : Int), .string wd] 155)) w1.heap.size [.int .i64 kk, .int .i64 (st : Int), .string wd]) := Bk.new _ _ _
  have hz1 : w.heap.size ≤ w1.heap.size := hb1.size
  clear hb1 HP0
  go_wp2_with fail
  refine (accept1q HP1.out [99, 114, 101, 97, 116, 101] (by decide) _ (by simp)).mono ?_
  generalize w1.alloc (.cells #[.int .i64 kk, .int .i64 (st : Int), .string wd] 155) = w1' at *
  rintro r w2 ⟨rfl, hp2, hk2⟩
  rw [take_no h_create] at hp2
  rw [h_create]
  have HP2 : Hid (PS b c cap len s 0 σ w2) := hp2
  have HK2 : Hid (Kept b w w2) := HK1.out.trans hk2
  have HX2 : Hid (Bk w2 w1.heap.size [.int .i64 kk, .int .i64 (st : Int), .string wd]) := HX1.out.kept hk2 (by omega)
  clear hp2 hk2 HP1 HK1 HX1
  go_wp2_with fail
  refine (accept1 HP2.out [100, 114, 111, 112] (by decide)).mono ?_
  rintro r w3 ⟨rfl, hp3, hk3⟩
  rw [take_no h_drop] at hp3
  rw [h_drop]
  have HP3 : Hid (PS b c cap len s 0 σ w3) := hp3
  have HK3 : Hid (Kept b w w3) := HK2.out.trans hk3
  have HX3 : Hid (Bk w3 w1.heap.size [.int .i64 kk, .int .i64 (st : Int), .string wd]) := HX2.out.kept hk3 (by omega)
  clear hp3 hk3 HP2 HK2 HX2
  go_wp2_with fail
  refine (accept1 HP3.out [105, 110, 115, 101, 114, 116] (by decide)).mono ?_
  rintro r w4 ⟨rfl, hp4, hk4⟩
  rw [take_yes h_insert] at hp4
  rw [h_insert]
  have HP4 : Hid (PS b c cap len s 0 (σ.step s) w4) := hp4
  have HK4 : Hid (Kept b w w4) := HK3.out.trans hk4
  have HX4 : Hid (Bk w4 w1.heap.size [.int .i64 kk, .int .i64 (st : Int), .string wd]) := HX3.out.kept hk4 (by omega)
  clear hp4 hk4 HP3 HK3 HX3
  go_wp2_with fail
  refine (insertQ_any HIA.out hn (by omega) HP4.out h_values).mono ?_
  rintro r w20 ⟨v20, rfl, hp20, hk20, ⟨q20, rfl⟩, hq20⟩
  have HP20 : Hid (PS b c cap len s 0 (Sp.stmt s (m + 1) σ) w20) := by show PS b c cap len s 0 _ w20; rw [HV.out]; exact hp20
  have HK20 : Hid (Kept b w w20) := HK4.out.trans hk20
  have hzk := HK4.out.size
  have HR20 : Hid ((Sp.stmt s (m + 1) σ).isLive = true → StV w20 (Sp.stm s (m + 1) σ) w.heap.size w20.heap.size (.iface 169 (.pointer (some ⟨q20, 0, none⟩)))) := fun hl => by rw [HV.out] at hl; rw [HVT.out]; exact ⟨_, rfl, InQ.low (hq20 hl) hzk⟩
  clear hp20 hk20 hq20 HP4 HK4 HX4
  go_wp2_with fail
  go_ret
  exact ⟨_, rfl, HP20.out, HK20.out, Or.inr ⟨_, _, rfl⟩, HR20.out⟩

set_option maxHeartbeats 4000000 in
theorem statement_update {b c cap len : Nat} {s : Sp.Bs} {m : Nat} {σ : Sp.St} {w : World} (IA : All b c cap len s (m + 1)) (IB : All b c cap len s m) (hn : m + 1 ≤ 900000) (hm : 32 * Sp.rem s σ + 31 ≤ m + 1) (hp : PS b c cap len s 0 σ w) (h_create : σ.is s [99, 114, 101, 97, 116, 101] = false) (h_drop : σ.is s [100, 114, 111, 112] = false) (h_insert : σ.is s [105, 110, 115, 101, 114, 116] = false) (h_delete : σ.is s [100, 101, 108, 101, 116, 101] = false) (h_update : σ.is s [117, 112, 100, 97, 116, 101] = true) :
    Calls Tryz.prog 48 #[.pointer (some ⟨b, 0, none⟩)] w (PostV b c cap len s 0 (Sp.stmt s (m + 1) σ) w IsIf fun w' v => StV w' (Sp.stm s (m + 1) σ) w.heap.size w'.heap.size v) := by
  have hbw := hp.lb
  have hcw := hp.lc
  have r0 := Sp.rem_step_le s σ
  obtain ⟨i, wd, hi, tc, PK⟩ := peek_any hp
  have HTK : Hid (σ.isLive = true → (∀ e, σ = .live e → Sp.tokCl s e ≠ .bad) → wd = bz (σ.word s)) := fun hl => (tok_live hi tc hl).2
  have HP0 : Hid (PS b c cap len s 0 σ w) := hp
  have HPK : Hid (∀ w', w' = w → Calls Tryz.prog 75 #[.pointer (some ⟨b, 0, none⟩)] w' fun r w'' => r = .returned (.agg #[.int .i64 (kn (Sp.tokCl s (pos s i))), .int .i64 (Sp.tokAt s (pos s i) : Nat), .string wd]) ∧ Below w.heap.size w w'') := fun w' e => by subst e; exact PK
  have HIA : Hid (All b c cap len s (m + 1)) := IA
  have HIB : Hid (All b c cap len s m) := IB
  have HV : Hid (Sp.stmt s (m + 1) σ = Sp.run s (m + 1) .where_ 0 (Sp.chgL s (m + 1) (m + 1) (((σ.step s).nameT s).must s [115, 101, 116]))) := by show _ = _; simp only [Sp.stmt, h_create, h_drop, h_insert, h_delete, h_update, Bool.false_eq_true, if_true, if_false]; skip
  have HVT : Hid (Sp.stm s (m + 1) σ = .update ((σ.step s).nm s) (Sp.chgTs s (m + 1) (m + 1) (((σ.step s).nameT s).must s [115, 101, 116])) (Sp.tr s (m + 1) .where_ 0 .nil (Sp.chgL s (m + 1) (m + 1) (((σ.step s).nameT s).must s [115, 101, 116])))) := by show _ = _; simp only [Sp.stm, h_create, h_drop, h_insert, h_delete, h_update, Bool.false_eq_true, if_true, if_false]
  clear hp tc hi PK IA IB
  generalize kn (Sp.tokCl s (pos s i)) = kk at *
  generalize Sp.tokAt s (pos s i) = st at *
  have hfd := tokF2
  go_enter Tryz.func48, Tryz.ntmps48
  go_wp2_with fail
  refine (HPK.out _ rfl).mono ?_
  clear HPK
  rintro r w1 ⟨rfl, hb1⟩
  have HP1 : Hid (PS b c cap len s 0 σ (w1.alloc (.cells #[.int .i64 kk, .int .i64 (st : Int), .string wd] 155))) := (HP0.out.below hb1).alloc _
  have HK1 : Hid (Kept b w (w1.alloc (.cells #[.int .i64 kk, .int .i64 (st : Int), .string wd] 155))) := (Kept.below hb1).alloc _
  have HX1 : Hid (Bk (w1.alloc (.cells #[.int .i64 kk, .int .i64 (st : Int), .string wd] 155)) w1.heap.size [.int .i64 kk, .int .i64 (st : Int), .string wd]) := Bk.new _ _ _
  have hz1 : w.heap.size ≤ w1.heap.size := hb1.size
  clear hb1 HP0
  go_wp2_with fail
  refine (accept1q HP1.out [99, 114, 101, 97, 116, 101] (by decide) _ (by simp)).mono ?_
  generalize w1.alloc (.cells #[.int .i64 kk, .int .i64 (st : Int), .string wd] 155) = w1' at *
  rintro r w2 ⟨rfl, hp2, hk2⟩
  rw [take_no h_create] at hp2
  rw [h_create]
  have HP2 : Hid (PS b c cap len s 0 σ w2) := hp2
  have HK2 : Hid (Kept b w w2) := HK1.out.trans hk2
  have HX2 : Hid (Bk w2 w1.heap.size [.int .i64 kk, .int .i64 (st : Int), .string wd]) := HX1.out.kept hk2 (by omega)
  clear hp2 hk2 HP1 HK1 HX1
  go_wp2_with fail
  refine (accept1 HP2.out [100, 114, 111, 112] (by decide)).mono ?_
  rintro r w3 ⟨rfl, hp3, hk3⟩
  rw [take_no h_drop] at hp3
  rw [h_drop]
  have HP3 : Hid (PS b c cap len s 0 σ w3) := hp3
  have HK3 : Hid (Kept b w w3) := HK2.out.trans hk3
  have HX3 : Hid (Bk w3 w1.heap.size [.int .i64 kk, .int .i64 (st : Int), .string wd]) := HX2.out.kept hk3 (by omega)
  clear hp3 hk3 HP2 HK2 HX2
  go_wp2_with fail
  refine (accept1 HP3.out [105, 110, 115, 101, 114, 116] (by decide)).mono ?_
  rintro r w4 ⟨rfl, hp4, hk4⟩
  rw [take_no h_insert] at hp4
  rw [h_insert]
  have HP4 : Hid (PS b c cap len s 0 σ w4) := hp4
  have HK4 : Hid (Kept b w w4) := HK3.out.trans hk4
  have HX4 : Hid (Bk w4 w1.heap.size [.int .i64 kk, .int .i64 (st : Int), .string wd]) := HX3.out.kept hk4 (by omega)
  clear hp4 hk4 HP3 HK3 HX3
  go_wp2_with fail
  refine (accept1 HP4.out [100, 101, 108, 101, 116, 101] (by decide)).mono ?_
  rintro r w5 ⟨rfl, hp5, hk5⟩
  rw [take_no h_delete] at hp5
  rw [h_delete]
  have HP5 : Hid (PS b c cap len s 0 σ w5) := hp5
  have HK5 : Hid (Kept b w w5) := HK4.out.trans hk5
  have HX5 : Hid (Bk w5 w1.heap.size [.int .i64 kk, .int .i64 (st : Int), .string wd]) := HX4.out.kept hk5 (by omega)
  clear hp5 hk5 HP4 HK4 HX4
  go_wp2_with fail
  refine (accept1 HP5.out [117, 112, 100, 97, 116, 101] (by decide)).mono ?_
  rintro r w6 ⟨rfl, hp6, hk6⟩
  rw [take_yes h_update] at hp6
  rw [h_update]
  have HP6 : Hid (PS b c cap len s 0 (σ.step s) w6) := hp6
  have HK6 : Hid (Kept b w w6) := HK5.out.trans hk6
  have HX6 : Hid (Bk w6 w1.heap.size [.int .i64 kk, .int .i64 (st : Int), .string wd]) := HX5.out.kept hk6 (by omega)
  clear hp6 hk6 HP5 HK5 HX5
  go_wp2_with fail
  refine (update_any HIA.out HIB.out hn (by omega) HP6.out).mono ?_
  rintro r w20 ⟨v20, rfl, hp20, hk20, ⟨q20, rfl⟩, hq20⟩
  have HP20 : Hid (PS b c cap len s 0 (Sp.stmt s (m + 1) σ) w20) := by show PS b c cap len s 0 _ w20; rw [HV.out]; exact hp20
  have HK20 : Hid (Kept b w w20) := HK6.out.trans hk20
  have hzk := HK6.out.size
  have HR20 : Hid ((Sp.stmt s (m + 1) σ).isLive = true → StV w20 (Sp.stm s (m + 1) σ) w.heap.size w20.heap.size (.iface 176 (.pointer (some ⟨q20, 0, none⟩)))) := fun hl => by rw [HV.out] at hl; rw [HVT.out]; exact ⟨_, rfl, UpV.low (hq20 hl) hzk⟩
  clear hp20 hk20 hq20 HP6 HK6 HX6
  go_wp2_with fail
  go_ret
  exact ⟨_, rfl, HP20.out, HK20.out, Or.inr ⟨_, _, rfl⟩, HR20.out⟩

end Go.Proofs.YtgnncnhkgmhngaaGreatDoor
