import Derived.Test.YtgnncnhkgmhngaaGreatDoorQ31
namespace Go.Proofs.YtgnncnhkgmhngaaGreatDoor
open Go.RowKit

/-- A create in memory. -/
def CrV (w : World) (nm : Sp.Nm) (ns : List (Sp.Nm × Int)) (lo hi : Nat) (v : Value) : Prop :=
  ∃ q sl, v = .pointer (some ⟨q, 0, none⟩) ∧ lo ≤ q ∧ q < hi ∧ At w q [.string (bz nm.1), .int .i64 (nm.2 : Nat), sl] ∧ ClV w ns lo hi sl
def IsP0 (v : Value) : Prop := ∃ q, v = .pointer (some ⟨q, 0, none⟩)
def crT (s : Sp.Bs) (m : Nat) (σ : Sp.St) : Sp.St := (Sp.colL s (m + 1) 0 (((σ.must s [116, 97, 98, 108, 101]).nameT s).must s [40])).must s [41]

theorem ClV.wide {w : World} {ns : List (Sp.Nm × Int)} {lo hi lo' hi' : Nat} {v : Value} (h : ClV w ns lo hi v) (h1 : lo' ≤ lo) (h2 : hi ≤ hi') : ClV w ns lo' hi' v := by
  obtain ⟨g, kc, e, e1, e2, e3⟩ := h
  exact ⟨g, kc, e, by omega, by omega, e3⟩
theorem live_colL {s : Sp.Bs} : ∀ {m k : Nat} {σ : Sp.St}, (Sp.colL s m k σ).isLive = true → σ.isLive = true
  | 0, _, _, h => h
  | m + 1, k, σ, h => by
    rw [col_eq] at h
    have g : (coT s k σ).isLive = true := by
      unfold ncT at h
      split at h
      · exact Sp.live_step (live_colL h)
      · exact h
    have g2 := Sp.live_nameT (live_ctT g)
    unfold coS at g2
    split at g2
    · exact (Sp.live_fail g2).elim
    · exact g2

set_option maxHeartbeats 4000000 in
theorem create_any {b c cap len : Nat} {s : Sp.Bs} {m : Nat} {σ : Sp.St} {w : World} (hmn : m ≤ 900000) (hmm : 32 * Sp.rem s σ ≤ m + 1) (hp : PS b c cap len s 0 σ w) :
    Calls Tryz.prog 77 #[.pointer (some ⟨b, 0, none⟩)] w (PostV b c cap len s 0 (crT s m σ) w IsP0 fun w' v => CrV w' ((σ.must s [116, 97, 98, 108, 101]).nm s) (Sp.colTs s (m + 1) 0 (((σ.must s [116, 97, 98, 108, 101]).nameT s).must s [40])) w.heap.size w'.heap.size v) := by
  have hbw := hp.lb
  have hcw := hp.lc
  have hr1 := Sp.rem_must s [116, 97, 98, 108, 101] σ
  have hr2 := Sp.rem_nameT s (σ.must s [116, 97, 98, 108, 101])
  have hr3 := Sp.rem_must s [40] ((σ.must s [116, 97, 98, 108, 101]).nameT s)
  have HP : Hid (PS b c cap len s 0 σ (w.alloc (.cells #[.pointer (some ⟨b, 0, none⟩)] 157))) := hp.alloc _
  have HK : Hid (Kept b w (w.alloc (.cells #[.pointer (some ⟨b, 0, none⟩)] 157))) := (Kept.refl b w).alloc _
  have HY : Hid (Bk (w.alloc (.cells #[.pointer (some ⟨b, 0, none⟩)] 157)) w.heap.size [.pointer (some ⟨b, 0, none⟩)]) := Bk.new _ _ _
  clear hp
  go_enter Tryz.func77, Tryz.ntmps77
  go_wp2_with fail
  refine (expectq HP.out [116, 97, 98, 108, 101] (by decide) _ (by simp)).mono ?_
  generalize w.alloc (.cells #[.pointer (some ⟨b, 0, none⟩)] 157) = w0 at *
  rintro r w1 ⟨rfl, hp1, hk1⟩
  have HP1 : Hid (PS b c cap len s 0 (σ.must s [116, 97, 98, 108, 101]) w1) := hp1
  have HK1 : Hid (Kept b w w1) := HK.out.trans hk1
  have hY1 := HY.out.kept hk1 (by omega)
  have HY1 : Hid (Bk w1 w.heap.size [.pointer (some ⟨b, 0, none⟩)]) := hY1
  have y1 := hY1.c 0 (by simp)
  simp only [List.getElem_cons_zero] at y1
  clear hp1 hk1 hY1 HP HK HY
  go_wp2_with fail
  refine (name_any HP1.out).mono ?_
  rintro r w2 ⟨v2, rfl, hp2, hk2, ⟨wd2, a2, rfl⟩, hq2⟩
  have HP2 : Hid (PS b c cap len s 0 ((σ.must s [116, 97, 98, 108, 101]).nameT s) (w2.alloc (.cells #[.string wd2, .int .i64 a2] 165))) := hp2.alloc _
  have HK2 : Hid (Kept b w (w2.alloc (.cells #[.string wd2, .int .i64 a2] 165))) := (HK1.out.trans hk2).alloc _
  have HY2 : Hid (Bk (w2.alloc (.cells #[.string wd2, .int .i64 a2] 165)) w.heap.size [.pointer (some ⟨b, 0, none⟩)]) := (HY1.out.kept hk2 (by omega)).alloc _
  have HX2 : Hid (Bk (w2.alloc (.cells #[.string wd2, .int .i64 a2] 165)) w2.heap.size [.string wd2, .int .i64 a2]) := Bk.new _ _ _
  have HR2 : Hid (((σ.must s [116, 97, 98, 108, 101]).nameT s).isLive = true → wd2 = bz ((σ.must s [116, 97, 98, 108, 101]).nm s).1 ∧ a2 = (((σ.must s [116, 97, 98, 108, 101]).nm s).2 : Nat)) := fun hl => agg2n (hq2 hl)
  have hY2 := (HY1.out.kept hk2 (by omega))
  have y2 := hY2.c 0 (by simp)
  simp only [List.getElem_cons_zero] at y2
  have hz2 : w.heap.size < w2.heap.size := hY2.lt
  clear hp2 hk2 hq2 hY2 HP1 HK1 HY1 y1
  go_wp2_with fail
  refine (expectq HP2.out [40] (by decide) _ (by simp)).mono ?_
  generalize w2.alloc (.cells #[.string wd2, .int .i64 a2] 165) = w2' at *
  rintro r w3 ⟨rfl, hp3, hk3⟩
  have HX3 : Hid (Bk w3 w2.heap.size [.string wd2, .int .i64 a2]) := HX2.out.kept hk3 (by omega)
  have HY3 : Hid (Bk w3 w.heap.size [.pointer (some ⟨b, 0, none⟩)]) := HY2.out.kept hk3 (by omega)
  have hx3 := HX3.out.lt
  have HP3 : Hid (PS b c cap len s 0 (((σ.must s [116, 97, 98, 108, 101]).nameT s).must s [40]) (w3.alloc (.cells #[.int .i64 0] 3))) := hp3.alloc _
  have HK3 : Hid (Kept b w (w3.alloc (.cells #[.int .i64 0] 3))) := (HK2.out.trans hk3).alloc _
  have HQ3 : Hid (Bk (w3.alloc (.cells #[.int .i64 0] 3)) w3.heap.size [.int .i64 (0 : Int)]) := Bk.new _ _ _
  have HY3' : Hid (Bk (w3.alloc (.cells #[.int .i64 0] 3)) w.heap.size [.pointer (some ⟨b, 0, none⟩)]) := HY3.out.alloc _
  have HX3' : Hid (Bk (w3.alloc (.cells #[.int .i64 0] 3)) w2.heap.size [.string wd2, .int .i64 a2]) := HX3.out.alloc _
  have y3 := HY3'.out.c 0 (by simp)
  simp only [List.getElem_cons_zero] at y3
  clear hp3 hk3 HP2 HK2 HY2 HX2 y2
  go_wp2_with fail
  refine (listCol_any hmn (by omega) HP3.out HQ3.out HY3'.out (by omega) (by omega) (by omega) (by omega)).mono ?_
  generalize hw3 : w3.alloc (.cells #[.int .i64 0] 3) = w3' at *
  have hz3 : w3.heap.size + 1 = w3'.heap.size := by rw [← hw3]; simp
  clear hw3
  rintro r w4 ⟨v4, rfl, hp4, hk4, ⟨sa, sn, sc, rfl⟩, hq4⟩
  have HP4 : Hid (PS b c cap len s 0 (Sp.colL s (m + 1) 0 (((σ.must s [116, 97, 98, 108, 101]).nameT s).must s [40])) w4) := hp4
  have HK4 : Hid (Kept2 b w3.heap.size w w4) := (Kept2.of HK3.out).trans hk4
  have HX4 : Hid (Bk w4 w2.heap.size [.string wd2, .int .i64 a2]) := HX3'.out.kept2 hk4 (by omega) (by omega)
  have HY4 : Hid (Bk w4 w.heap.size [.pointer (some ⟨b, 0, none⟩)]) := HY3'.out.kept2 hk4 (by omega) (by omega)
  have HR4 : Hid ((Sp.colL s (m + 1) 0 (((σ.must s [116, 97, 98, 108, 101]).nameT s).must s [40])).isLive = true → ClV w4 (Sp.colTs s (m + 1) 0 (((σ.must s [116, 97, 98, 108, 101]).nameT s).must s [40])) w3'.heap.size w4.heap.size (.slice sa sn sc)) := hq4
  have hz4 := hk4.size
  have y4 := HY4.out.c 0 (by simp)
  simp only [List.getElem_cons_zero] at y4
  clear hp4 hk4 hq4 HP3 HK3 HQ3 HY3 HX3 HY3' HX3' y3
  go_wp2_with fail
  refine (expect_any HP4.out [41] (by decide)).mono ?_
  rintro r w5 ⟨rfl, hp5, hk5⟩
  have HP5 : Hid (PS b c cap len s 0 (crT s m σ) w5) := hp5
  have HK5 : Hid (Kept b w4 w5) := hk5
  have hX5 := HX4.out.kept hk5 (by omega)
  have x0 := hX5.c 0 (by simp)
  have x1 := hX5.c 1 (by simp)
  have hz5 := hk5.size
  simp only [List.getElem_cons_zero, List.getElem_cons_succ] at x0 x1
  clear hp5 hk5 hX5 HP4 HX4 HY4 y4
  go_wp2_with fail
  go_ret
  refine ⟨_, rfl, HP5.out.alloc _, ((HK4.out.trans (Kept2.of HK5.out)).fresh (by omega)).alloc _, ⟨_, rfl⟩, fun hl => ?_⟩
  have hl4 := Sp.live_must hl
  obtain ⟨e0, e1⟩ := HR2.out (Sp.live_must (live_colL hl4))
  refine ⟨_, .slice sa sn sc, rfl, by omega, by simp, ?_, ?_⟩
  · rw [← e0, ← e1]
    exact (Bk.new w5 #[.string wd2, .int .i64 a2, .slice sa sn sc] _).at_
  · have q := (HR4.out hl4).frame (w' := w5.alloc (.cells #[.string wd2, .int .i64 a2, .slice sa sn sc] 231)) fun k h1 h2 => (Below.heap_alloc _ _ _ (by omega)).trans (HK5.out.block k (by omega) (by omega))
    exact q.wide (by omega) (by simp; omega)

end Go.Proofs.YtgnncnhkgmhngaaGreatDoor

namespace Go.Proofs.YtgnncnhkgmhngaaGreatDoor
open Go.RowKit

/-- An insert in memory: rows, or a query. -/
def InV (w : World) (a : Nat) (nm : Sp.Nm) (ns : List (Nat × Sp.Nd)) (lo hi : Nat) (v : Value) : Prop :=
  ∃ q sl, v = .pointer (some ⟨q, 0, none⟩) ∧ lo ≤ q ∧ q < hi ∧ At w q [.int .i64 (a : Nat), .string (bz nm.1), .int .i64 (nm.2 : Nat), sl, .nilIface] ∧ LsV RowP w ns (q + 1) hi sl
def InQ (w : World) (a : Nat) (nm : Sp.Nm) (nd : Sp.Nd) (lo hi : Nat) (v : Value) : Prop :=
  ∃ q y, v = .pointer (some ⟨q, 0, none⟩) ∧ lo ≤ q ∧ q < hi ∧ At w q [.int .i64 (a : Nat), .string (bz nm.1), .int .i64 (nm.2 : Nat), .slice none 0 0, y] ∧ IsIf y ∧ Rp w nd (q + 1) hi y
theorem LsV.frame {α : Type} {P : World → α → List Value → Nat → Nat → Prop} {w w' : World} (hP : ∀ n x m1 m2, P w n x m1 m2 → (∀ k, m1 ≤ k → k < m2 → w'.heap[k]? = w.heap[k]?) → P w' n x m1 m2) {ns : List α} {lo hi : Nat} {v : Value} (h : LsV P w ns lo hi v) (hk : ∀ k, lo ≤ k → k < hi → w'.heap[k]? = w.heap[k]?) : LsV P w' ns lo hi v := by
  obtain ⟨g, kc, xs, h1, e, a1, a2, a3, a4, a5⟩ := h
  exact ⟨g, kc, xs, h1, e, a1, a2, a3, a4.frame hP fun k p1 p2 _ => hk k p1 (by omega), fun j u hj => (World.cell?_of_block (w := w) (a := ⟨g, j, none⟩) (hk g a1 a2)).trans (a5 j u hj)⟩
theorem LsR.low {α : Type} {P : World → α → List Value → Nat → Nat → Prop} {w : World} {g : Nat} : ∀ {ns : List α} {xs : List (List Value)} {lo hi lo' : Nat}, LsR P w g ns xs lo hi → lo' ≤ lo → LsR P w g ns xs lo' hi
  | [], [], lo, hi, lo', h, h1 => by have : lo ≤ hi := h; show lo' ≤ hi; omega
  | _ :: _, _ :: _, lo, hi, lo', h, h1 => by
    obtain ⟨m1, m2, hS, p, r⟩ := h
    exact ⟨m1, m2, by unfold Sub at *; omega, p, r⟩
  | [], _ :: _, _, _, _, h, _ => h.elim
  | _ :: _, [], _, _, _, h, _ => h.elim
theorem LsV.wide {α : Type} {P : World → α → List Value → Nat → Nat → Prop} {w : World} {ns : List α} {lo hi lo' hi' : Nat} {v : Value} (h : LsV P w ns lo hi v) (h1 : lo' ≤ lo) (h2 : hi ≤ hi') : LsV P w ns lo' hi' v := by
  obtain ⟨g, kc, xs, t, e, a1, a2, a3, a4, a5⟩ := h
  exact ⟨g, kc, xs, t, e, by omega, by omega, by omega, a4.low h1, a5⟩

theorem live_rowL {s : Sp.Bs} {n : Nat} : ∀ {m : Nat} {σ : Sp.St}, (Sp.rowL s n m σ).isLive = true → σ.isLive = true
  | 0, _, h => h
  | m + 1, σ, h => by
    rw [Row_eq] at h
    have g : (Sp.rowT s n σ).isLive = true := by
      unfold rlT at h
      split at h
      · exact Sp.live_step (live_rowL h)
      · exact h
    exact Sp.live_must (Sp.live_run (Sp.live_must g))

set_option maxHeartbeats 4000000 in
theorem insertV_any {b c cap len : Nat} {s : Sp.Bs} {m : Nat} {σ : Sp.St} {w : World} (IA : All b c cap len s (m + 1)) (hn : m + 1 ≤ 900000) (hm : 32 * Sp.rem s σ + 31 ≤ m + 1) (hp : PS b c cap len s 0 σ w) (hv : Sp.St.is s [118, 97, 108, 117, 101, 115] ((σ.must s [105, 110, 116, 111]).nameT s) = true) :
    Calls Tryz.prog 80 #[.pointer (some ⟨b, 0, none⟩)] w (PostV b c cap len s 0 (Sp.rowL s (m + 1) (m + 1) (Sp.St.step s ((σ.must s [105, 110, 116, 111]).nameT s))) w IsP0 fun w' v => InV w' (σ.at_ s) (Sp.St.nm s (σ.must s [105, 110, 116, 111])) (Sp.rowTs s (m + 1) (m + 1) (Sp.St.step s ((σ.must s [105, 110, 116, 111]).nameT s))) w.heap.size w'.heap.size v) := by
  have hbw := hp.lb
  have hcw := hp.lc
  have r1 := Sp.rem_must s [105, 110, 116, 111] σ
  have r2 := Sp.rem_nameT s (σ.must s [105, 110, 116, 111])
  have r3 := Sp.rem_step_le s ((σ.must s [105, 110, 116, 111]).nameT s)
  obtain ⟨i, wd, hi, tc, PK⟩ := peek_any hp
  have HTK : Hid (σ.isLive = true → Sp.tokAt s (pos s i) = σ.at_ s) := fun hl => (tok_live hi tc hl).1
  have HP0 : Hid (PS b c cap len s 0 σ w) := hp
  have HPK : Hid (∀ w', w' = w → Calls Tryz.prog 75 #[.pointer (some ⟨b, 0, none⟩)] w' fun r w'' => r = .returned (.agg #[.int .i64 (kn (Sp.tokCl s (pos s i))), .int .i64 (Sp.tokAt s (pos s i) : Nat), .string wd]) ∧ Below w.heap.size w w'') := fun w' e => by subst e; exact PK
  have HIA : Hid (All b c cap len s (m + 1)) := IA
  clear hp tc hi PK IA
  generalize kn (Sp.tokCl s (pos s i)) = kk at *
  generalize Sp.tokAt s (pos s i) = st at *
  have hfd := tokF1
  have hmf : ∀ (fn : Fn) (first cap : Array Value) (w : World), (Instr.makeFunc fn first cap).run Tryz.prog w = .ok (.func fn first cap) w := fun _ _ _ _ => rfl
  go_enter Tryz.func80, Tryz.ntmps80
  go_wp2_with fail
  refine (HPK.out _ rfl).mono ?_
  clear HPK
  rintro r w1 ⟨rfl, hb1⟩
  have HP1 : Hid (PS b c cap len s 0 σ (w1.alloc (.cells #[.int .i64 (st : Int), .string ⟨#[]⟩, .int .i64 0, .slice none 0 0, .nilIface] 235))) := (HP0.out.below hb1).alloc _
  have HK1 : Hid (Kept b w (w1.alloc (.cells #[.int .i64 (st : Int), .string ⟨#[]⟩, .int .i64 0, .slice none 0 0, .nilIface] 235))) := (Kept.below hb1).alloc _
  have HX1 : Hid (Bk (w1.alloc (.cells #[.int .i64 (st : Int), .string ⟨#[]⟩, .int .i64 0, .slice none 0 0, .nilIface] 235)) w1.heap.size [.int .i64 (st : Int), .string ⟨#[]⟩, .int .i64 0, .slice none 0 0, .nilIface]) := Bk.new _ _ _
  have hz1 : w.heap.size ≤ w1.heap.size := hb1.size
  clear hb1 HP0
  go_wp2_with fail
  refine (expectq HP1.out [105, 110, 116, 111] (by decide) _ (by simp)).mono ?_
  generalize w1.alloc (.cells #[.int .i64 (st : Int), .string ⟨#[]⟩, .int .i64 0, .slice none 0 0, .nilIface] 235) = w1' at *
  rintro r w2 ⟨rfl, hp2, hk2⟩
  have HP2 : Hid (PS b c cap len s 0 (σ.must s [105, 110, 116, 111]) w2) := hp2
  have HK2 : Hid (Kept b w w2) := HK1.out.trans hk2
  have HX2 : Hid (Bk w2 w1.heap.size [.int .i64 (st : Int), .string ⟨#[]⟩, .int .i64 0, .slice none 0 0, .nilIface]) := HX1.out.kept hk2 (by omega)
  clear hp2 hk2 HP1 HK1 HX1
  go_wp2_with fail
  refine (name_any HP2.out).mono ?_
  rintro r w4 ⟨v4, rfl, hp4, hk4, ⟨wd4, a4, rfl⟩, hq4⟩
  have hX4 := HX2.out.kept hk4 (by omega)
  have HP4 : Hid (PS b c cap len s 0 ((σ.must s [105, 110, 116, 111]).nameT s) ((w4.setCell ⟨w1.heap.size, 1, none⟩ (.string wd4)).setCell ⟨w1.heap.size, 2, none⟩ (.int .i64 a4))) := (hp4.put w1.heap.size 1 (by omega) (by omega) _).put w1.heap.size 2 (by omega) (by omega) _
  have HK4 : Hid (Kept b w ((w4.setCell ⟨w1.heap.size, 1, none⟩ (.string wd4)).setCell ⟨w1.heap.size, 2, none⟩ (.int .i64 a4))) := ((HK2.out.trans hk4).setNew (by simpa using hz1) _).setNew (by simpa using hz1) _
  have HX4 : Hid (Bk ((w4.setCell ⟨w1.heap.size, 1, none⟩ (.string wd4)).setCell ⟨w1.heap.size, 2, none⟩ (.int .i64 a4)) w1.heap.size [.int .i64 (st : Int), .string wd4, .int .i64 a4, .slice none 0 0, .nilIface]) := (hX4.put 1 (by simp) _).put 2 (by simp) _
  have HR4 : Hid (Sp.St.isLive ((σ.must s [105, 110, 116, 111]).nameT s) = true → wd4 = bz (Sp.St.nm s (σ.must s [105, 110, 116, 111])).1 ∧ a4 = ((Sp.St.nm s (σ.must s [105, 110, 116, 111])).2 : Nat)) := fun hl => agg2n (hq4 hl)
  have c1 := hX4.c 1 (by simp)
  have c2 := hX4.c 2 (by simp)
  have f1 := hX4.f 1
  have f2 := hX4.f 2
  simp only [List.getElem_cons_zero, List.getElem_cons_succ] at c1 c2
  clear hp4 hk4 hq4 hX4 HP2 HK2 HX2
  go_wp2_with fail
  refine (accept1q HP4.out [118, 97, 108, 117, 101, 115] (by decide) _ (by simp)).mono ?_
  generalize hw4 : (w4.setCell ⟨w1.heap.size, 1, none⟩ (.string wd4)).setCell ⟨w1.heap.size, 2, none⟩ (.int .i64 a4) = w4' at *
  clear hw4 c1 c2 f1 f2
  rintro r w5 ⟨rfl, hp5, hk5⟩
  rw [take_yes hv] at hp5
  rw [hv]
  have HP5 : Hid (PS b c cap len s 0 (Sp.St.step s ((σ.must s [105, 110, 116, 111]).nameT s)) w5) := hp5
  have HK5 : Hid (Kept b w w5) := HK4.out.trans hk5
  have HX5 : Hid (Bk w5 w1.heap.size [.int .i64 (st : Int), .string wd4, .int .i64 a4, .slice none 0 0, .nilIface]) := HX4.out.kept hk5 (by omega)
  have hz5 : w1.heap.size < w5.heap.size := HX5.out.lt
  clear hp5 hk5 HP4 HK4 HX4
  go_wp2_with fail
  refine (listRow_any (m := m) HIA.out hn (by omega) (by omega) (by omega) HP5.out).mono ?_
  rintro r w6 ⟨v6, rfl, hp6, hk6, ⟨sa, sn, sc, rfl⟩, hq6⟩
  have hX6 := HX5.out.kept hk6 (by omega)
  have c3 := hX6.c 3 (by simp)
  have f3 := hX6.f 3
  simp only [List.getElem_cons_zero, List.getElem_cons_succ] at c3
  have HP6 : Hid (PS b c cap len s 0 (Sp.rowL s (m + 1) (m + 1) (Sp.St.step s ((σ.must s [105, 110, 116, 111]).nameT s))) w6) := hp6
  have HK6 : Hid (Kept b w w6) := HK5.out.trans hk6
  have HX6 : Hid (Bk (w6.setCell ⟨w1.heap.size, 3, none⟩ (.slice sa sn sc)) w1.heap.size [.int .i64 (st : Int), .string wd4, .int .i64 a4, .slice sa sn sc, .nilIface]) := hX6.put 3 (by simp) _
  have HR6 : Hid ((Sp.rowL s (m + 1) (m + 1) (Sp.St.step s ((σ.must s [105, 110, 116, 111]).nameT s))).isLive = true → LsV RowP w6 (Sp.rowTs s (m + 1) (m + 1) (Sp.St.step s ((σ.must s [105, 110, 116, 111]).nameT s))) w5.heap.size w6.heap.size (.slice sa sn sc)) := hq6
  have hz6 := hk6.size
  clear hp6 hk6 hq6 hX6 HP5 HX5 HK5
  go_wp2_with fail
  go_ret
  refine ⟨_, rfl, HP6.out.put w1.heap.size 3 (by omega) (by omega) _, HK6.out.setNew (by simpa using hz1) _, ⟨_, rfl⟩, fun hl => ?_⟩
  have hl1 : Sp.St.isLive ((σ.must s [105, 110, 116, 111]).nameT s) = true := Sp.live_step (live_rowL hl)
  obtain ⟨e0, e1⟩ := HR4.out hl1
  have e2 := HTK.out (Sp.live_must (Sp.live_nameT hl1))
  refine ⟨_, (.slice sa sn sc), rfl, by omega, by simp [World.setCell]; omega, ?_, ?_⟩
  · rw [← e0, ← e1, ← e2]
    exact HX6.out.at_
  · exact ((HR6.out hl).frame (w' := w6.setCell ⟨w1.heap.size, 3, none⟩ (.slice sa sn sc)) (fun n x m1 m2 hp hk => RowP.frame (by simp [World.setCell]) n x m1 m2 hp hk) fun k h1 h2 => Below.heap_setCell _ _ _ _ (by simp; omega)).wide (by omega) (by simp [World.setCell])

set_option maxHeartbeats 4000000 in
theorem insertQ_any {b c cap len : Nat} {s : Sp.Bs} {m : Nat} {σ : Sp.St} {w : World} (IA : All b c cap len s (m + 1)) (hn : m + 1 ≤ 900000) (hm : 32 * Sp.rem s σ + 31 ≤ m + 1) (hp : PS b c cap len s 0 σ w) (hv : Sp.St.is s [118, 97, 108, 117, 101, 115] ((σ.must s [105, 110, 116, 111]).nameT s) = false) :
    Calls Tryz.prog 80 #[.pointer (some ⟨b, 0, none⟩)] w (PostV b c cap len s 0 (Sp.run s (m + 1) .query 0 ((σ.must s [105, 110, 116, 111]).nameT s)) w IsP0 fun w' v => InQ w' (σ.at_ s) (Sp.St.nm s (σ.must s [105, 110, 116, 111])) (Sp.tr s (m + 1) .query 0 .nil ((σ.must s [105, 110, 116, 111]).nameT s)) w.heap.size w'.heap.size v) := by
  have hbw := hp.lb
  have hcw := hp.lc
  have r1 := Sp.rem_must s [105, 110, 116, 111] σ
  have r2 := Sp.rem_nameT s (σ.must s [105, 110, 116, 111])
  have r3 := Sp.rem_step_le s ((σ.must s [105, 110, 116, 111]).nameT s)
  obtain ⟨i, wd, hi, tc, PK⟩ := peek_any hp
  have HTK : Hid (σ.isLive = true → Sp.tokAt s (pos s i) = σ.at_ s) := fun hl => (tok_live hi tc hl).1
  have HP0 : Hid (PS b c cap len s 0 σ w) := hp
  have HPK : Hid (∀ w', w' = w → Calls Tryz.prog 75 #[.pointer (some ⟨b, 0, none⟩)] w' fun r w'' => r = .returned (.agg #[.int .i64 (kn (Sp.tokCl s (pos s i))), .int .i64 (Sp.tokAt s (pos s i) : Nat), .string wd]) ∧ Below w.heap.size w w'') := fun w' e => by subst e; exact PK
  have HIA : Hid (All b c cap len s (m + 1)) := IA
  clear hp tc hi PK IA
  generalize kn (Sp.tokCl s (pos s i)) = kk at *
  generalize Sp.tokAt s (pos s i) = st at *
  have hfd := tokF1
  have hmf : ∀ (fn : Fn) (first cap : Array Value) (w : World), (Instr.makeFunc fn first cap).run Tryz.prog w = .ok (.func fn first cap) w := fun _ _ _ _ => rfl
  go_enter Tryz.func80, Tryz.ntmps80
  go_wp2_with fail
  refine (HPK.out _ rfl).mono ?_
  clear HPK
  rintro r w1 ⟨rfl, hb1⟩
  have HP1 : Hid (PS b c cap len s 0 σ (w1.alloc (.cells #[.int .i64 (st : Int), .string ⟨#[]⟩, .int .i64 0, .slice none 0 0, .nilIface] 235))) := (HP0.out.below hb1).alloc _
  have HK1 : Hid (Kept b w (w1.alloc (.cells #[.int .i64 (st : Int), .string ⟨#[]⟩, .int .i64 0, .slice none 0 0, .nilIface] 235))) := (Kept.below hb1).alloc _
  have HX1 : Hid (Bk (w1.alloc (.cells #[.int .i64 (st : Int), .string ⟨#[]⟩, .int .i64 0, .slice none 0 0, .nilIface] 235)) w1.heap.size [.int .i64 (st : Int), .string ⟨#[]⟩, .int .i64 0, .slice none 0 0, .nilIface]) := Bk.new _ _ _
  have hz1 : w.heap.size ≤ w1.heap.size := hb1.size
  clear hb1 HP0
  go_wp2_with fail
  refine (expectq HP1.out [105, 110, 116, 111] (by decide) _ (by simp)).mono ?_
  generalize w1.alloc (.cells #[.int .i64 (st : Int), .string ⟨#[]⟩, .int .i64 0, .slice none 0 0, .nilIface] 235) = w1' at *
  rintro r w2 ⟨rfl, hp2, hk2⟩
  have HP2 : Hid (PS b c cap len s 0 (σ.must s [105, 110, 116, 111]) w2) := hp2
  have HK2 : Hid (Kept b w w2) := HK1.out.trans hk2
  have HX2 : Hid (Bk w2 w1.heap.size [.int .i64 (st : Int), .string ⟨#[]⟩, .int .i64 0, .slice none 0 0, .nilIface]) := HX1.out.kept hk2 (by omega)
  clear hp2 hk2 HP1 HK1 HX1
  go_wp2_with fail
  refine (name_any HP2.out).mono ?_
  rintro r w4 ⟨v4, rfl, hp4, hk4, ⟨wd4, a4, rfl⟩, hq4⟩
  have hX4 := HX2.out.kept hk4 (by omega)
  have HP4 : Hid (PS b c cap len s 0 ((σ.must s [105, 110, 116, 111]).nameT s) ((w4.setCell ⟨w1.heap.size, 1, none⟩ (.string wd4)).setCell ⟨w1.heap.size, 2, none⟩ (.int .i64 a4))) := (hp4.put w1.heap.size 1 (by omega) (by omega) _).put w1.heap.size 2 (by omega) (by omega) _
  have HK4 : Hid (Kept b w ((w4.setCell ⟨w1.heap.size, 1, none⟩ (.string wd4)).setCell ⟨w1.heap.size, 2, none⟩ (.int .i64 a4))) := ((HK2.out.trans hk4).setNew (by simpa using hz1) _).setNew (by simpa using hz1) _
  have HX4 : Hid (Bk ((w4.setCell ⟨w1.heap.size, 1, none⟩ (.string wd4)).setCell ⟨w1.heap.size, 2, none⟩ (.int .i64 a4)) w1.heap.size [.int .i64 (st : Int), .string wd4, .int .i64 a4, .slice none 0 0, .nilIface]) := (hX4.put 1 (by simp) _).put 2 (by simp) _
  have HR4 : Hid (Sp.St.isLive ((σ.must s [105, 110, 116, 111]).nameT s) = true → wd4 = bz (Sp.St.nm s (σ.must s [105, 110, 116, 111])).1 ∧ a4 = ((Sp.St.nm s (σ.must s [105, 110, 116, 111])).2 : Nat)) := fun hl => agg2n (hq4 hl)
  have c1 := hX4.c 1 (by simp)
  have c2 := hX4.c 2 (by simp)
  have f1 := hX4.f 1
  have f2 := hX4.f 2
  simp only [List.getElem_cons_zero, List.getElem_cons_succ] at c1 c2
  clear hp4 hk4 hq4 hX4 HP2 HK2 HX2
  go_wp2_with fail
  refine (accept1q HP4.out [118, 97, 108, 117, 101, 115] (by decide) _ (by simp)).mono ?_
  generalize hw4 : (w4.setCell ⟨w1.heap.size, 1, none⟩ (.string wd4)).setCell ⟨w1.heap.size, 2, none⟩ (.int .i64 a4) = w4' at *
  clear hw4 c1 c2 f1 f2
  rintro r w5 ⟨rfl, hp5, hk5⟩
  rw [take_no hv] at hp5
  rw [hv]
  have HP5 : Hid (PS b c cap len s 0 ((σ.must s [105, 110, 116, 111]).nameT s) w5) := hp5
  have HK5 : Hid (Kept b w w5) := HK4.out.trans hk5
  have HX5 : Hid (Bk w5 w1.heap.size [.int .i64 (st : Int), .string wd4, .int .i64 a4, .slice none 0 0, .nilIface]) := HX4.out.kept hk5 (by omega)
  have hz5 : w1.heap.size < w5.heap.size := HX5.out.lt
  clear hp5 hk5 HP4 HK4 HX4
  go_wp2_with fail
  refine (HIA.out.query 0 _ _ (by omega) (Nat.le_trans (Nat.add_le_add_left (by decide : Sp.lev .query ≤ 31) _) (by omega)) HP5.out).mono ?_
  rintro r w6 ⟨y6, rfl, hp6, hk6, hy6, hq6⟩
  have hX6 := HX5.out.kept hk6 (by omega)
  have c3 := hX6.c 4 (by simp)
  have f3 := hX6.f 4
  simp only [List.getElem_cons_zero, List.getElem_cons_succ] at c3
  have HP6 : Hid (PS b c cap len s 0 (Sp.run s (m + 1) .query 0 ((σ.must s [105, 110, 116, 111]).nameT s)) w6) := hp6
  have HK6 : Hid (Kept b w w6) := HK5.out.trans hk6
  have HX6 : Hid (Bk (w6.setCell ⟨w1.heap.size, 4, none⟩ y6) w1.heap.size [.int .i64 (st : Int), .string wd4, .int .i64 a4, .slice none 0 0, y6]) := hX6.put 4 (by simp) _
  have HR6 : Hid ((Sp.run s (m + 1) .query 0 ((σ.must s [105, 110, 116, 111]).nameT s)).isLive = true → Rp w6 (Sp.tr s (m + 1) .query 0 .nil ((σ.must s [105, 110, 116, 111]).nameT s)) w5.heap.size w6.heap.size y6) := hq6
  have hz6 := hk6.size
  have HI6 : Hid (IsIf y6) := hy6
  have hv6 := hy6.st
  have hc6 := hy6.cells
  have ho6 := hy6.one
  unfold Value.cells at hc6
  clear hy6
  clear hp6 hk6 hq6 hX6 HP5 HX5 HK5
  go_wp2_with fail
  go_ret
  refine ⟨_, rfl, HP6.out.put w1.heap.size 4 (by omega) (by omega) _, HK6.out.setNew (by simpa using hz1) _, ⟨_, rfl⟩, fun hl => ?_⟩
  have hl1 : Sp.St.isLive ((σ.must s [105, 110, 116, 111]).nameT s) = true := Sp.live_run hl
  obtain ⟨e0, e1⟩ := HR4.out hl1
  have e2 := HTK.out (Sp.live_must (Sp.live_nameT hl1))
  refine ⟨_, y6, rfl, by omega, by simp [World.setCell]; omega, ?_, HI6.out, ?_⟩
  · rw [← e0, ← e1, ← e2]
    exact HX6.out.at_
  · exact Rp.wide _ _ _ _ _ _ ((HR6.out hl).frame (w' := w6.setCell ⟨w1.heap.size, 4, none⟩ y6) (by simp [World.setCell]) _ _ _ _ (fun k h1 h2 => Below.heap_setCell _ _ _ _ (by simp; omega)) (fun blk off n c ee => (HI6.out.noSl _ _ _ ee).elim)) (by omega) (by simp [World.setCell])

end Go.Proofs.YtgnncnhkgmhngaaGreatDoor

namespace Go.Proofs.YtgnncnhkgmhngaaGreatDoor
open Go.RowKit

theorem live_chgL {s : Sp.Bs} {n : Nat} : ∀ {m : Nat} {σ : Sp.St}, (Sp.chgL s n m σ).isLive = true → σ.isLive = true
  | 0, _, h => h
  | m + 1, σ, h => by
    rw [Set_eq] at h
    have g : (Sp.chgT s n σ).isLive = true := by
      unfold clLT at h
      split at h
      · exact Sp.live_step (live_chgL h)
      · exact h
    exact Sp.live_nameT (Sp.live_must (Sp.live_run g))

theorem live_clT {s : Sp.Bs} {n d : Nat} {z : Sp.Bs} {σ : Sp.St} (h : (clT s n d z σ).isLive = true) : σ.isLive = true := by
  unfold clT at h
  split at h
  · exact Sp.live_step (Sp.live_run h)
  · exact h
/-- An update in memory. -/
def UpV (w : World) (nm : Sp.Nm) (ns : List (Sp.Nm × Nat × Sp.Nd)) (wh : Sp.Nd) (lo hi : Nat) (v : Value) : Prop :=
  ∃ q sl pv mid, v = .pointer (some ⟨q, 0, none⟩) ∧ lo ≤ mid ∧ mid ≤ q ∧ q < hi ∧ At w q [.string (bz nm.1), .int .i64 (nm.2 : Nat), sl, pv] ∧ LsV SetP w ns lo mid sl ∧ IsPt pv ∧ Rp w wh mid q pv
theorem rem_chgL (s : Sp.Bs) (n : Nat) : ∀ (m : Nat) (σ : Sp.St), Sp.rem s (Sp.chgL s n m σ) ≤ Sp.rem s σ
  | 0, _ => Nat.le_refl _
  | m + 1, σ => by
    rw [Set_eq]
    have h1 := rem_Set s n σ
    unfold clLT
    split
    · exact Nat.le_trans (rem_chgL s n m _) (Nat.le_trans (Sp.rem_step_le _ _) h1)
    · exact h1

set_option maxHeartbeats 4000000 in
theorem update_any {b c cap len : Nat} {s : Sp.Bs} {m : Nat} {σ : Sp.St} {w : World} (IA : All b c cap len s (m + 1)) (IB : All b c cap len s m) (hn : m + 1 ≤ 900000) (hm : 32 * Sp.rem s σ + 31 ≤ m + 1) (hp : PS b c cap len s 0 σ w) :
    Calls Tryz.prog 82 #[.pointer (some ⟨b, 0, none⟩)] w (PostV b c cap len s 0 (Sp.run s (m + 1) .where_ 0 (Sp.chgL s (m + 1) (m + 1) ((σ.nameT s).must s [115, 101, 116]))) w IsP0 fun w' v => UpV w' (σ.nm s) (Sp.chgTs s (m + 1) (m + 1) ((σ.nameT s).must s [115, 101, 116])) (Sp.tr s (m + 1) .where_ 0 .nil (Sp.chgL s (m + 1) (m + 1) ((σ.nameT s).must s [115, 101, 116]))) w.heap.size w'.heap.size v) := by
  have hbw := hp.lb
  have hcw := hp.lc
  have r1 := Sp.rem_nameT s σ
  have r2 := Sp.rem_must s [115, 101, 116] (σ.nameT s)
  have HP0 : Hid (PS b c cap len s 0 σ w) := hp
  have r3 := rem_chgL s (m + 1) (m + 1) ((σ.nameT s).must s [115, 101, 116])
  have HV : Hid (Sp.run s (m + 1) .where_ 0 (Sp.chgL s (m + 1) (m + 1) ((σ.nameT s).must s [115, 101, 116])) = clT s m 0 [119, 104, 101, 114, 101] (Sp.chgL s (m + 1) (m + 1) ((σ.nameT s).must s [115, 101, 116]))) := where_eq s m 0 _
  have HVT : Hid (Sp.tr s (m + 1) .where_ 0 .nil (Sp.chgL s (m + 1) (m + 1) ((σ.nameT s).must s [115, 101, 116])) = clN s m 0 [119, 104, 101, 114, 101] (Sp.chgL s (m + 1) (m + 1) ((σ.nameT s).must s [115, 101, 116]))) := whereN_eq s m 0 _
  have HIA : Hid (All b c cap len s (m + 1)) := IA
  have HIB : Hid (All b c cap len s m) := IB
  have hmf : ∀ (fn : Fn) (first cap : Array Value) (w : World), (Instr.makeFunc fn first cap).run Tryz.prog w = .ok (.func fn first cap) w := fun _ _ _ _ => rfl
  clear hp IA IB
  go_enter Tryz.func82, Tryz.ntmps82
  go_wp2_with fail
  refine (name_any HP0.out).mono ?_
  rintro r w1 ⟨v1, rfl, hp1, hk1, ⟨wd1, a1, rfl⟩, hq1⟩
  have HP1 : Hid (PS b c cap len s 0 (σ.nameT s) (w1.alloc (.cells #[.string wd1, .int .i64 a1] 165))) := hp1.alloc _
  have HK1 : Hid (Kept b w (w1.alloc (.cells #[.string wd1, .int .i64 a1] 165))) := hk1.alloc _
  have HX1 : Hid (Bk (w1.alloc (.cells #[.string wd1, .int .i64 a1] 165)) w1.heap.size [.string wd1, .int .i64 a1]) := Bk.new _ _ _
  have HR1 : Hid ((σ.nameT s).isLive = true → wd1 = bz (σ.nm s).1 ∧ a1 = ((σ.nm s).2 : Nat)) := fun hl => agg2n (hq1 hl)
  have hz1 := hk1.size
  clear hp1 hk1 hq1 HP0
  go_wp2_with fail
  refine (expectq HP1.out [115, 101, 116] (by decide) _ (by simp)).mono ?_
  generalize w1.alloc (.cells #[.string wd1, .int .i64 a1] 165) = w1' at *
  rintro r w2 ⟨rfl, hp2, hk2⟩
  have HP2 : Hid (PS b c cap len s 0 ((σ.nameT s).must s [115, 101, 116]) w2) := hp2
  have HK2 : Hid (Kept b w w2) := HK1.out.trans hk2
  have HX2 : Hid (Bk w2 w1.heap.size [.string wd1, .int .i64 a1]) := HX1.out.kept hk2 (by omega)
  clear hp2 hk2 HP1 HK1 HX1
  go_wp2_with fail
  have x0 := HX2.out.c 0 (by simp)
  have x1 := HX2.out.c 1 (by simp)
  have hx2 := HX2.out.lt
  simp only [List.getElem_cons_zero, List.getElem_cons_succ] at x0 x1
  go_region_held3 (fun w' => w'.cell? ⟨w1.heap.size, 0, none⟩ = some (.string wd1) ∧ w'.cell? ⟨w1.heap.size, 1, none⟩ = some (.int .i64 a1)) (first | exact ⟨x0, x1⟩ | exact ⟨x30, x31⟩ | exact ⟨x40, x41⟩ | exact ⟨(hX4.alloc _).c 0 (by simp), (hX4.alloc _).c 1 (by simp)⟩ | (constructor <;> go_simp)) (first | (go_at_call 130; refine (listSet_any (m := m) HIA.out hn (by omega) (by omega) (by omega) HP2.out.drew).mono ?_; rintro e w3 ⟨v3, rfl, hp3, hk3, ⟨sa, sn, sc, rfl⟩, hr3⟩; have hk3' : Kept b w2 w3 := ((Kept.refl b w2).drew).trans hk3; have hX3 := HX2.out.kept hk3' (by omega); have x30 := hX3.c 0 (by simp); have x31 := hX3.c 1 (by simp); simp only [List.getElem_cons_zero, List.getElem_cons_succ] at x30 x31) | (go_at_call 81; refine (clauseIfAny_any (n := m) hp3 [119, 104, 101, 114, 101] (by decide) (fun hw w' hp' => HIB.out.expr 0 _ _ (by omega) (by have := Sp.rem_step_lt hw; show 32 * Sp.rem s _ + 9 ≤ m; omega) hp')).mono ?_; rintro e w4 ⟨v4, rfl, hp4, hk4, ⟨pa, rfl⟩, hr4⟩; have hX4 := hX3.kept hk4 (by omega); have x40 := hX4.c 0 (by simp); have x41 := hX4.c 1 (by simp); simp only [List.getElem_cons_zero, List.getElem_cons_succ] at x40 x41))
  have HP4 : Hid (PS b c cap len s 0 (clT s m 0 [119, 104, 101, 114, 101] (Sp.chgL s (m + 1) (m + 1) ((σ.nameT s).must s [115, 101, 116]))) w4) := hp4
  have HK3 : Hid (Kept b w w3) := HK2.out.trans hk3'
  have HK4 : Hid (Kept b w3 w4) := hk4
  have HR3 : Hid ((Sp.chgL s (m + 1) (m + 1) ((σ.nameT s).must s [115, 101, 116])).isLive = true → LsV SetP w3 (Sp.chgTs s (m + 1) (m + 1) ((σ.nameT s).must s [115, 101, 116])) w2.heap.size w3.heap.size (.slice sa sn sc)) := hr3
  have HR4 : Hid ((clT s m 0 [119, 104, 101, 114, 101] (Sp.chgL s (m + 1) (m + 1) ((σ.nameT s).must s [115, 101, 116]))).isLive = true → Rp w4 (clN s m 0 [119, 104, 101, 114, 101] (Sp.chgL s (m + 1) (m + 1) ((σ.nameT s).must s [115, 101, 116]))) w3.heap.size w4.heap.size (.pointer pa)) := hr4
  have hz2 := HK2.out.size
  have hz3 := hk3'.size
  have hz4 := hk4.size
  clear hp3 hk3 hk3' hr3 hX3 hp4 hk4 hr4 hX4 x0 x1 x30 x31 x40 x41 HP2 HX2 HK2
  go_wp2_with fail
  go_ret
  refine ⟨_, rfl, by rw [HV.out]; exact HP4.out.alloc _, (HK3.out.trans HK4.out).alloc _, ⟨_, rfl⟩, fun hl => ?_⟩
  rw [HV.out] at hl
  have hl3 : (Sp.chgL s (m + 1) (m + 1) ((σ.nameT s).must s [115, 101, 116])).isLive = true := live_clT hl
  obtain ⟨e0, e1⟩ := HR1.out (Sp.live_must (live_chgL hl3))
  refine ⟨_, .slice sa sn sc, .pointer pa, w3.heap.size, rfl, by omega, by omega, by simp, ?_, ?_, ⟨_, rfl⟩, ?_⟩
  · rw [← e0, ← e1]
    exact (Bk.new w4 #[.string wd1, .int .i64 a1, .slice sa sn sc, .pointer pa] _).at_
  · exact ((HR3.out hl3).frame (w' := w4.alloc (.cells #[.string wd1, .int .i64 a1, .slice sa sn sc, .pointer pa] 252)) (fun n x m1 m2 hp hk => SetP.frame (by simp; omega) n x m1 m2 hp hk) fun k h1 h2 => (Below.heap_alloc _ _ _ (by omega)).trans (HK4.out.block k (by omega) (by omega))).wide (by omega) (Nat.le_refl _)
  · rw [HVT.out]
    exact (HR4.out hl).frame (by simp) _ _ _ _ (fun k h1 h2 => Below.heap_alloc _ _ _ h2) (fun blk off n c ee => by cases ee)

end Go.Proofs.YtgnncnhkgmhngaaGreatDoor
