import Derived.Test.YtgnncnhkgmhngaaGreatDoorQ18A
namespace Go.Proofs.YtgnncnhkgmhngaaGreatDoor
open Go.RowKit
attribute [local go_sem ↓] Go.wp_at_zero Go.wp_at_succ

set_option maxHeartbeats 4000000 in
theorem atom_exi {b c cap len : Nat} {s : Sp.Bs} {n d : Nat} {σ : Sp.St} {w : World} (IH : Hid (∀ m, m ≤ n → All b c cap len s m)) (hd : d + (n + 1) ≤ 1000000) (hm : 32 * Sp.rem s σ + 2 ≤ n + 1) (hp : PS b c cap len s d σ w) (h_num : σ.isCl s .num = false) (h_txt : σ.isCl s .txt = false) (h_tru : σ.is s [116, 114, 117, 101] = false) (h_fls : σ.is s [102, 97, 108, 115, 101] = false) (h_nul : σ.is s [110, 117, 108, 108] = false) (h_nam : σ.isCl s .name = false) (h_opn : σ.is s [40] = false) (h_exi : σ.is s [101, 120, 105, 115, 116, 115] = true) :
    Calls Tryz.prog 337 #[.pointer (some ⟨b, 0, none⟩)] w (PostV b c cap len s d (Sp.run s (n + 1) .atom d σ) w IsIf fun w' v => Rp w' (Sp.tr s (n + 1) .atom d .nil σ) w.heap.size w'.heap.size v) := by
  have hbw := hp.lb
  have hcw := hp.lc
  have h1 := Sp.rem_step_lt h_exi
  have h3 := Sp.rem_opened s [40] d (σ.step s)
  have HV : Hid (Sp.run s (n + 1) .atom d σ = Sp.St.must s [41] (Sp.run s n .query (d + 1) (Sp.St.opened s [40] d (σ.step s)))) := by show _ = _; rw [Sp.run]; simp [h_num, h_txt, h_tru, h_fls, h_nul, h_nam, h_opn, h_exi]
  have HVT : Hid (Sp.tr s (n + 1) .atom d .nil σ = Sp.Nd.within (σ.word s) (σ.at_ s) .nil (Sp.tr s n .query (d + 1) .nil (Sp.St.opened s [40] d (σ.step s)))) := by show _ = _; rw [Sp.tr]; simp [h_num, h_txt, h_tru, h_fls, h_nul, h_nam, h_opn, h_exi]
  obtain ⟨i, wd, hi, tc, PK⟩ := peek_any hp
  have hk3 := kind_name hp.tk hi tc
  have HTK : Hid (σ.isLive = true → Sp.tokAt s (pos s i) = σ.at_ s ∧ ((∀ e, σ = .live e → Sp.tokCl s e ≠ .bad) → wd = bz (σ.word s))) := fun hl => tok_live hi tc hl
  have HPA : Hid (PS b c cap len s d σ w) := hp
  have HPK : Hid (∀ w', w' = w → Calls Tryz.prog 75 #[.pointer (some ⟨b, 0, none⟩)] w' fun r w'' => r = .returned (.agg #[.int .i64 (kn (Sp.tokCl s (pos s i))), .int .i64 (Sp.tokAt s (pos s i) : Nat), .string wd]) ∧ Below w.heap.size w w'') := fun w' e => by subst e; exact PK
  clear hp hi tc PK
  generalize kn (Sp.tokCl s (pos s i)) = kk at *
  generalize Sp.tokAt s (pos s i) = aa at *
  have HT : Hid (aa = σ.at_ s ∧ wd = bz (σ.word s)) := ⟨(HTK.out (Sp.live_is h_exi)).1, (HTK.out (Sp.live_is h_exi)).2 (not_bad_is h_exi)⟩
  have hmf : ∀ (fn : Fn) (first cap : Array Value) (w : World), (Instr.makeFunc fn first cap).run Tryz.prog w = .ok (.func fn first cap) w := fun _ _ _ _ => rfl
  go_enter Tryz.func337, Tryz.ntmps337
  go_wp2_with fail
  refine (HPK.out _ rfl).mono ?_
  rintro r w0 ⟨rfl, hb0⟩
  have hz0 := hb0.size
  have HP0 : Hid (PS b c cap len s d σ (w0.alloc (.cells #[.int .i64 kk, .int .i64 (aa : Int), .string wd] 155))) := (HPA.out.below hb0).alloc _
  have HK0 : Hid (Kept b w (w0.alloc (.cells #[.int .i64 kk, .int .i64 (aa : Int), .string wd] 155))) := (Kept.below hb0).alloc _
  have HX0 : Hid (Bk (w0.alloc (.cells #[.int .i64 kk, .int .i64 (aa : Int), .string wd] 155)) w0.heap.size [.int .i64 kk, .int .i64 (aa : Int), .string wd]) := Bk.new _ _ _
  clear hb0 HPK HPA
  go_wp2_with fail
  refine (acceptKind_any HP0.out .num (by decide) (by decide) _ rfl).mono ?_
  rintro r w1 ⟨rfl, hp, hk⟩
  rw [h_num] at hp
  rw [h_num]
  have HP1 : Hid (PS b c cap len s d σ w1) := hp
  have HK1 : Hid (Kept b w w1) := HK0.out.trans hk
  have HX1 : Hid (Bk w1 w0.heap.size [.int .i64 kk, .int .i64 (aa : Int), .string wd]) := HX0.out.kept hk (by omega)
  clear hp hk HP0 HK0 HX0
  go_wp2_with fail
  refine (acceptKind_any HP1.out .txt (by decide) (by decide) _ rfl).mono ?_
  rintro r w2 ⟨rfl, hp, hk⟩
  rw [h_txt] at hp
  rw [h_txt]
  have HP2 : Hid (PS b c cap len s d σ w2) := hp
  have HK2 : Hid (Kept b w w2) := HK1.out.trans hk
  have HX2 : Hid (Bk w2 w0.heap.size [.int .i64 kk, .int .i64 (aa : Int), .string wd]) := HX1.out.kept hk (by omega)
  clear hp hk HP1 HK1 HX1
  go_wp2_with fail
  refine (accept1q HP2.out [116, 114, 117, 101] (by decide) _ (by simp)).mono ?_
  rintro r w3 ⟨rfl, hp, hk⟩
  rw [take_no h_tru] at hp
  rw [h_tru]
  have HP3 : Hid (PS b c cap len s d σ w3) := hp
  have HK3 : Hid (Kept b w w3) := HK2.out.trans hk
  have HX3 : Hid (Bk w3 w0.heap.size [.int .i64 kk, .int .i64 (aa : Int), .string wd]) := HX2.out.kept hk (by omega)
  clear hp hk HP2 HK2 HX2
  go_wp2_with fail
  refine (accept1q HP3.out [102, 97, 108, 115, 101] (by decide) _ (by simp)).mono ?_
  rintro r w4 ⟨rfl, hp, hk⟩
  rw [take_no h_fls] at hp
  rw [h_fls]
  have HP4 : Hid (PS b c cap len s d σ w4) := hp
  have HK4 : Hid (Kept b w w4) := HK3.out.trans hk
  have HX4 : Hid (Bk w4 w0.heap.size [.int .i64 kk, .int .i64 (aa : Int), .string wd]) := HX3.out.kept hk (by omega)
  clear hp hk HP3 HK3 HX3
  go_wp2_with fail
  refine (accept1q HP4.out [110, 117, 108, 108] (by decide) _ (by simp)).mono ?_
  rintro r w5 ⟨rfl, hp, hk⟩
  rw [take_no h_nul] at hp
  rw [h_nul]
  have HP5 : Hid (PS b c cap len s d σ w5) := hp
  have HK5 : Hid (Kept b w w5) := HK4.out.trans hk
  have HX5 : Hid (Bk w5 w0.heap.size [.int .i64 kk, .int .i64 (aa : Int), .string wd]) := HX4.out.kept hk (by omega)
  clear hp hk HP4 HK4 HX4
  have hx := HX5.out.lt
  have x0 := HX5.out.c 0 (by simp)
  have x1 := HX5.out.c 1 (by simp)
  have x2 := HX5.out.c 2 (by simp)
  simp only [List.getElem_cons_zero, List.getElem_cons_succ] at x0 x1 x2
  rw [h_nam] at hk3
  go_wp2_with fail
  clear x0 x1 x2 hx
  refine (isQuery_no HP5.out h_opn).mono ?_
  rintro r w6 ⟨rfl, hp, hk⟩
  have HP6 : Hid (PS b c cap len s d σ w6) := hp
  have HK6 : Hid (Kept b w w6) := HK5.out.trans hk
  have HX6 : Hid (Bk w6 w0.heap.size [.int .i64 kk, .int .i64 (aa : Int), .string wd]) := HX5.out.kept hk (by omega)
  clear hp hk HP5 HK5 HX5
  go_wp2_with fail
  refine (accept1q HP6.out [101, 120, 105, 115, 116, 115] (by decide) _ (by simp)).mono ?_
  rintro r w7 ⟨rfl, hp, hk⟩
  rw [take_yes h_exi] at hp
  rw [h_exi]
  have HP7 : Hid (PS b c cap len s d (σ.step s) w7) := hp
  have HK7 : Hid (Kept b w w7) := HK6.out.trans hk
  have HX7 : Hid (Bk w7 w0.heap.size [.int .i64 kk, .int .i64 (aa : Int), .string wd]) := HX6.out.kept hk (by omega)
  clear hp hk HP6 HK6 HX6
  have hx := HX7.out.lt
  have x0 := HX7.out.c 0 (by simp)
  have x1 := HX7.out.c 1 (by simp)
  have x2 := HX7.out.c 2 (by simp)
  simp only [List.getElem_cons_zero, List.getElem_cons_succ] at x0 x1 x2
  go_wp2_with fail
  refine (within_any HP7.out (by omega) _ _ _ _ _ _ (Sp.run s n .query (d + 1) (Sp.St.opened s [40] d (σ.step s))) (Sp.tr s n .query (d + 1) .nil (Sp.St.opened s [40] d (σ.step s))) (fun w' hp' => ((IH.out n (Nat.le_refl _)).query (d + 1) _ _ (by omega) (by show 32 * Sp.rem s _ + 15 ≤ n; omega) hp').mono fun _ _ h => h.rq)).mono ?_
  rintro r w9 ⟨qv, bb, rfl, hp9, hk9, ha9, hi9, hb9, hr9⟩
  have HX : Hid (PS b c cap len s d (Sp.St.must s [41] (Sp.run s n .query (d + 1) (Sp.St.opened s [40] d (σ.step s)))) w9 ∧ Kept b w w9 ∧ At w9 bb [.string wd, .int .i64 (aa : Int), .slice none 0 0, qv] ∧ IsIf qv ∧ w.heap.size ≤ bb ∧ ((Sp.St.must s [41] (Sp.run s n .query (d + 1) (Sp.St.opened s [40] d (σ.step s)))).isLive = true → Rp w9 (Sp.tr s n .query (d + 1) .nil (Sp.St.opened s [40] d (σ.step s))) w7.heap.size bb qv)) := ⟨hp9, HK7.out.trans hk9, ha9, hi9, by have := HK7.out.size; omega, hr9⟩
  clear hp9 hk9 ha9 hi9 hb9 hr9 x0 x1 x2
  go_wp2_with fail
  go_ret
  obtain ⟨g1, g2, g3, g4, g5, g6⟩ := HX.out
  refine ⟨_, rfl, by rw [HV.out]; exact g1, g2, Or.inr ⟨_, _, rfl⟩, fun hl => ?_⟩
  rw [HV.out] at hl
  rw [HVT.out]
  obtain ⟨e1, e2⟩ := HT.out
  subst e1 e2
  exact Rp.within0 (g6 hl) g4.noSl HK7.out.size g3.1 g3

set_option maxHeartbeats 4000000 in
theorem atom_qry {b c cap len : Nat} {s : Sp.Bs} {n d : Nat} {σ : Sp.St} {w : World} (IH : Hid (∀ m, m ≤ n → All b c cap len s m)) (hd : d + (n + 1) ≤ 1000000) (hm : 32 * Sp.rem s σ + 2 ≤ n + 1) (hp : PS b c cap len s d σ w) (h_num : σ.isCl s .num = false) (h_txt : σ.isCl s .txt = false) (h_tru : σ.is s [116, 114, 117, 101] = false) (h_fls : σ.is s [102, 97, 108, 115, 101] = false) (h_nul : σ.is s [110, 117, 108, 108] = false) (h_nam : σ.isCl s .name = false) (h_opn : σ.is s [40] = true) (h_ask : σ.asks s = true) :
    Calls Tryz.prog 337 #[.pointer (some ⟨b, 0, none⟩)] w (PostV b c cap len s d (Sp.run s (n + 1) .atom d σ) w IsIf fun w' v => Rp w' (Sp.tr s (n + 1) .atom d .nil σ) w.heap.size w'.heap.size v) := by
  have hbw := hp.lb
  have hcw := hp.lc
  have h1 := Sp.rem_openT_lt (d := d) h_opn
  have HV : Hid (Sp.run s (n + 1) .atom d σ = Sp.St.must s [41] (Sp.run s n .query (d + 1) (Sp.St.openT s d σ))) := by show _ = _; rw [Sp.run]; simp [h_num, h_txt, h_tru, h_fls, h_nul, h_nam, h_opn, h_ask]
  have HVT : Hid (Sp.tr s (n + 1) .atom d .nil σ = Sp.Nd.within (σ.word s) (σ.at_ s) .nil (Sp.tr s n .query (d + 1) .nil (Sp.St.openT s d σ))) := by show _ = _; rw [Sp.tr]; simp [h_num, h_txt, h_tru, h_fls, h_nul, h_nam, h_opn, h_ask]
  rw [← opened_is h_opn] at h1 HV HVT
  obtain ⟨i, wd, hi, tc, PK⟩ := peek_any hp
  have hk3 := kind_name hp.tk hi tc
  have HTK : Hid (σ.isLive = true → Sp.tokAt s (pos s i) = σ.at_ s ∧ ((∀ e, σ = .live e → Sp.tokCl s e ≠ .bad) → wd = bz (σ.word s))) := fun hl => tok_live hi tc hl
  have HPA : Hid (PS b c cap len s d σ w) := hp
  have HPK : Hid (∀ w', w' = w → Calls Tryz.prog 75 #[.pointer (some ⟨b, 0, none⟩)] w' fun r w'' => r = .returned (.agg #[.int .i64 (kn (Sp.tokCl s (pos s i))), .int .i64 (Sp.tokAt s (pos s i) : Nat), .string wd]) ∧ Below w.heap.size w w'') := fun w' e => by subst e; exact PK
  clear hp hi tc PK
  generalize kn (Sp.tokCl s (pos s i)) = kk at *
  generalize Sp.tokAt s (pos s i) = aa at *
  have HT : Hid (aa = σ.at_ s ∧ wd = bz (σ.word s)) := ⟨(HTK.out (Sp.live_is h_opn)).1, (HTK.out (Sp.live_is h_opn)).2 (not_bad_is h_opn)⟩
  have hmf : ∀ (fn : Fn) (first cap : Array Value) (w : World), (Instr.makeFunc fn first cap).run Tryz.prog w = .ok (.func fn first cap) w := fun _ _ _ _ => rfl
  go_enter Tryz.func337, Tryz.ntmps337
  go_wp2_with fail
  refine (HPK.out _ rfl).mono ?_
  rintro r w0 ⟨rfl, hb0⟩
  have hz0 := hb0.size
  have HP0 : Hid (PS b c cap len s d σ (w0.alloc (.cells #[.int .i64 kk, .int .i64 (aa : Int), .string wd] 155))) := (HPA.out.below hb0).alloc _
  have HK0 : Hid (Kept b w (w0.alloc (.cells #[.int .i64 kk, .int .i64 (aa : Int), .string wd] 155))) := (Kept.below hb0).alloc _
  have HX0 : Hid (Bk (w0.alloc (.cells #[.int .i64 kk, .int .i64 (aa : Int), .string wd] 155)) w0.heap.size [.int .i64 kk, .int .i64 (aa : Int), .string wd]) := Bk.new _ _ _
  clear hb0 HPK HPA
  go_wp2_with fail
  refine (acceptKind_any HP0.out .num (by decide) (by decide) _ rfl).mono ?_
  rintro r w1 ⟨rfl, hp, hk⟩
  rw [h_num] at hp
  rw [h_num]
  have HP1 : Hid (PS b c cap len s d σ w1) := hp
  have HK1 : Hid (Kept b w w1) := HK0.out.trans hk
  have HX1 : Hid (Bk w1 w0.heap.size [.int .i64 kk, .int .i64 (aa : Int), .string wd]) := HX0.out.kept hk (by omega)
  clear hp hk HP0 HK0 HX0
  go_wp2_with fail
  refine (acceptKind_any HP1.out .txt (by decide) (by decide) _ rfl).mono ?_
  rintro r w2 ⟨rfl, hp, hk⟩
  rw [h_txt] at hp
  rw [h_txt]
  have HP2 : Hid (PS b c cap len s d σ w2) := hp
  have HK2 : Hid (Kept b w w2) := HK1.out.trans hk
  have HX2 : Hid (Bk w2 w0.heap.size [.int .i64 kk, .int .i64 (aa : Int), .string wd]) := HX1.out.kept hk (by omega)
  clear hp hk HP1 HK1 HX1
  go_wp2_with fail
  refine (accept1q HP2.out [116, 114, 117, 101] (by decide) _ (by simp)).mono ?_
  rintro r w3 ⟨rfl, hp, hk⟩
  rw [take_no h_tru] at hp
  rw [h_tru]
  have HP3 : Hid (PS b c cap len s d σ w3) := hp
  have HK3 : Hid (Kept b w w3) := HK2.out.trans hk
  have HX3 : Hid (Bk w3 w0.heap.size [.int .i64 kk, .int .i64 (aa : Int), .string wd]) := HX2.out.kept hk (by omega)
  clear hp hk HP2 HK2 HX2
  go_wp2_with fail
  refine (accept1q HP3.out [102, 97, 108, 115, 101] (by decide) _ (by simp)).mono ?_
  rintro r w4 ⟨rfl, hp, hk⟩
  rw [take_no h_fls] at hp
  rw [h_fls]
  have HP4 : Hid (PS b c cap len s d σ w4) := hp
  have HK4 : Hid (Kept b w w4) := HK3.out.trans hk
  have HX4 : Hid (Bk w4 w0.heap.size [.int .i64 kk, .int .i64 (aa : Int), .string wd]) := HX3.out.kept hk (by omega)
  clear hp hk HP3 HK3 HX3
  go_wp2_with fail
  refine (accept1q HP4.out [110, 117, 108, 108] (by decide) _ (by simp)).mono ?_
  rintro r w5 ⟨rfl, hp, hk⟩
  rw [take_no h_nul] at hp
  rw [h_nul]
  have HP5 : Hid (PS b c cap len s d σ w5) := hp
  have HK5 : Hid (Kept b w w5) := HK4.out.trans hk
  have HX5 : Hid (Bk w5 w0.heap.size [.int .i64 kk, .int .i64 (aa : Int), .string wd]) := HX4.out.kept hk (by omega)
  clear hp hk HP4 HK4 HX4
  have hx := HX5.out.lt
  have x0 := HX5.out.c 0 (by simp)
  have x1 := HX5.out.c 1 (by simp)
  have x2 := HX5.out.c 2 (by simp)
  simp only [List.getElem_cons_zero, List.getElem_cons_succ] at x0 x1 x2
  rw [h_nam] at hk3
  go_wp2_with fail
  clear x0 x1 x2 hx
  obtain ⟨e, rfl⟩ : ∃ e, σ = .live e := by cases σ with | live e => exact ⟨e, rfl⟩ | dead x a => cases h_opn
  refine (isQuery_open HP5.out h_opn).mono ?_
  rintro r w6 ⟨rfl, hp, hk⟩
  rw [h_ask]
  have HP6 : Hid (PS b c cap len s d (.live e) w6) := hp
  have HK6 : Hid (Kept b w w6) := HK5.out.trans hk
  have HX6 : Hid (Bk w6 w0.heap.size [.int .i64 kk, .int .i64 (aa : Int), .string wd]) := HX5.out.kept hk (by omega)
  clear hp hk HP5 HK5 HX5
  have hx := HX6.out.lt
  have x0 := HX6.out.c 0 (by simp)
  have x1 := HX6.out.c 1 (by simp)
  have x2 := HX6.out.c 2 (by simp)
  simp only [List.getElem_cons_zero, List.getElem_cons_succ] at x0 x1 x2
  go_wp2_with fail
  refine (within_any HP6.out (by omega) _ _ _ _ _ _ (Sp.run s n .query (d + 1) (Sp.St.opened s [40] d (.live e))) (Sp.tr s n .query (d + 1) .nil (Sp.St.opened s [40] d (.live e))) (fun w' hp' => ((IH.out n (Nat.le_refl _)).query (d + 1) _ _ (by omega) (by show 32 * Sp.rem s _ + 15 ≤ n; omega) hp').mono fun _ _ h => h.rq)).mono ?_
  rintro r w9 ⟨qv, bb, rfl, hp9, hk9, ha9, hi9, hb9, hr9⟩
  have HX : Hid (PS b c cap len s d (Sp.St.must s [41] (Sp.run s n .query (d + 1) (Sp.St.opened s [40] d (.live e)))) w9 ∧ Kept b w w9 ∧ At w9 bb [.string wd, .int .i64 (aa : Int), .slice none 0 0, qv] ∧ IsIf qv ∧ w.heap.size ≤ bb ∧ ((Sp.St.must s [41] (Sp.run s n .query (d + 1) (Sp.St.opened s [40] d (.live e)))).isLive = true → Rp w9 (Sp.tr s n .query (d + 1) .nil (Sp.St.opened s [40] d (.live e))) w6.heap.size bb qv)) := ⟨hp9, HK6.out.trans hk9, ha9, hi9, by have := HK6.out.size; omega, hr9⟩
  clear hp9 hk9 ha9 hi9 hb9 hr9 x0 x1 x2
  go_wp2_with fail
  go_ret
  obtain ⟨g1, g2, g3, g4, g5, g6⟩ := HX.out
  refine ⟨_, rfl, by rw [HV.out]; exact g1, g2, Or.inr ⟨_, _, rfl⟩, fun hl => ?_⟩
  rw [HV.out] at hl
  rw [HVT.out]
  obtain ⟨e1, e2⟩ := HT.out
  subst e1 e2
  exact Rp.within0 (g6 hl) g4.noSl HK6.out.size g3.1 g3

set_option maxHeartbeats 4000000 in
theorem atom_par {b c cap len : Nat} {s : Sp.Bs} {n d : Nat} {σ : Sp.St} {w : World} (IH : Hid (∀ m, m ≤ n → All b c cap len s m)) (hd : d + (n + 1) ≤ 1000000) (hm : 32 * Sp.rem s σ + 2 ≤ n + 1) (hp : PS b c cap len s d σ w) (h_num : σ.isCl s .num = false) (h_txt : σ.isCl s .txt = false) (h_tru : σ.is s [116, 114, 117, 101] = false) (h_fls : σ.is s [102, 97, 108, 115, 101] = false) (h_nul : σ.is s [110, 117, 108, 108] = false) (h_nam : σ.isCl s .name = false) (h_opn : σ.is s [40] = true) (h_ask : σ.asks s = false) (h_exi : σ.is s [101, 120, 105, 115, 116, 115] = false) :
    Calls Tryz.prog 337 #[.pointer (some ⟨b, 0, none⟩)] w (PostV b c cap len s d (Sp.run s (n + 1) .atom d σ) w IsIf fun w' v => Rp w' (Sp.tr s (n + 1) .atom d .nil σ) w.heap.size w'.heap.size v) := by
  have hbw := hp.lb
  have hcw := hp.lc
  have h1 := Sp.rem_openT_lt (d := d) h_opn
  have HV : Hid (Sp.run s (n + 1) .atom d σ = Sp.St.must s [41] (Sp.run s n .expr (d + 1) (Sp.St.openT s d σ))) := by show _ = _; rw [Sp.run]; simp [h_num, h_txt, h_tru, h_fls, h_nul, h_nam, h_opn, h_ask]
  have HVT : Hid (Sp.tr s (n + 1) .atom d .nil σ = Sp.tr s n .expr (d + 1) .nil (Sp.St.openT s d σ)) := by show _ = _; rw [Sp.tr]; simp [h_num, h_txt, h_tru, h_fls, h_nul, h_nam, h_opn, h_ask]
  rw [← opened_is h_opn] at h1 HV HVT
  obtain ⟨i, wd, hi, tc, PK⟩ := peek_any hp
  have hk3 := kind_name hp.tk hi tc
  have HTK : Hid (σ.isLive = true → Sp.tokAt s (pos s i) = σ.at_ s ∧ ((∀ e, σ = .live e → Sp.tokCl s e ≠ .bad) → wd = bz (σ.word s))) := fun hl => tok_live hi tc hl
  have HPA : Hid (PS b c cap len s d σ w) := hp
  have HPK : Hid (∀ w', w' = w → Calls Tryz.prog 75 #[.pointer (some ⟨b, 0, none⟩)] w' fun r w'' => r = .returned (.agg #[.int .i64 (kn (Sp.tokCl s (pos s i))), .int .i64 (Sp.tokAt s (pos s i) : Nat), .string wd]) ∧ Below w.heap.size w w'') := fun w' e => by subst e; exact PK
  clear hp hi tc PK
  generalize kn (Sp.tokCl s (pos s i)) = kk at *
  generalize Sp.tokAt s (pos s i) = aa at *
  have hmf : ∀ (fn : Fn) (first cap : Array Value) (w : World), (Instr.makeFunc fn first cap).run Tryz.prog w = .ok (.func fn first cap) w := fun _ _ _ _ => rfl
  go_enter Tryz.func337, Tryz.ntmps337
  go_wp2_with fail
  refine (HPK.out _ rfl).mono ?_
  rintro r w0 ⟨rfl, hb0⟩
  have hz0 := hb0.size
  have HP0 : Hid (PS b c cap len s d σ (w0.alloc (.cells #[.int .i64 kk, .int .i64 (aa : Int), .string wd] 155))) := (HPA.out.below hb0).alloc _
  have HK0 : Hid (Kept b w (w0.alloc (.cells #[.int .i64 kk, .int .i64 (aa : Int), .string wd] 155))) := (Kept.below hb0).alloc _
  have HX0 : Hid (Bk (w0.alloc (.cells #[.int .i64 kk, .int .i64 (aa : Int), .string wd] 155)) w0.heap.size [.int .i64 kk, .int .i64 (aa : Int), .string wd]) := Bk.new _ _ _
  clear hb0 HPK HPA
  go_wp2_with fail
  refine (acceptKind_any HP0.out .num (by decide) (by decide) _ rfl).mono ?_
  rintro r w1 ⟨rfl, hp, hk⟩
  rw [h_num] at hp
  rw [h_num]
  have HP1 : Hid (PS b c cap len s d σ w1) := hp
  have HK1 : Hid (Kept b w w1) := HK0.out.trans hk
  have HX1 : Hid (Bk w1 w0.heap.size [.int .i64 kk, .int .i64 (aa : Int), .string wd]) := HX0.out.kept hk (by omega)
  clear hp hk HP0 HK0 HX0
  go_wp2_with fail
  refine (acceptKind_any HP1.out .txt (by decide) (by decide) _ rfl).mono ?_
  rintro r w2 ⟨rfl, hp, hk⟩
  rw [h_txt] at hp
  rw [h_txt]
  have HP2 : Hid (PS b c cap len s d σ w2) := hp
  have HK2 : Hid (Kept b w w2) := HK1.out.trans hk
  have HX2 : Hid (Bk w2 w0.heap.size [.int .i64 kk, .int .i64 (aa : Int), .string wd]) := HX1.out.kept hk (by omega)
  clear hp hk HP1 HK1 HX1
  go_wp2_with fail
  refine (accept1q HP2.out [116, 114, 117, 101] (by decide) _ (by simp)).mono ?_
  rintro r w3 ⟨rfl, hp, hk⟩
  rw [take_no h_tru] at hp
  rw [h_tru]
  have HP3 : Hid (PS b c cap len s d σ w3) := hp
  have HK3 : Hid (Kept b w w3) := HK2.out.trans hk
  have HX3 : Hid (Bk w3 w0.heap.size [.int .i64 kk, .int .i64 (aa : Int), .string wd]) := HX2.out.kept hk (by omega)
  clear hp hk HP2 HK2 HX2
  go_wp2_with fail
  refine (accept1q HP3.out [102, 97, 108, 115, 101] (by decide) _ (by simp)).mono ?_
  rintro r w4 ⟨rfl, hp, hk⟩
  rw [take_no h_fls] at hp
  rw [h_fls]
  have HP4 : Hid (PS b c cap len s d σ w4) := hp
  have HK4 : Hid (Kept b w w4) := HK3.out.trans hk
  have HX4 : Hid (Bk w4 w0.heap.size [.int .i64 kk, .int .i64 (aa : Int), .string wd]) := HX3.out.kept hk (by omega)
  clear hp hk HP3 HK3 HX3
  go_wp2_with fail
  refine (accept1q HP4.out [110, 117, 108, 108] (by decide) _ (by simp)).mono ?_
  rintro r w5 ⟨rfl, hp, hk⟩
  rw [take_no h_nul] at hp
  rw [h_nul]
  have HP5 : Hid (PS b c cap len s d σ w5) := hp
  have HK5 : Hid (Kept b w w5) := HK4.out.trans hk
  have HX5 : Hid (Bk w5 w0.heap.size [.int .i64 kk, .int .i64 (aa : Int), .string wd]) := HX4.out.kept hk (by omega)
  clear hp hk HP4 HK4 HX4
  have hx := HX5.out.lt
  have x0 := HX5.out.c 0 (by simp)
  have x1 := HX5.out.c 1 (by simp)
  have x2 := HX5.out.c 2 (by simp)
  simp only [List.getElem_cons_zero, List.getElem_cons_succ] at x0 x1 x2
  rw [h_nam] at hk3
  go_wp2_with fail
  clear x0 x1 x2 hx
  obtain ⟨e, rfl⟩ : ∃ e, σ = .live e := by cases σ with | live e => exact ⟨e, rfl⟩ | dead x a => cases h_opn
  refine (isQuery_open HP5.out h_opn).mono ?_
  rintro r w6 ⟨rfl, hp, hk⟩
  rw [h_ask]
  have HP6 : Hid (PS b c cap len s d (.live e) w6) := hp
  have HK6 : Hid (Kept b w w6) := HK5.out.trans hk
  have HX6 : Hid (Bk w6 w0.heap.size [.int .i64 kk, .int .i64 (aa : Int), .string wd]) := HX5.out.kept hk (by omega)
  clear hp hk HP5 HK5 HX5
  go_wp2_with fail
  refine (accept1q HP6.out [101, 120, 105, 115, 116, 115] (by decide) _ (by simp)).mono ?_
  rintro r w7 ⟨rfl, hp, hk⟩
  rw [take_no h_exi] at hp
  rw [h_exi]
  have HP7 : Hid (PS b c cap len s d (.live e) w7) := hp
  have HK7 : Hid (Kept b w w7) := HK6.out.trans hk
  have HX7 : Hid (Bk w7 w0.heap.size [.int .i64 kk, .int .i64 (aa : Int), .string wd]) := HX6.out.kept hk (by omega)
  clear hp hk HP6 HK6 HX6
  go_wp2_with fail
  refine (sees1q HP7.out [40] (by decide) _ (by simp)).mono ?_
  rintro r w8 ⟨rfl, hp, hk⟩
  rw [h_opn]
  have HP8 : Hid (PS b c cap len s d (.live e) w8) := hp
  have HK8 : Hid (Kept b w w8) := HK7.out.trans hk
  have HX8 : Hid (Bk w8 w0.heap.size [.int .i64 kk, .int .i64 (aa : Int), .string wd]) := HX7.out.kept hk (by omega)
  clear hp hk HP7 HK7 HX7
  go_wp2_with fail
  refine (enclosed_expr HP8.out (by omega) (Sp.run s n .expr (d + 1) (Sp.St.opened s [40] d (.live e))) (Sp.tr s n .expr (d + 1) .nil (Sp.St.opened s [40] d (.live e))) (fun w' hp' => ((IH.out n (Nat.le_refl _)).expr (d + 1) _ _ (by omega) (by show 32 * Sp.rem s _ + 9 ≤ n; omega) hp').mono fun _ _ h => h.rq)).mono ?_
  rintro r w9 ⟨v9, rfl, hp9, hk9, hi9, hr9⟩
  have HX : Hid (PS b c cap len s d (Sp.St.must s [41] (Sp.run s n .expr (d + 1) (Sp.St.opened s [40] d (.live e)))) w9 ∧ Kept b w w9 ∧ IsIf v9 ∧ ((Sp.St.must s [41] (Sp.run s n .expr (d + 1) (Sp.St.opened s [40] d (.live e)))).isLive = true → Rp w9 (Sp.tr s n .expr (d + 1) .nil (Sp.St.opened s [40] d (.live e))) w.heap.size w9.heap.size v9)) := ⟨hp9, HK8.out.trans hk9, hi9, fun hl => Rp.wide _ _ _ _ _ _ (hr9 hl).1 HK8.out.size (Nat.le_refl _)⟩
  clear hp9 hk9 hi9 hr9
  go_wp2_with fail
  go_ret
  exact ⟨_, rfl, by rw [HV.out]; exact HX.out.1, HX.out.2.1, HX.out.2.2.1, by rw [HV.out, HVT.out]; exact HX.out.2.2.2⟩

set_option maxHeartbeats 4000000 in
theorem atom_coa {b c cap len : Nat} {s : Sp.Bs} {n d : Nat} {σ : Sp.St} {w : World} (IH : Hid (∀ m, m ≤ n → All b c cap len s m)) (hd : d + (n + 1) ≤ 1000000) (hm : 32 * Sp.rem s σ + 2 ≤ n + 1) (hp : PS b c cap len s d σ w) (h_num : σ.isCl s .num = false) (h_txt : σ.isCl s .txt = false) (h_tru : σ.is s [116, 114, 117, 101] = false) (h_fls : σ.is s [102, 97, 108, 115, 101] = false) (h_nul : σ.is s [110, 117, 108, 108] = false) (h_nam : σ.isCl s .name = false) (h_opn : σ.is s [40] = false) (h_exi : σ.is s [101, 120, 105, 115, 116, 115] = false) (h_coa : σ.is s [99, 111, 97, 108, 101, 115, 99, 101] = true) :
    Calls Tryz.prog 337 #[.pointer (some ⟨b, 0, none⟩)] w (PostV b c cap len s d (Sp.run s (n + 1) .atom d σ) w IsIf fun w' v => Rp w' (Sp.tr s (n + 1) .atom d .nil σ) w.heap.size w'.heap.size v) := by
  have hbw := hp.lb
  have hcw := hp.lc
  have h1 := Sp.rem_step_lt h_coa
  have h3 := Sp.rem_opened s [40] d (σ.step s)
  have HV : Hid (Sp.run s (n + 1) .atom d σ = Sp.St.must s [41] (Sp.run s n .list (d + 1) (Sp.St.opened s [40] d (σ.step s)))) := by show _ = _; rw [Sp.run]; simp [h_num, h_txt, h_tru, h_fls, h_nul, h_nam, h_opn, h_exi, h_coa]
  have HVT : Hid (Sp.tr s (n + 1) .atom d .nil σ = Sp.Nd.op (σ.word s) (σ.at_ s) (Sp.tr s n .list (d + 1) .nil (Sp.St.opened s [40] d (σ.step s)))) := by show _ = _; rw [Sp.tr]; simp [h_num, h_txt, h_tru, h_fls, h_nul, h_nam, h_opn, h_exi, h_coa]
  obtain ⟨i, wd, hi, tc, PK⟩ := peek_any hp
  have hk3 := kind_name hp.tk hi tc
  have HTK : Hid (σ.isLive = true → Sp.tokAt s (pos s i) = σ.at_ s ∧ ((∀ e, σ = .live e → Sp.tokCl s e ≠ .bad) → wd = bz (σ.word s))) := fun hl => tok_live hi tc hl
  have HPA : Hid (PS b c cap len s d σ w) := hp
  have HPK : Hid (∀ w', w' = w → Calls Tryz.prog 75 #[.pointer (some ⟨b, 0, none⟩)] w' fun r w'' => r = .returned (.agg #[.int .i64 (kn (Sp.tokCl s (pos s i))), .int .i64 (Sp.tokAt s (pos s i) : Nat), .string wd]) ∧ Below w.heap.size w w'') := fun w' e => by subst e; exact PK
  clear hp hi tc PK
  generalize kn (Sp.tokCl s (pos s i)) = kk at *
  generalize Sp.tokAt s (pos s i) = aa at *
  have HT : Hid (aa = σ.at_ s ∧ wd = bz (σ.word s)) := ⟨(HTK.out (Sp.live_is h_coa)).1, (HTK.out (Sp.live_is h_coa)).2 (not_bad_is h_coa)⟩
  have hmf : ∀ (fn : Fn) (first cap : Array Value) (w : World), (Instr.makeFunc fn first cap).run Tryz.prog w = .ok (.func fn first cap) w := fun _ _ _ _ => rfl
  go_enter Tryz.func337, Tryz.ntmps337
  go_wp2_with fail
  refine (HPK.out _ rfl).mono ?_
  rintro r w0 ⟨rfl, hb0⟩
  have hz0 := hb0.size
  have HP0 : Hid (PS b c cap len s d σ (w0.alloc (.cells #[.int .i64 kk, .int .i64 (aa : Int), .string wd] 155))) := (HPA.out.below hb0).alloc _
  have HK0 : Hid (Kept b w (w0.alloc (.cells #[.int .i64 kk, .int .i64 (aa : Int), .string wd] 155))) := (Kept.below hb0).alloc _
  have HX0 : Hid (Bk (w0.alloc (.cells #[.int .i64 kk, .int .i64 (aa : Int), .string wd] 155)) w0.heap.size [.int .i64 kk, .int .i64 (aa : Int), .string wd]) := Bk.new _ _ _
  clear hb0 HPK HPA
  go_wp2_with fail
  refine (acceptKind_any HP0.out .num (by decide) (by decide) _ rfl).mono ?_
  rintro r w1 ⟨rfl, hp, hk⟩
  rw [h_num] at hp
  rw [h_num]
  have HP1 : Hid (PS b c cap len s d σ w1) := hp
  have HK1 : Hid (Kept b w w1) := HK0.out.trans hk
  have HX1 : Hid (Bk w1 w0.heap.size [.int .i64 kk, .int .i64 (aa : Int), .string wd]) := HX0.out.kept hk (by omega)
  clear hp hk HP0 HK0 HX0
  go_wp2_with fail
  refine (acceptKind_any HP1.out .txt (by decide) (by decide) _ rfl).mono ?_
  rintro r w2 ⟨rfl, hp, hk⟩
  rw [h_txt] at hp
  rw [h_txt]
  have HP2 : Hid (PS b c cap len s d σ w2) := hp
  have HK2 : Hid (Kept b w w2) := HK1.out.trans hk
  have HX2 : Hid (Bk w2 w0.heap.size [.int .i64 kk, .int .i64 (aa : Int), .string wd]) := HX1.out.kept hk (by omega)
  clear hp hk HP1 HK1 HX1
  go_wp2_with fail
  refine (accept1q HP2.out [116, 114, 117, 101] (by decide) _ (by simp)).mono ?_
  rintro r w3 ⟨rfl, hp, hk⟩
  rw [take_no h_tru] at hp
  rw [h_tru]
  have HP3 : Hid (PS b c cap len s d σ w3) := hp
  have HK3 : Hid (Kept b w w3) := HK2.out.trans hk
  have HX3 : Hid (Bk w3 w0.heap.size [.int .i64 kk, .int .i64 (aa : Int), .string wd]) := HX2.out.kept hk (by omega)
  clear hp hk HP2 HK2 HX2
  go_wp2_with fail
  refine (accept1q HP3.out [102, 97, 108, 115, 101] (by decide) _ (by simp)).mono ?_
  rintro r w4 ⟨rfl, hp, hk⟩
  rw [take_no h_fls] at hp
  rw [h_fls]
  have HP4 : Hid (PS b c cap len s d σ w4) := hp
  have HK4 : Hid (Kept b w w4) := HK3.out.trans hk
  have HX4 : Hid (Bk w4 w0.heap.size [.int .i64 kk, .int .i64 (aa : Int), .string wd]) := HX3.out.kept hk (by omega)
  clear hp hk HP3 HK3 HX3
  go_wp2_with fail
  refine (accept1q HP4.out [110, 117, 108, 108] (by decide) _ (by simp)).mono ?_
  rintro r w5 ⟨rfl, hp, hk⟩
  rw [take_no h_nul] at hp
  rw [h_nul]
  have HP5 : Hid (PS b c cap len s d σ w5) := hp
  have HK5 : Hid (Kept b w w5) := HK4.out.trans hk
  have HX5 : Hid (Bk w5 w0.heap.size [.int .i64 kk, .int .i64 (aa : Int), .string wd]) := HX4.out.kept hk (by omega)
  clear hp hk HP4 HK4 HX4
  have hx := HX5.out.lt
  have x0 := HX5.out.c 0 (by simp)
  have x1 := HX5.out.c 1 (by simp)
  have x2 := HX5.out.c 2 (by simp)
  simp only [List.getElem_cons_zero, List.getElem_cons_succ] at x0 x1 x2
  rw [h_nam] at hk3
  go_wp2_with fail
  clear x0 x1 x2 hx
  refine (isQuery_no HP5.out h_opn).mono ?_
  rintro r w6 ⟨rfl, hp, hk⟩
  have HP6 : Hid (PS b c cap len s d σ w6) := hp
  have HK6 : Hid (Kept b w w6) := HK5.out.trans hk
  have HX6 : Hid (Bk w6 w0.heap.size [.int .i64 kk, .int .i64 (aa : Int), .string wd]) := HX5.out.kept hk (by omega)
  clear hp hk HP5 HK5 HX5
  go_wp2_with fail
  refine (accept1q HP6.out [101, 120, 105, 115, 116, 115] (by decide) _ (by simp)).mono ?_
  rintro r w7 ⟨rfl, hp, hk⟩
  rw [take_no h_exi] at hp
  rw [h_exi]
  have HP7 : Hid (PS b c cap len s d σ w7) := hp
  have HK7 : Hid (Kept b w w7) := HK6.out.trans hk
  have HX7 : Hid (Bk w7 w0.heap.size [.int .i64 kk, .int .i64 (aa : Int), .string wd]) := HX6.out.kept hk (by omega)
  clear hp hk HP6 HK6 HX6
  go_wp2_with fail
  refine (sees1q HP7.out [40] (by decide) _ (by simp)).mono ?_
  rintro r w8 ⟨rfl, hp, hk⟩
  rw [h_opn]
  have HP8 : Hid (PS b c cap len s d σ w8) := hp
  have HK8 : Hid (Kept b w w8) := HK7.out.trans hk
  have HX8 : Hid (Bk w8 w0.heap.size [.int .i64 kk, .int .i64 (aa : Int), .string wd]) := HX7.out.kept hk (by omega)
  clear hp hk HP7 HK7 HX7
  go_wp2_with fail
  refine (accept1q HP8.out [99, 111, 97, 108, 101, 115, 99, 101] (by decide) _ (by simp)).mono ?_
  rintro r w9 ⟨rfl, hp, hk⟩
  rw [take_yes h_coa] at hp
  rw [h_coa]
  have HP9 : Hid (PS b c cap len s d (σ.step s) w9) := hp
  have HK9 : Hid (Kept b w w9) := HK8.out.trans hk
  have HX9 : Hid (Bk w9 w0.heap.size [.int .i64 kk, .int .i64 (aa : Int), .string wd]) := HX8.out.kept hk (by omega)
  clear hp hk HP8 HK8 HX8
  have hx := HX9.out.lt
  have x0 := HX9.out.c 0 (by simp)
  have x1 := HX9.out.c 1 (by simp)
  have x2 := HX9.out.c 2 (by simp)
  simp only [List.getElem_cons_zero, List.getElem_cons_succ] at x0 x1 x2
  go_wp2_with fail
  go_region_held3 (fun w' => w'.cell? ⟨w0.heap.size, 0, none⟩ = some (.int .i64 kk) ∧ w'.cell? ⟨w0.heap.size, 1, none⟩ = some (.int .i64 (aa : Int)) ∧ w'.cell? ⟨w0.heap.size, 2, none⟩ = some (.string wd)) (first | go_keep | exact ⟨y0, y1, y2⟩) (first | (go_at_call 346; refine (enclosed_exprs HP9.out.drew (by omega) (Sp.run s n .list (d + 1) (Sp.St.opened s [40] d (σ.step s))) (Sp.tr s n .list (d + 1) .nil (Sp.St.opened s [40] d (σ.step s))) (fun w' hp' => (IH.out n (Nat.le_refl _)).list (d + 1) _ _ (by omega) (by show 32 * Sp.rem s _ + 10 ≤ n; omega) hp')).mono ?_; rintro e wz ⟨v9, rfl, hpz, hkz, ⟨sa, sn, sc, rfl⟩, hrz⟩; have hkz' : Kept b w9 wz := ((Kept.refl b w9).drew).trans hkz; have hB9 := HX9.out.kept hkz' (by omega); have hy := hB9.lt; have y0 := hB9.c 0 (by simp); have y1 := hB9.c 1 (by simp); have y2 := hB9.c 2 (by simp); simp only [List.getElem_cons_zero, List.getElem_cons_succ] at y0 y1 y2) | (go_at_call 252; refine (operation_any _ _ _ _ _ _ _).mono ?_; rintro e w10 ⟨rfl, rfl⟩))
  have HPz : Hid (PS b c cap len s d _ wz) := hpz
  have HKz : Hid (Kept b w wz) := HK9.out.trans hkz'
  have HRz : Hid (_ → Rq wz _ w9.heap.size wz.heap.size _) := hrz
  have hzz := hkz'.size
  have hzw := HK9.out.size
  clear hpz hkz hkz' hrz hB9 y0 y1 y2 x0 x1 x2
  go_wp2_with fail
  go_ret
  refine ⟨_, rfl, by rw [HV.out]; exact (HPz.out.alloc _).alloc _, (HKz.out.alloc _).alloc _, Or.inr ⟨_, _, rfl⟩, fun hl => ?_⟩
  rw [HV.out] at hl
  rw [HVT.out]
  obtain ⟨e1, e2⟩ := HT.out
  subst e1 e2
  have rz := (HRz.out hl).kept (b := b) (((Kept.refl b wz).alloc (.cells #[.int .i64 kk, .int .i64 (Sp.St.at_ s σ : Nat), .string (bz (Sp.St.word s σ))] 155)).alloc (.cells #[.string (bz (Sp.St.word s σ)), .int .i64 (Sp.St.at_ s σ : Nat), .slice sa sn sc] 379)) (by omega) (Nat.le_refl _)
  refine Rp.opL rz.1 rz.2 hzw (by omega) (by simp) ?_
  have := (Bk.new (wz.alloc (.cells #[.int .i64 kk, .int .i64 (Sp.St.at_ s σ : Nat), .string (bz (Sp.St.word s σ))] 155)) #[.string (bz (Sp.St.word s σ)), .int .i64 (Sp.St.at_ s σ : Nat), .slice sa sn sc] 379).at_
  simpa using this

end Go.Proofs.YtgnncnhkgmhngaaGreatDoor
