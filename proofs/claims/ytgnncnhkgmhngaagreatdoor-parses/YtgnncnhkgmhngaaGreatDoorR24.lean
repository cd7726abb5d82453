import Derived.Test.YtgnncnhkgmhngaaGreatDoorR21
namespace Go.Proofs.YtgnncnhkgmhngaaGreatDoor
open Go.RowKit

theorem RS.tok {b : Nat} {s : ByteArray} {d k : Nat} {c : Ct} {σ : Sp.St} {w : World} (h : RS b s d k c σ w) : ∃ (kd ts : ByteArray) (ta tn : Int), w.cell? ⟨b, 1, none⟩ = some (.string kd) ∧ w.cell? ⟨b, 2, none⟩ = some (.int .i64 ta) ∧ w.cell? ⟨b, 3, none⟩ = some (.string ts) ∧ w.cell? ⟨b, 4, none⟩ = some (.int .i64 tn) ∧ (∀ z, σ.is s.data.toList z = (decide (kd.toList = [107, 101, 121]) && (ts.toList == z))) ∧ ∀ cl, cl ≠ .bad → (kd.toList == kname cl) = σ.isCl s.data.toList cl := by
  obtain ⟨_, x, hc, _, ht⟩ := h
  exact ⟨_, _, _, _, hc.c1, hc.c2, hc.c3, hc.c4, fun z => rt_key ht z, fun cl hcl => (rt_cl ht cl hcl).symm⟩

theorem cl_other {s : Sp.Bs} {σ : Sp.St} {x y : Sp.Cl} (h : σ.isCl s x = true) (hne : x ≠ y) : σ.isCl s y = false := by
  cases σ with
  | live e =>
    simp only [Sp.St.isCl, beq_iff_eq] at h
    simp only [Sp.St.isCl, h]
    revert hne
    cases x <;> cases y <;> simp <;> decide
  | dead a b => rfl
theorem cl_live {s : Sp.Bs} {σ : Sp.St} {x : Sp.Cl} (h : σ.isCl s x = true) : ∃ e, σ = .live e := by
  cases σ with
  | live e => exact ⟨e, rfl⟩
  | dead a b => simp [Sp.St.isCl] at h

set_option maxHeartbeats 2000000 in
theorem rkeyed_all {b : Nat} {s : ByteArray} {n d k e : Nat} {c : Ct} {w : World} (kd ts : ByteArray) (ta tn : Int) (IH : Hid (∀ m, m ≤ n → RAll b s m)) (hd : d + (n + 1) ≤ 1000000) (hm : 32 * Sp.rem s.data.toList (.live e) + 2 ≤ n + 1) (HP : Hid (RS b s d k c (.live e) w)) (hw : ∀ z, (Sp.St.live e).is s.data.toList z = (ts.toList == z)) (hk : (Sp.St.live e).isCl s.data.toList .key = true) :
    Calls Tryz.prog 332 #[.pointer (some ⟨b, 0, none⟩), .agg #[.string kd, .int .i64 ta, .slice none 0 0, .int .i64 (-1), .string ts, .string ⟨#[]⟩, .int .i64 tn, .slice none 0 0, .slice none 0 0]] w (RI b s d k c (Sp.run s.data.toList (n + 1) .atom d (.live e)) w) := by
  have IA : Hid (RAll b s n) := IH.out n (Nat.le_refl _)
  have n1 := cl_other hk (y := .num) (by decide)
  have n2 := cl_other hk (y := .txt) (by decide)
  have n3 := cl_other hk (y := .name) (by decide)
  by_cases z0 : ts.toList = [116, 114, 117, 101]
  · have hs : (Sp.St.live e).is s.data.toList [116, 114, 117, 101] = true := by rw [hw, z0]; rfl
    have HV : Sp.run s.data.toList (n + 1) .atom d (.live e) = (Sp.St.live e).step s.data.toList := by
      rw [Sp.run]
      simp [n1, n2, hs]
    rw [HV]
    exact rkeyed_true kd ts ta tn HP z0 hs
  have y0 : (ts.toList == [116, 114, 117, 101]) = false := by simpa using z0
  have f0 : (Sp.St.live e).is s.data.toList [116, 114, 117, 101] = false := (hw _).trans y0
  by_cases z1 : ts.toList = [102, 97, 108, 115, 101]
  · have hs : (Sp.St.live e).is s.data.toList [102, 97, 108, 115, 101] = true := by rw [hw, z1]; rfl
    have HV : Sp.run s.data.toList (n + 1) .atom d (.live e) = (Sp.St.live e).step s.data.toList := by
      rw [Sp.run]
      simp [n1, n2, f0, hs]
    rw [HV]
    exact rkeyed_false kd ts ta tn HP z1 hs
  have y1 : (ts.toList == [102, 97, 108, 115, 101]) = false := by simpa using z1
  have f1 : (Sp.St.live e).is s.data.toList [102, 97, 108, 115, 101] = false := (hw _).trans y1
  by_cases z2 : ts.toList = [110, 117, 108, 108]
  · have hs : (Sp.St.live e).is s.data.toList [110, 117, 108, 108] = true := by rw [hw, z2]; rfl
    have HV : Sp.run s.data.toList (n + 1) .atom d (.live e) = (Sp.St.live e).step s.data.toList := by
      rw [Sp.run]
      simp [n1, n2, f0, f1, hs]
    rw [HV]
    exact rkeyed_null kd ts ta tn HP z2 hs
  have y2 : (ts.toList == [110, 117, 108, 108]) = false := by simpa using z2
  have f2 : (Sp.St.live e).is s.data.toList [110, 117, 108, 108] = false := (hw _).trans y2
  by_cases z3 : ts.toList = [40]
  · have hs : (Sp.St.live e).is s.data.toList [40] = true := by rw [hw, z3]; rfl
    cases ha : Sp.St.asks s.data.toList (.live e)
    · skip
      have HV : Sp.run s.data.toList (n + 1) .atom d (.live e) = (Sp.run s.data.toList n .expr (d + 1) ((Sp.St.live e).openT s.data.toList d)).must s.data.toList [41] := by
        rw [Sp.run]
        simp [n1, n2, n3, f0, f1, f2, hs, ha]
      rw [HV]
      exact rkeyed_paren kd ts ta tn IA hd hm HP z3 hs ha
    · skip
      have HV : Sp.run s.data.toList (n + 1) .atom d (.live e) = (Sp.run s.data.toList n .query (d + 1) ((Sp.St.live e).openT s.data.toList d)).must s.data.toList [41] := by
        rw [Sp.run]
        simp [n1, n2, n3, f0, f1, f2, hs, ha]
      rw [HV]
      exact rkeyed_ask kd ts ta tn IA hd hm HP z3 hs ha
  have y3 : (ts.toList == [40]) = false := by simpa using z3
  have f3 : (Sp.St.live e).is s.data.toList [40] = false := (hw _).trans y3
  by_cases z4 : ts.toList = [101, 120, 105, 115, 116, 115]
  · have hs : (Sp.St.live e).is s.data.toList [101, 120, 105, 115, 116, 115] = true := by rw [hw, z4]; rfl
    have HV : Sp.run s.data.toList (n + 1) .atom d (.live e) = (Sp.run s.data.toList n .query (d + 1) (((Sp.St.live e).step s.data.toList).opened s.data.toList [40] d)).must s.data.toList [41] := by
      rw [Sp.run]
      simp [n1, n2, n3, f0, f1, f2, f3, hs]
    rw [HV]
    exact rkeyed_exists kd ts ta tn IA hd hm HP z4 hs
  have y4 : (ts.toList == [101, 120, 105, 115, 116, 115]) = false := by simpa using z4
  have f4 : (Sp.St.live e).is s.data.toList [101, 120, 105, 115, 116, 115] = false := (hw _).trans y4
  by_cases z5 : ts.toList = [99, 111, 97, 108, 101, 115, 99, 101]
  · have hs : (Sp.St.live e).is s.data.toList [99, 111, 97, 108, 101, 115, 99, 101] = true := by rw [hw, z5]; rfl
    have HV : Sp.run s.data.toList (n + 1) .atom d (.live e) = (Sp.run s.data.toList n .list (d + 1) (((Sp.St.live e).step s.data.toList).opened s.data.toList [40] d)).must s.data.toList [41] := by
      rw [Sp.run]
      simp [n1, n2, n3, f0, f1, f2, f3, f4, hs]
    rw [HV]
    exact rkeyed_coalesce kd ts ta tn IA hd hm HP z5 hs
  have y5 : (ts.toList == [99, 111, 97, 108, 101, 115, 99, 101]) = false := by simpa using z5
  have f5 : (Sp.St.live e).is s.data.toList [99, 111, 97, 108, 101, 115, 99, 101] = false := (hw _).trans y5
  by_cases z6 : ts.toList = [99, 97, 115, 101]
  · have hs : (Sp.St.live e).is s.data.toList [99, 97, 115, 101] = true := by rw [hw, z6]; rfl
    have HV : Sp.run s.data.toList (n + 1) .atom d (.live e) = (Sp.run s.data.toList n .caseW (d + 1) ((Sp.St.live e).openT s.data.toList d)).must s.data.toList [101, 110, 100] := by
      rw [Sp.run]
      simp [n1, n2, n3, f0, f1, f2, f3, f4, f5, hs]
    rw [HV]
    exact rkeyed_case kd ts ta tn IH hd hm HP z6 hs
  have y6 : (ts.toList == [99, 97, 115, 101]) = false := by simpa using z6
  have f6 : (Sp.St.live e).is s.data.toList [99, 97, 115, 101] = false := (hw _).trans y6
  have HV : Sp.run s.data.toList (n + 1) .atom d (.live e) = (Sp.St.live e).fail s.data.toList 2 := by
    rw [Sp.run]
    simp [n1, n2, n3, f0, f1, f2, f3, f4, f5, f6]
  rw [HV]
  exact rkeyed_other kd ts ta tn HP y0 y1 y2 y3 y4 y5 y6

set_option maxRecDepth 100000 in
set_option maxHeartbeats 8000000 in
theorem ratom_step {b : Nat} {s : ByteArray} {n : Nat} (IH : Hid (∀ m, m ≤ n → RAll b s m)) : Rd b s (n + 1) .atom 326 := by
  intro d k c σ w hd hm hp
  have hm' : 32 * Sp.rem s.data.toList σ + 2 ≤ n + 1 := hm
  clear hm
  have HP : Hid (RS b s d k c σ w) := hp
  have lb := hp.lb
  obtain ⟨kd, ts, ta, tn, c1, c2, c3, c4, hw, hcl⟩ := hp.tok
  clear hp
  have HX : Hid (FX b w w.heap.size [.string kd, .int .i64 ta, .slice none 0 0, .int .i64 (-1), .string ts, .string ⟨#[]⟩, .int .i64 tn, .slice none 0 0, .slice none 0 0] [] ((w.alloc (.cells #[.string kd, .int .i64 ta, .slice none 0 0, .int .i64 (-1), .string ts, .string ⟨#[]⟩, .int .i64 tn, .slice none 0 0, .slice none 0 0] 294)).drew)) := (FX.new HP.out _ _ _ (by simp)).drew
  have HQ : Hid (RS b s d k c σ ((w.alloc (.cells #[.string kd, .int .i64 ta, .slice none 0 0, .int .i64 (-1), .string ts, .string ⟨#[]⟩, .int .i64 tn, .slice none 0 0, .slice none 0 0] 294)).drew)) := (HP.out.alloc _).drew
  have HK0 : Hid (RK b w ((w.alloc (.cells #[.string kd, .int .i64 ta, .slice none 0 0, .int .i64 (-1), .string ts, .string ⟨#[]⟩, .int .i64 tn, .slice none 0 0, .slice none 0 0] 294)).drew)) := ((RK.refl b w).alloc lb _).drew
  by_cases x0 : σ.isCl s.data.toList .num = true
  · skip
    have g0 : (kd.toList == [110, 117, 109, 98, 101, 114]) = true := (hcl .num (by decide)).trans x0
    have HV : Hid (Sp.run s.data.toList (n + 1) .atom d σ = σ.step s.data.toList) := by
      show _ = _; rw [Sp.run]; simp [x0]
    clear hw hcl
    go_enter Tryz.func326, Tryz.ntmps326
    go_wp2_with fail
    go_region
    go_wp2_with fail
    refine (rstep_cl HQ.out x0 (by decide) (by decide)).mono ?_
    rintro r w1 ⟨rfl, hp1, hk1⟩
    have HP1 : Hid (RS b s d (k + 1) c (σ.step s.data.toList) w1) := hp1
    have HX1 : Hid (FX b w w.heap.size [.string kd, .int .i64 ta, .slice none 0 0, .int .i64 (-1), .string ts, .string ⟨#[]⟩, .int .i64 tn, .slice none 0 0, .slice none 0 0] [] w1) := HX.out.keep hk1
    clear hp1 hk1
    have q0 := HX1.out.lq.cl 0 _ rfl
    have q1 := HX1.out.lq.cl 1 _ rfl
    have q2 := HX1.out.lq.cl 2 _ rfl
    have q3 := HX1.out.lq.cl 3 _ rfl
    have q4 := HX1.out.lq.cl 4 _ rfl
    have q5 := HX1.out.lq.cl 5 _ rfl
    have q6 := HX1.out.lq.cl 6 _ rfl
    have q7 := HX1.out.lq.cl 7 _ rfl
    have q8 := HX1.out.lq.cl 8 _ rfl
    go_wp2_with fail
    refine (rnode_any HP1.out _ _ _ _ _ _ _ _ _ (one9 _ _ _ _ _ _ _ _ _ rfl rfl rfl)).mono ?_
    rintro r wn ⟨qn, rfl, hpn, hkn⟩
    have HPn : Hid (RS b s d k c (σ.step s.data.toList) wn) := hpn
    have HKn : Hid (RK b w wn) := HX1.out.rk.trans hkn
    clear hpn hkn q0 q1 q2 q3 q4 q5 q6 q7 q8
    go_wp2_with fail
    go_ret
    exact ⟨_, rfl, by rw [HV.out]; exact HPn.out, HKn.out⟩
  have n0 : σ.isCl s.data.toList .num = false := by simpa using x0
  by_cases x1 : σ.isCl s.data.toList .txt = true
  · skip
    have g0 : (kd.toList == [110, 117, 109, 98, 101, 114]) = false := (hcl .num (by decide)).trans n0
    have g1 : (kd.toList == [116, 101, 120, 116]) = true := (hcl .txt (by decide)).trans x1
    have HV : Hid (Sp.run s.data.toList (n + 1) .atom d σ = σ.step s.data.toList) := by
      show _ = _; rw [Sp.run]; simp [n0, x1]
    clear hw hcl
    go_enter Tryz.func326, Tryz.ntmps326
    go_wp2_with fail
    go_region
    go_wp2_with fail
    refine (rstep_cl HQ.out x1 (by decide) (by decide)).mono ?_
    rintro r w1 ⟨rfl, hp1, hk1⟩
    have HP1 : Hid (RS b s d (k + 1) c (σ.step s.data.toList) w1) := hp1
    have HX1 : Hid (FX b w w.heap.size [.string kd, .int .i64 ta, .slice none 0 0, .int .i64 (-1), .string ts, .string ⟨#[]⟩, .int .i64 tn, .slice none 0 0, .slice none 0 0] [] w1) := HX.out.keep hk1
    clear hp1 hk1
    have q0 := HX1.out.lq.cl 0 _ rfl
    have q1 := HX1.out.lq.cl 1 _ rfl
    have q2 := HX1.out.lq.cl 2 _ rfl
    have q3 := HX1.out.lq.cl 3 _ rfl
    have q4 := HX1.out.lq.cl 4 _ rfl
    have q5 := HX1.out.lq.cl 5 _ rfl
    have q6 := HX1.out.lq.cl 6 _ rfl
    have q7 := HX1.out.lq.cl 7 _ rfl
    have q8 := HX1.out.lq.cl 8 _ rfl
    go_wp2_with fail
    refine (rnode_any HP1.out _ _ _ _ _ _ _ _ _ (one9 _ _ _ _ _ _ _ _ _ rfl rfl rfl)).mono ?_
    rintro r wn ⟨qn, rfl, hpn, hkn⟩
    have HPn : Hid (RS b s d k c (σ.step s.data.toList) wn) := hpn
    have HKn : Hid (RK b w wn) := HX1.out.rk.trans hkn
    clear hpn hkn q0 q1 q2 q3 q4 q5 q6 q7 q8
    go_wp2_with fail
    go_ret
    exact ⟨_, rfl, by rw [HV.out]; exact HPn.out, HKn.out⟩
  have n1 : σ.isCl s.data.toList .txt = false := by simpa using x1
  by_cases x2 : σ.isCl s.data.toList .name = true
  · skip
    have g0 : (kd.toList == [110, 117, 109, 98, 101, 114]) = false := (hcl .num (by decide)).trans n0
    have g1 : (kd.toList == [116, 101, 120, 116]) = false := (hcl .txt (by decide)).trans n1
    have g2 : (kd.toList == [110, 97, 109, 101]) = true := (hcl .name (by decide)).trans x2
    have hnk : ¬ kd.toList = [107, 101, 121] := by have := (hcl .key (by decide)).trans (cl_other x2 (y := .key) (by decide)); simpa [kname] using this
    have hno : ∀ z, σ.is s.data.toList z = false := fun z => by rw [hw, decide_eq_false hnk]; rfl
    by_cases hdot : (σ.step s.data.toList).is s.data.toList [46] = true
    · skip
      have HV : Hid (Sp.run s.data.toList (n + 1) .atom d σ = ((σ.step s.data.toList).step s.data.toList).nameT s.data.toList) := by
        show _ = _; rw [Sp.run]; simp [n0, n1, x2, hno, hdot]
      clear hw hcl hnk hno
      go_enter Tryz.func326, Tryz.ntmps326
      go_wp2_with fail
      go_region
      go_wp2_with fail
      refine (rstep_cl HQ.out x2 (by decide) (by decide)).mono ?_
      rintro r w1 ⟨rfl, hp1, hk1⟩
      have HP1 : Hid (RS b s d (k + 1) c (σ.step s.data.toList) w1) := hp1
      have HX1 : Hid (FX b w w.heap.size [.string kd, .int .i64 ta, .slice none 0 0, .int .i64 (-1), .string ts, .string ⟨#[]⟩, .int .i64 tn, .slice none 0 0, .slice none 0 0] [] w1) := HX.out.keep hk1
      clear hp1 hk1
      go_wp2_with fail
      refine (rtake_any HP1.out [46]).mono ?_
      rintro r w2 ⟨rfl, hp2, hk2⟩
      rw [take_yes hdot] at hp2
      have HP2 : Hid (RS b s d (k + 1) c ((σ.step s.data.toList).step s.data.toList) w2) := hp2
      have HX2 : Hid (FX b w w.heap.size [.string kd, .int .i64 ta, .slice none 0 0, .int .i64 (-1), .string ts, .string ⟨#[]⟩, .int .i64 tn, .slice none 0 0, .slice none 0 0] [] w2) := HX1.out.keep hk2
      clear hp2 hk2
      rw [hdot]
      have q4 := HX2.out.lq.cl 4 _ rfl
      have q5 := HX2.out.lq.cl 5 _ rfl
      have g5 := HX2.out.lq.fz 5
      have HX3 : Hid (FX b w w.heap.size [.string kd, .int .i64 ta, .slice none 0 0, .int .i64 (-1), .string ts, .string ts, .int .i64 tn, .slice none 0 0, .slice none 0 0] [] (w2.setCell ⟨w.heap.size, 5, none⟩ (.string ts))) := HX2.out.setq lb 5 (by simp) _
      have HP3 : Hid (RS b s d (k + 1) c ((σ.step s.data.toList).step s.data.toList) (w2.setCell ⟨w.heap.size, 5, none⟩ (.string ts))) := HP2.out.other _ 5 HX2.out.lq.nf _
      go_wp2_with fail
      refine (rname_any HP3.out (k + 1) (by omega) (by have := far_nameT s.data.toList ((σ.step s.data.toList).step s.data.toList); omega)).mono ?_
      rintro r w4 ⟨nm, na, rfl, hp4, hk4⟩
      have HP4 : Hid (RS b s d (k + 1) c (((σ.step s.data.toList).step s.data.toList).nameT s.data.toList) w4) := hp4
      have HX4 : Hid (FX b w w.heap.size [.string kd, .int .i64 ta, .slice none 0 0, .int .i64 (-1), .string ts, .string ts, .int .i64 tn, .slice none 0 0, .slice none 0 0] [] w4) := HX3.out.keep hk4
      clear hp4 hk4 q4 q5 g5
      have HX5 : Hid (FX b w w.heap.size [.string kd, .int .i64 ta, .slice none 0 0, .int .i64 (-1), .string nm, .string ts, .int .i64 tn, .slice none 0 0, .slice none 0 0] [] (w4.setCell ⟨w.heap.size, 4, none⟩ (.string nm))) := HX4.out.setq lb 4 (by simp) _
      have HP5 : Hid (RS b s d (k + 1) c (((σ.step s.data.toList).step s.data.toList).nameT s.data.toList) (w4.setCell ⟨w.heap.size, 4, none⟩ (.string nm))) := HP4.out.other _ 4 HX4.out.lq.nf _
      have g4 := HX4.out.lq.fz 4
      have q0 := HX4.out.lq.cl 0 _ rfl
      have q1 := HX4.out.lq.cl 1 _ rfl
      have q2 := HX4.out.lq.cl 2 _ rfl
      have q3 := HX4.out.lq.cl 3 _ rfl
      have q4 := HX4.out.lq.cl 4 _ rfl
      have q5 := HX4.out.lq.cl 5 _ rfl
      have q6 := HX4.out.lq.cl 6 _ rfl
      have q7 := HX4.out.lq.cl 7 _ rfl
      have q8 := HX4.out.lq.cl 8 _ rfl
      go_wp2_with fail
      refine (rnode_any HP5.out _ _ _ _ _ _ _ _ _ (one9 _ _ _ _ _ _ _ _ _ rfl rfl rfl)).mono ?_
      rintro r wn ⟨qn, rfl, hpn, hkn⟩
      have HPn : Hid (RS b s d k c (((σ.step s.data.toList).step s.data.toList).nameT s.data.toList) wn) := hpn
      have HKn : Hid (RK b w wn) := HX5.out.rk.trans hkn
      clear hpn hkn q0 q1 q2 q3 q4 q5 q6 q7 q8
      go_wp2_with fail
      go_ret
      exact ⟨_, rfl, by rw [HV.out]; exact HPn.out, HKn.out⟩
    · skip
      have hdot : (σ.step s.data.toList).is s.data.toList [46] = false := by simpa using hdot
      have HV : Hid (Sp.run s.data.toList (n + 1) .atom d σ = σ.step s.data.toList) := by
        show _ = _; rw [Sp.run]; simp [n0, n1, x2, hno, hdot]
      clear hw hcl hnk hno
      go_enter Tryz.func326, Tryz.ntmps326
      go_wp2_with fail
      go_region
      go_wp2_with fail
      refine (rstep_cl HQ.out x2 (by decide) (by decide)).mono ?_
      rintro r w1 ⟨rfl, hp1, hk1⟩
      have HP1 : Hid (RS b s d (k + 1) c (σ.step s.data.toList) w1) := hp1
      have HX1 : Hid (FX b w w.heap.size [.string kd, .int .i64 ta, .slice none 0 0, .int .i64 (-1), .string ts, .string ⟨#[]⟩, .int .i64 tn, .slice none 0 0, .slice none 0 0] [] w1) := HX.out.keep hk1
      clear hp1 hk1
      go_wp2_with fail
      refine (rtake_any HP1.out [46]).mono ?_
      rintro r w2 ⟨rfl, hp2, hk2⟩
      rw [take_no hdot] at hp2
      have HP2 : Hid (RS b s d (k + 1) c (σ.step s.data.toList) w2) := hp2
      have HX2 : Hid (FX b w w.heap.size [.string kd, .int .i64 ta, .slice none 0 0, .int .i64 (-1), .string ts, .string ⟨#[]⟩, .int .i64 tn, .slice none 0 0, .slice none 0 0] [] w2) := HX1.out.keep hk2
      clear hp2 hk2
      rw [hdot]
      have q0 := HX2.out.lq.cl 0 _ rfl
      have q1 := HX2.out.lq.cl 1 _ rfl
      have q2 := HX2.out.lq.cl 2 _ rfl
      have q3 := HX2.out.lq.cl 3 _ rfl
      have q4 := HX2.out.lq.cl 4 _ rfl
      have q5 := HX2.out.lq.cl 5 _ rfl
      have q6 := HX2.out.lq.cl 6 _ rfl
      have q7 := HX2.out.lq.cl 7 _ rfl
      have q8 := HX2.out.lq.cl 8 _ rfl
      go_wp2_with fail
      refine (rnode_any HP2.out _ _ _ _ _ _ _ _ _ (one9 _ _ _ _ _ _ _ _ _ rfl rfl rfl)).mono ?_
      rintro r wn ⟨qn, rfl, hpn, hkn⟩
      have HPn : Hid (RS b s d k c (σ.step s.data.toList) wn) := hpn
      have HKn : Hid (RK b w wn) := HX2.out.rk.trans hkn
      clear hpn hkn q0 q1 q2 q3 q4 q5 q6 q7 q8
      go_wp2_with fail
      go_ret
      exact ⟨_, rfl, by rw [HV.out]; exact HPn.out, HKn.out⟩
  have n2 : σ.isCl s.data.toList .name = false := by simpa using x2
  by_cases x3 : σ.isCl s.data.toList .key = true
  · skip
    have g0 : (kd.toList == [110, 117, 109, 98, 101, 114]) = false := (hcl .num (by decide)).trans n0
    have g1 : (kd.toList == [116, 101, 120, 116]) = false := (hcl .txt (by decide)).trans n1
    have g2 : (kd.toList == [110, 97, 109, 101]) = false := (hcl .name (by decide)).trans n2
    have g3 : (kd.toList == [107, 101, 121]) = true := (hcl .key (by decide)).trans x3
    obtain ⟨e, rfl⟩ := cl_live x3
    have hkk : kd.toList = [107, 101, 121] := by simpa using g3
    have hw' : ∀ z, (Sp.St.live e).is s.data.toList z = (ts.toList == z) := fun z => by rw [hw, decide_eq_true hkk]; rfl
    clear hw hcl hkk
    have q0 := HX.out.lq.cl 0 _ rfl
    have q1 := HX.out.lq.cl 1 _ rfl
    have q2 := HX.out.lq.cl 2 _ rfl
    have q3 := HX.out.lq.cl 3 _ rfl
    have q4 := HX.out.lq.cl 4 _ rfl
    have q5 := HX.out.lq.cl 5 _ rfl
    have q6 := HX.out.lq.cl 6 _ rfl
    have q7 := HX.out.lq.cl 7 _ rfl
    have q8 := HX.out.lq.cl 8 _ rfl
    go_enter Tryz.func326, Tryz.ntmps326
    go_wp2_with fail
    go_region
    go_wp2_with fail
    refine (rkeyed_all kd ts ta tn IH hd hm' HQ hw' x3).mono ?_
    rintro r w1 ⟨q9, rfl, hp1, hk1⟩
    have HP1 : Hid (RS b s d k c (Sp.run s.data.toList (n + 1) .atom d (.live e)) w1) := hp1
    have HK1 : Hid (RK b w w1) := HK0.out.trans hk1
    clear hp1 hk1 hw' q0 q1 q2 q3 q4 q5 q6 q7 q8
    go_wp2_with fail
    go_ret
    exact ⟨_, rfl, HP1.out, HK1.out⟩
  have n3 : σ.isCl s.data.toList .key = false := by simpa using x3
  have g0 : (kd.toList == [110, 117, 109, 98, 101, 114]) = false := (hcl .num (by decide)).trans n0
  have g1 : (kd.toList == [116, 101, 120, 116]) = false := (hcl .txt (by decide)).trans n1
  have g2 : (kd.toList == [110, 97, 109, 101]) = false := (hcl .name (by decide)).trans n2
  have g3 : (kd.toList == [107, 101, 121]) = false := (hcl .key (by decide)).trans n3
  have hnk : ¬ kd.toList = [107, 101, 121] := by simpa using g3
  have hno : ∀ z, σ.is s.data.toList z = false := fun z => by rw [hw, decide_eq_false hnk]; rfl
  have HV : Hid (Sp.run s.data.toList (n + 1) .atom d σ = σ.fail s.data.toList 2) := by
    show _ = _; rw [Sp.run]; simp only [n0, n1, n2, hno, Bool.or_self, Bool.false_eq_true, if_false]
  clear hw hcl hnk hno
  go_enter Tryz.func326, Tryz.ntmps326
  go_wp2_with fail
  go_region
  go_wp2_with fail
  refine (rfail_any HQ.out 2 (by decide) k (by have := far_fail s.data.toList 2 σ; omega)).mono ?_
  rintro r w2 ⟨rfl, hp2, hk2⟩
  have HP2 : Hid (RS b s d k c (σ.fail s.data.toList 2) w2) := hp2
  have HK2 : Hid (RK b w w2) := HK0.out.trans hk2
  clear hp2 hk2
  go_wp2_with fail
  go_ret
  exact ⟨_, rfl, by rw [HV.out]; exact HP2.out, HK2.out⟩
end Go.Proofs.YtgnncnhkgmhngaaGreatDoor

namespace Go.Proofs.YtgnncnhkgmhngaaGreatDoor
open Go.RowKit

/-- Every part of the reader's grammar, at whatever fuel. -/
theorem rall (b : Nat) (s : ByteArray) : ∀ n m, m ≤ n → RAll b s m := by
  intro n
  induction n with
  | zero =>
    intro m hm
    obtain rfl : m = 0 := by omega
    have z : ∀ nt f, 1 ≤ Sp.lev nt → Rd b s 0 nt f := fun nt f h d k c σ w _ hm => absurd hm (by omega)
    exact ⟨z _ _ (by decide), z _ _ (by decide), z _ _ (by decide), z _ _ (by decide), z _ _ (by decide), z _ _ (by decide), z _ _ (by decide), z _ _ (by decide), z _ _ (by decide), z _ _ (by decide), z _ _ (by decide), fun d k c σ w _ hm => absurd hm (by omega), fun d k c σ w _ hm => absurd hm (by omega)⟩
  | succ n ih =>
    intro m hm
    have IH : Hid (∀ m, m ≤ n → RAll b s m) := ih
    by_cases e : m = n + 1
    · subst e
      exact ⟨rexpr_step IH, rboth_step IH, rno_step IH, rcompare_step IH, rsum_step IH, rproduct_step IH, runary_step IH, ratom_step IH, rquery_step IH, rterm_step IH, rfactor_step IH, rlist_step IH, rwhere_step IH⟩
    · exact ih m (by omega)

theorem Ow.slice {b : Nat} {e : TypeId} {size : Nat} {v : Value} {n : Nat} {w : World} (h : Ow b e size v n w) : ∃ o cap, v = .slice o n cap := by
  obtain ⟨xs, h1, h2⟩ := h
  rcases h2 with h | ⟨k, cap, cur, hv, _⟩
  · obtain ⟨rfl, rfl, _⟩ := h; exact ⟨_, _, rfl⟩
  · exact ⟨_, _, hv⟩
theorem RS.cols {b : Nat} {s : ByteArray} {d k : Nat} {c : Ct} {σ : Sp.St} {w : World} (h : RS b s d k c σ w) : ∃ o cap, w.cell? ⟨b, 12, none⟩ = some (.slice o c.nc cap) := by
  obtain ⟨_, x, hc, ho, _⟩ := h
  obtain ⟨o, cap, hv⟩ := ho.oc.slice
  exact ⟨o, cap, by rw [hc.c12, hv]⟩

theorem grew_one {b : Nat} {w w1 : World} {v : Value} {g : Nat} {o : Obj} (lb : b < w.heap.size) (hv : ∀ k, v.ownBlock = some k → b + 1 ≤ k) (hg : (w.alloc o).drew.grownBy w1 v.ownBlock) (hat : v.ownBlock = some g ∨ g = (w.alloc o).drew.heap.size) : Grew b w w1 v g := by
  have hs : w.heap.size + 1 ≤ w1.heap.size := by have := hg.size; simpa using this
  have hold : ∀ k, k < w.heap.size → v.ownBlock ≠ some k → w1.heap[k]? = w.heap[k]? := fun k hk hne => (hg.block k (by simp; omega) (fun e => hne e.symm)).trans (Below.heap_alloc _ _ _ hk)
  refine ⟨hold b lb (fun e => by have := hv b e; omega), by omega, hg.os, hg.tape, hg.output, hold, ?_⟩
  rcases hat with h | h
  · exact Or.inl h
  · exact Or.inr (by rw [h]; simp)

theorem RS.pushvc {b : Nat} {s : ByteArray} {d k : Nat} {c : Ct} {σ : Sp.St} {x : RD} {w w1 : World} {g cap : Nat} (hs : s.size ≤ 2000) (hc : RC b s x d (er σ) (ea σ) w) (ho : RO b s.data.toList k c σ x w) (ht : RT s.data.toList x σ) (hG : Grew b w w1 x.vc g) (hO1 : Ow b 201 3 (.slice (some ⟨g, 0, none⟩) (c.nc + 1) cap) (c.nc + 1) w1) :
    RS b s d k { c with nc := c.nc + 1 } σ (w1.setCell ⟨b, 12, none⟩ (.slice (some ⟨g, 0, none⟩) (c.nc + 1) cap)) ∧ RK b w (w1.setCell ⟨b, 12, none⟩ (.slice (some ⟨g, 0, none⟩) (c.nc + 1) cap)) := by
  have h1 := ho.oc
  obtain ⟨m, hm, hb⟩ := ho.on
  obtain ⟨m2, hm2, hb2⟩ := ho.oq
  refine ⟨⟨hs, _, (hc.kept hG.own hG.size).s12 _, ⟨Ow.set hO1 12 _, (ho.or.grew h1 (by decide) hG).set 12 _, (ho.og.grew h1 (by decide) hG).set 12 _, ⟨m, (hm.grew h1 (by decide) hG).set 12 _, by omega⟩, ⟨m2, (hm2.grew h1 (by decide) hG).set 12 _, by omega⟩⟩, ?_⟩, RK.grew (by decide) hc.c12 hG⟩
  cases σ with
  | live e => exact ht
  | dead y z => exact ht

theorem RS.pushvr {b : Nat} {s : ByteArray} {d k : Nat} {c : Ct} {σ : Sp.St} {x : RD} {w w1 : World} {g cap : Nat} (hs : s.size ≤ 2000) (hc : RC b s x d (er σ) (ea σ) w) (ho : RO b s.data.toList k c σ x w) (ht : RT s.data.toList x σ) (hG : Grew b w w1 x.vr g) (hO1 : Ow b 210 2 (.slice (some ⟨g, 0, none⟩) (c.nr + 1) cap) (c.nr + 1) w1) :
    RS b s d k { c with nr := c.nr + 1 } σ (w1.setCell ⟨b, 13, none⟩ (.slice (some ⟨g, 0, none⟩) (c.nr + 1) cap)) ∧ RK b w (w1.setCell ⟨b, 13, none⟩ (.slice (some ⟨g, 0, none⟩) (c.nr + 1) cap)) := by
  have h1 := ho.or
  obtain ⟨m, hm, hb⟩ := ho.on
  obtain ⟨m2, hm2, hb2⟩ := ho.oq
  refine ⟨⟨hs, _, (hc.kept hG.own hG.size).s13 _, ⟨(ho.oc.grew h1 (by decide) hG).set 13 _, Ow.set hO1 13 _, (ho.og.grew h1 (by decide) hG).set 13 _, ⟨m, (hm.grew h1 (by decide) hG).set 13 _, by omega⟩, ⟨m2, (hm2.grew h1 (by decide) hG).set 13 _, by omega⟩⟩, ?_⟩, RK.grew (by decide) hc.c13 hG⟩
  cases σ with
  | live e => exact ht
  | dead y z => exact ht

theorem RS.pushvg {b : Nat} {s : ByteArray} {d k : Nat} {c : Ct} {σ : Sp.St} {x : RD} {w w1 : World} {g cap : Nat} (hs : s.size ≤ 2000) (hc : RC b s x d (er σ) (ea σ) w) (ho : RO b s.data.toList k c σ x w) (ht : RT s.data.toList x σ) (hG : Grew b w w1 x.vg g) (hO1 : Ow b 214 4 (.slice (some ⟨g, 0, none⟩) (c.ng + 1) cap) (c.ng + 1) w1) :
    RS b s d k { c with ng := c.ng + 1 } σ (w1.setCell ⟨b, 14, none⟩ (.slice (some ⟨g, 0, none⟩) (c.ng + 1) cap)) ∧ RK b w (w1.setCell ⟨b, 14, none⟩ (.slice (some ⟨g, 0, none⟩) (c.ng + 1) cap)) := by
  have h1 := ho.og
  obtain ⟨m, hm, hb⟩ := ho.on
  obtain ⟨m2, hm2, hb2⟩ := ho.oq
  refine ⟨⟨hs, _, (hc.kept hG.own hG.size).s14 _, ⟨(ho.oc.grew h1 (by decide) hG).set 14 _, (ho.or.grew h1 (by decide) hG).set 14 _, Ow.set hO1 14 _, ⟨m, (hm.grew h1 (by decide) hG).set 14 _, by omega⟩, ⟨m2, (hm2.grew h1 (by decide) hG).set 14 _, by omega⟩⟩, ?_⟩, RK.grew (by decide) hc.c14 hG⟩
  cases σ with
  | live e => exact ht
  | dead y z => exact ht

theorem Tryz.info201 : (Tryz.prog.info? 201).map (fun i => (i.zero, i.size, i.bytes)) = some (some (.agg #[.string ⟨#[]⟩, .int .i64 0, .int .i64 0]), 3, 32) := by kernel_rfl
theorem Tryz.info210 : (Tryz.prog.info? 210).map (fun i => (i.zero, i.size, i.bytes)) = some (some (.agg #[.int .i64 0, .slice none 0 0]), 2, 32) := by kernel_rfl
theorem Tryz.info214 : (Tryz.prog.info? 214).map (fun i => (i.zero, i.size, i.bytes)) = some (some (.agg #[.string ⟨#[]⟩, .int .i64 0, .int .i64 0, .int .i64 0]), 4, 40) := by kernel_rfl
theorem one3 (a : ByteArray) (c d : Int) : ∀ u ∈ [Value.string a, .int .i64 c, .int .i64 d], u.oneCell' = true := by
  intro u hu
  simp only [List.mem_cons, List.not_mem_nil, or_false] at hu
  rcases hu with rfl | rfl | rfl <;> rfl
theorem one2 (a : Int) (o : Option Addr) (m c : Nat) : ∀ u ∈ [Value.int .i64 a, .slice o m c], u.oneCell' = true := by
  intro u hu
  simp only [List.mem_cons, List.not_mem_nil, or_false] at hu
  rcases hu with rfl | rfl <;> rfl
theorem oneC (a : ByteArray) (b c d : Int) : ∀ u ∈ [Value.string a, .int .i64 b, .int .i64 c, .int .i64 d], u.oneCell' = true := by
  intro u hu
  simp only [List.mem_cons, List.not_mem_nil, or_false] at hu
  rcases hu with rfl | rfl | rfl | rfl <;> rfl
theorem news1d (w : World) (cs : Array Value) (t : TypeId) : ∀ j u, cs.toList[j]? = some u → (w.alloc (.cells cs t)).drew.cell? (Addr.add ⟨w.heap.size, 0, none⟩ j) = some u := by
  intro j u h
  rw [World.cell?_drew]
  exact news1 w cs t j u h

theorem colF_six (s : Sp.Bs) (σ : Sp.St) : colF s 6 σ = σ.fail s 2 := by
  cases σ <;> rfl
theorem colF_low (s : Sp.Bs) (k : Nat) (σ : Sp.St) (h : (k == 6) = false) : colF s k σ = colT s σ := by
  unfold colF; rw [h]; rfl
theorem nameT_dead (s : Sp.Bs) (y a : Nat) : (Sp.St.dead y a).nameT s = .dead y a := rfl

/-- What column leaves. -/
def RCol (b : Nat) (s : ByteArray) (d k : Nat) (c : Ct) (σ : Sp.St) (w : World) (r : Ending) (w' : World) : Prop := r = .returned (.tuple #[]) ∧ ∃ nc, RS b s d k { c with nc := nc } (colF s.data.toList c.nc σ) w' ∧ (Sp.St.is s.data.toList [44] (colF s.data.toList c.nc σ) = true → nc = c.nc + 1) ∧ RK b w w'

set_option maxRecDepth 100000 in
set_option maxHeartbeats 8000000 in
theorem rcolumn_any {b : Nat} {s : ByteArray} {d k : Nat} {c : Ct} {σ : Sp.St} {w : World} (HP : Hid (RS b s d k c σ w)) (hn : c.nc ≤ 6) :
    Calls Tryz.prog 65 #[.pointer (some ⟨b, 0, none⟩)] w (RCol b s d k c σ w) := by
  have lb := HP.out.lb
  obtain ⟨i0, hi, hz0, hz1, hz2⟩ := info_parts Tryz.info201
  obtain ⟨oc, cc, c12⟩ := HP.out.cols
  by_cases h6 : c.nc = 6
  · have h6' : (((c.nc : Nat) : Int) == 6) = true := by rw [h6]; rfl
    have HV : Hid (colF s.data.toList c.nc σ = σ.fail s.data.toList 2) := by show _ = _; rw [h6]; exact colF_six _ _
    obtain ⟨y, a, hD⟩ : ∃ y a, σ.fail s.data.toList 2 = .dead y a := by cases σ <;> exact ⟨_, _, rfl⟩
    clear hi hz0 hz1 hz2
    go_enter Tryz.func65, Tryz.ntmps65
    go_wp2_with fail
    refine (rfail_any HP.out 2 (by decide) k (by have := far_fail s.data.toList 2 σ; omega)).mono ?_
    rintro r w1 ⟨rfl, hp1, hk1⟩
    rw [hD] at hp1
    have HP1 : Hid (RS b s d k c (.dead y a) w1) := hp1
    have HK1 : Hid (RK b w w1) := hk1
    clear hp1 hk1
    go_wp2_with fail
    refine (rname_any HP1.out k (by omega) (by rw [nameT_dead]; omega)).mono ?_
    rintro r w2 ⟨nm, na, rfl, hp2, hk2⟩
    rw [nameT_dead] at hp2
    have HP2 : Hid (RS b s d k c (.dead y a) w2) := hp2
    have HK2 : Hid (RK b w w2) := HK1.out.trans hk2
    clear hp2 hk2
    have HQ2 : Hid (RS b s d k c (.dead y a) (w2.alloc (.cells #[.string nm, .int .i64 0, .int .i64 na] 201))) := HP2.out.alloc _
    have HQK : Hid (RK b w (w2.alloc (.cells #[.string nm, .int .i64 0, .int .i64 na] 201))) := HK2.out.alloc HP2.out.lb _
    go_wp2_with fail
    refine (ris_any HQ2.out [98, 111, 111, 108]).mono ?_
    rintro r w3 ⟨rfl, rfl⟩
    go_wp2_with fail
    refine (ris_any HQ2.out [105, 110, 116]).mono ?_
    rintro r w3 ⟨rfl, rfl⟩
    go_wp2_with fail
    refine (ris_any HQ2.out [116, 101, 120, 116]).mono ?_
    rintro r w3 ⟨rfl, rfl⟩
    go_wp2_with fail
    refine (rfail_any HQ2.out 2 (by decide) k (by have := far_fail s.data.toList 2 (.dead y a); omega)).mono ?_
    rintro r w4 ⟨rfl, hp4, hk4⟩
    have HP4 : Hid (RS b s d k c (.dead y a) w4) := hp4
    have HK4 : Hid (RK b w w4) := HQK.out.trans hk4
    clear hp4 hk4
    go_wp2_with fail
    go_end0
    exact ⟨rfl, c.nc, by rw [HV.out, hD]; exact HP4.out, fun h => by rw [HV.out, hD] at h; exact absurd h (by simp [Sp.St.is]), HK4.out⟩
  · have h6' : (((c.nc : Nat) : Int) == 6) = false := by rw [beq_eq_false_iff_ne]; omega
    have hlow : (c.nc == 6) = false := by rw [beq_eq_false_iff_ne]; exact h6
    have HV : Hid (colF s.data.toList c.nc σ = colT s.data.toList σ) := colF_low _ _ _ hlow
    clear hlow
    go_enter Tryz.func65, Tryz.ntmps65
    go_wp2_with fail
    refine (rname_any HP.out k (by omega) (by have := far_nameT s.data.toList σ; omega)).mono ?_
    rintro r w2 ⟨nm, na, rfl, hp2, hk2⟩
    have HP2 : Hid (RS b s d k c (σ.nameT s.data.toList) w2) := hp2
    have HK2 : Hid (RK b w w2) := hk2
    have lb2 := hp2.lb
    clear hp2 hk2 h6' c12
    have HQ2 : Hid (RS b s d k c (σ.nameT s.data.toList) (w2.alloc (.cells #[.string nm, .int .i64 0, .int .i64 na] 201))) := HP2.out.alloc _
    have HX2 : Hid (FX b w2 w2.heap.size [.string nm, .int .i64 0, .int .i64 na] [] (w2.alloc (.cells #[.string nm, .int .i64 0, .int .i64 na] 201))) := FX.new HP2.out _ _ _ (by simp)
    go_wp2_with fail
    refine (ris_any HQ2.out [98, 111, 111, 108]).mono ?_
    rintro r w3 ⟨rfl, rfl⟩
    cases hb : (σ.nameT s.data.toList).is s.data.toList [98, 111, 111, 108] with
    | true =>
      have HC : Hid (colT s.data.toList σ = (σ.nameT s.data.toList).step s.data.toList) := by show _ = _; unfold colT; rw [three, hb]; simp
      have HX3 : Hid (FX b w2 w2.heap.size [.string nm, .int .i64 1, .int .i64 na] [] (w2.alloc (.cells #[.string nm, .int .i64 1, .int .i64 na] 201))) := FX.new HP2.out _ _ _ (by simp)
      have HQ3 : Hid (RS b s d k c (σ.nameT s.data.toList) (w2.alloc (.cells #[.string nm, .int .i64 1, .int .i64 na] 201))) := HP2.out.alloc _
      go_wp2_with fail
      refine (rstep_is HQ3.out hb).mono ?_
      rintro r w4 ⟨rfl, hp4, hk4⟩
      have HX4 : Hid (FX b w2 w2.heap.size [.string nm, .int .i64 1, .int .i64 na] [] w4) := HX3.out.keep hk4
      obtain ⟨hs, x, hc, ho, ht⟩ := hp4
      obtain ⟨xs, hown⟩ := ho.oc
      have q0 := HX4.out.lq.cl 0 _ rfl
      have q1 := HX4.out.lq.cl 1 _ rfl
      have q2 := HX4.out.lq.cl 2 _ rfl
      have cv := hc.c12
      have fv := hc.fz 12
      have lb4 := hc.lb
      have HF : Hid (∀ w1 : World, w1.heap[b]? = w4.heap[b]? → w1.cell? ⟨b, 12, none⟩ = some x.vc ∧ w1.frozen? ⟨b, 12, none⟩ = false) := fun w1 h => ⟨(World.cell?_of_block (w := w4) (a := ⟨b, 12, none⟩) h).trans hc.c12, (World.frozen?_of_block (w := w4) (a := ⟨b, 12, none⟩) h).trans (hc.fz 12)⟩
      have HO : Hid ((w4.alloc (.cells #[.string nm, .int .i64 1, .int .i64 na] 201)).drew.ownsRow (b + 1) 201 3 x.vc c.nc xs) := hown.alloc _
      have HN : Hid (∀ j u, [.string nm, .int .i64 1, .int .i64 na][j]? = some u → (w4.alloc (.cells #[.string nm, .int .i64 1, .int .i64 na] 201)).drew.cell? (Addr.add ⟨w4.heap.size, 0, none⟩ j) = some u) := news1d w4 #[.string nm, .int .i64 1, .int .i64 na] 201
      have HVb : Hid (∀ k, x.vc.ownBlock = some k → b + 1 ≤ k) := fun k h => (owns_block hown k h).1
      have h63 : c.nc + 1 ≤ maxLen := by unfold maxLen; omega
      have hby : (c.nc + 1) * 32 ≤ 140737488355328 := by omega
      have hba : b + 1 ≤ (w4.alloc (.cells #[.string nm, .int .i64 1, .int .i64 na] 201)).drew.heap.size := by simp; omega
      have HR : Hid (s.size ≤ 2000 ∧ RC b s x d (er ((σ.nameT s.data.toList).step s.data.toList)) (ea ((σ.nameT s.data.toList).step s.data.toList)) w4 ∧ RO b s.data.toList (k + 1) c ((σ.nameT s.data.toList).step s.data.toList) x w4 ∧ RT s.data.toList x ((σ.nameT s.data.toList).step s.data.toList)) := ⟨hs, hc, ho, ht⟩
      clear hown hs hc ho ht
      go_wp2_with fail
      go_region_law (refine step_append_lies (w4.alloc (.cells #[.string nm, .int .i64 1, .int .i64 na] 201)).drew rfl (.tmp 43) (.tmp 45) 76 rfl (b + 1) 201 i0 (.agg #[.string ⟨#[]⟩, .int .i64 0, .int .i64 0]) 3 32 Tryz.underlying76 hi hz0 hz1 hz2 rfl (by decide) x.vc c.nc xs rfl HO.out ⟨w4.heap.size, 0, none⟩ 1 1 [.string nm, .int .i64 1, .int .i64 na] rfl rfl HN.out (one3 _ _ _) (by decide) h63 hby hba _ rfl ?_; intro g cap wz hown1 hgrow hat hlt; have hG := grew_one lb4 HVb.out hgrow hat; have hq := HF.out wz hG.own; obtain ⟨z1, z2⟩ := hq; have HZ : Hid (RS b s d (k + 1) { c with nc := c.nc + 1 } ((σ.nameT s.data.toList).step s.data.toList) (wz.setCell ⟨b, 12, none⟩ (.slice (some ⟨g, 0, none⟩) (c.nc + 1) cap)) ∧ RK b w4 (wz.setCell ⟨b, 12, none⟩ (.slice (some ⟨g, 0, none⟩) (c.nc + 1) cap))) := RS.pushvc HR.out.1 HR.out.2.1 HR.out.2.2.1 HR.out.2.2.2 hG ⟨_, hown1⟩; clear hown1 hgrow hat hlt hG)
      all_goals go_wp2_with fail
      all_goals go_end0
      all_goals have HPz : Hid (RS b s d (k + 1) { c with nc := c.nc + 1 } ((σ.nameT s.data.toList).step s.data.toList) (wz.setCell ⟨b, 12, none⟩ (.slice (some ⟨g, 0, none⟩) (c.nc + 1) cap))) := HZ.out.1
      all_goals have HKz : Hid (RK b w4 (wz.setCell ⟨b, 12, none⟩ (.slice (some ⟨g, 0, none⟩) (c.nc + 1) cap))) := HZ.out.2
      all_goals exact ⟨rfl, c.nc + 1, by rw [HV.out, HC.out]; exact HPz.out.weak (Nat.le_succ k), fun _ => rfl, ((HK2.out.trans HX4.out.rk).trans HKz.out)⟩
    | false =>
      have hb0 := hb
      clear hb
      go_wp2_with fail
      refine (ris_any HQ2.out [105, 110, 116]).mono ?_
      rintro r w3 ⟨rfl, rfl⟩
      cases hb : (σ.nameT s.data.toList).is s.data.toList [105, 110, 116] with
      | true =>
        have HC : Hid (colT s.data.toList σ = (σ.nameT s.data.toList).step s.data.toList) := by show _ = _; unfold colT; rw [three, hb]; simp
        have HX3 : Hid (FX b w2 w2.heap.size [.string nm, .int .i64 2, .int .i64 na] [] (w2.alloc (.cells #[.string nm, .int .i64 2, .int .i64 na] 201))) := FX.new HP2.out _ _ _ (by simp)
        have HQ3 : Hid (RS b s d k c (σ.nameT s.data.toList) (w2.alloc (.cells #[.string nm, .int .i64 2, .int .i64 na] 201))) := HP2.out.alloc _
        go_wp2_with fail
        refine (rstep_is HQ3.out hb).mono ?_
        rintro r w4 ⟨rfl, hp4, hk4⟩
        have HX4 : Hid (FX b w2 w2.heap.size [.string nm, .int .i64 2, .int .i64 na] [] w4) := HX3.out.keep hk4
        obtain ⟨hs, x, hc, ho, ht⟩ := hp4
        obtain ⟨xs, hown⟩ := ho.oc
        have q0 := HX4.out.lq.cl 0 _ rfl
        have q1 := HX4.out.lq.cl 1 _ rfl
        have q2 := HX4.out.lq.cl 2 _ rfl
        have cv := hc.c12
        have fv := hc.fz 12
        have lb4 := hc.lb
        have HF : Hid (∀ w1 : World, w1.heap[b]? = w4.heap[b]? → w1.cell? ⟨b, 12, none⟩ = some x.vc ∧ w1.frozen? ⟨b, 12, none⟩ = false) := fun w1 h => ⟨(World.cell?_of_block (w := w4) (a := ⟨b, 12, none⟩) h).trans hc.c12, (World.frozen?_of_block (w := w4) (a := ⟨b, 12, none⟩) h).trans (hc.fz 12)⟩
        have HO : Hid ((w4.alloc (.cells #[.string nm, .int .i64 2, .int .i64 na] 201)).drew.ownsRow (b + 1) 201 3 x.vc c.nc xs) := hown.alloc _
        have HN : Hid (∀ j u, [.string nm, .int .i64 2, .int .i64 na][j]? = some u → (w4.alloc (.cells #[.string nm, .int .i64 2, .int .i64 na] 201)).drew.cell? (Addr.add ⟨w4.heap.size, 0, none⟩ j) = some u) := news1d w4 #[.string nm, .int .i64 2, .int .i64 na] 201
        have HVb : Hid (∀ k, x.vc.ownBlock = some k → b + 1 ≤ k) := fun k h => (owns_block hown k h).1
        have h63 : c.nc + 1 ≤ maxLen := by unfold maxLen; omega
        have hby : (c.nc + 1) * 32 ≤ 140737488355328 := by omega
        have hba : b + 1 ≤ (w4.alloc (.cells #[.string nm, .int .i64 2, .int .i64 na] 201)).drew.heap.size := by simp; omega
        have HR : Hid (s.size ≤ 2000 ∧ RC b s x d (er ((σ.nameT s.data.toList).step s.data.toList)) (ea ((σ.nameT s.data.toList).step s.data.toList)) w4 ∧ RO b s.data.toList (k + 1) c ((σ.nameT s.data.toList).step s.data.toList) x w4 ∧ RT s.data.toList x ((σ.nameT s.data.toList).step s.data.toList)) := ⟨hs, hc, ho, ht⟩
        clear hown hs hc ho ht
        go_wp2_with fail
        go_region_law (refine step_append_lies (w4.alloc (.cells #[.string nm, .int .i64 2, .int .i64 na] 201)).drew rfl (.tmp 43) (.tmp 45) 76 rfl (b + 1) 201 i0 (.agg #[.string ⟨#[]⟩, .int .i64 0, .int .i64 0]) 3 32 Tryz.underlying76 hi hz0 hz1 hz2 rfl (by decide) x.vc c.nc xs rfl HO.out ⟨w4.heap.size, 0, none⟩ 1 1 [.string nm, .int .i64 2, .int .i64 na] rfl rfl HN.out (one3 _ _ _) (by decide) h63 hby hba _ rfl ?_; intro g cap wz hown1 hgrow hat hlt; have hG := grew_one lb4 HVb.out hgrow hat; have hq := HF.out wz hG.own; obtain ⟨z1, z2⟩ := hq; have HZ : Hid (RS b s d (k + 1) { c with nc := c.nc + 1 } ((σ.nameT s.data.toList).step s.data.toList) (wz.setCell ⟨b, 12, none⟩ (.slice (some ⟨g, 0, none⟩) (c.nc + 1) cap)) ∧ RK b w4 (wz.setCell ⟨b, 12, none⟩ (.slice (some ⟨g, 0, none⟩) (c.nc + 1) cap))) := RS.pushvc HR.out.1 HR.out.2.1 HR.out.2.2.1 HR.out.2.2.2 hG ⟨_, hown1⟩; clear hown1 hgrow hat hlt hG)
        all_goals go_wp2_with fail
        all_goals go_end0
        all_goals have HPz : Hid (RS b s d (k + 1) { c with nc := c.nc + 1 } ((σ.nameT s.data.toList).step s.data.toList) (wz.setCell ⟨b, 12, none⟩ (.slice (some ⟨g, 0, none⟩) (c.nc + 1) cap))) := HZ.out.1
        all_goals have HKz : Hid (RK b w4 (wz.setCell ⟨b, 12, none⟩ (.slice (some ⟨g, 0, none⟩) (c.nc + 1) cap))) := HZ.out.2
        all_goals exact ⟨rfl, c.nc + 1, by rw [HV.out, HC.out]; exact HPz.out.weak (Nat.le_succ k), fun _ => rfl, ((HK2.out.trans HX4.out.rk).trans HKz.out)⟩
      | false =>
        have hb1 := hb
        clear hb
        go_wp2_with fail
        refine (ris_any HQ2.out [116, 101, 120, 116]).mono ?_
        rintro r w3 ⟨rfl, rfl⟩
        cases hb : (σ.nameT s.data.toList).is s.data.toList [116, 101, 120, 116] with
        | true =>
          have HC : Hid (colT s.data.toList σ = (σ.nameT s.data.toList).step s.data.toList) := by show _ = _; unfold colT; rw [three, hb]; simp
          have HX3 : Hid (FX b w2 w2.heap.size [.string nm, .int .i64 3, .int .i64 na] [] (w2.alloc (.cells #[.string nm, .int .i64 3, .int .i64 na] 201))) := FX.new HP2.out _ _ _ (by simp)
          have HQ3 : Hid (RS b s d k c (σ.nameT s.data.toList) (w2.alloc (.cells #[.string nm, .int .i64 3, .int .i64 na] 201))) := HP2.out.alloc _
          go_wp2_with fail
          refine (rstep_is HQ3.out hb).mono ?_
          rintro r w4 ⟨rfl, hp4, hk4⟩
          have HX4 : Hid (FX b w2 w2.heap.size [.string nm, .int .i64 3, .int .i64 na] [] w4) := HX3.out.keep hk4
          obtain ⟨hs, x, hc, ho, ht⟩ := hp4
          obtain ⟨xs, hown⟩ := ho.oc
          have q0 := HX4.out.lq.cl 0 _ rfl
          have q1 := HX4.out.lq.cl 1 _ rfl
          have q2 := HX4.out.lq.cl 2 _ rfl
          have cv := hc.c12
          have fv := hc.fz 12
          have lb4 := hc.lb
          have HF : Hid (∀ w1 : World, w1.heap[b]? = w4.heap[b]? → w1.cell? ⟨b, 12, none⟩ = some x.vc ∧ w1.frozen? ⟨b, 12, none⟩ = false) := fun w1 h => ⟨(World.cell?_of_block (w := w4) (a := ⟨b, 12, none⟩) h).trans hc.c12, (World.frozen?_of_block (w := w4) (a := ⟨b, 12, none⟩) h).trans (hc.fz 12)⟩
          have HO : Hid ((w4.alloc (.cells #[.string nm, .int .i64 3, .int .i64 na] 201)).drew.ownsRow (b + 1) 201 3 x.vc c.nc xs) := hown.alloc _
          have HN : Hid (∀ j u, [.string nm, .int .i64 3, .int .i64 na][j]? = some u → (w4.alloc (.cells #[.string nm, .int .i64 3, .int .i64 na] 201)).drew.cell? (Addr.add ⟨w4.heap.size, 0, none⟩ j) = some u) := news1d w4 #[.string nm, .int .i64 3, .int .i64 na] 201
          have HVb : Hid (∀ k, x.vc.ownBlock = some k → b + 1 ≤ k) := fun k h => (owns_block hown k h).1
          have h63 : c.nc + 1 ≤ maxLen := by unfold maxLen; omega
          have hby : (c.nc + 1) * 32 ≤ 140737488355328 := by omega
          have hba : b + 1 ≤ (w4.alloc (.cells #[.string nm, .int .i64 3, .int .i64 na] 201)).drew.heap.size := by simp; omega
          have HR : Hid (s.size ≤ 2000 ∧ RC b s x d (er ((σ.nameT s.data.toList).step s.data.toList)) (ea ((σ.nameT s.data.toList).step s.data.toList)) w4 ∧ RO b s.data.toList (k + 1) c ((σ.nameT s.data.toList).step s.data.toList) x w4 ∧ RT s.data.toList x ((σ.nameT s.data.toList).step s.data.toList)) := ⟨hs, hc, ho, ht⟩
          clear hown hs hc ho ht
          go_wp2_with fail
          go_region_law (refine step_append_lies (w4.alloc (.cells #[.string nm, .int .i64 3, .int .i64 na] 201)).drew rfl (.tmp 43) (.tmp 45) 76 rfl (b + 1) 201 i0 (.agg #[.string ⟨#[]⟩, .int .i64 0, .int .i64 0]) 3 32 Tryz.underlying76 hi hz0 hz1 hz2 rfl (by decide) x.vc c.nc xs rfl HO.out ⟨w4.heap.size, 0, none⟩ 1 1 [.string nm, .int .i64 3, .int .i64 na] rfl rfl HN.out (one3 _ _ _) (by decide) h63 hby hba _ rfl ?_; intro g cap wz hown1 hgrow hat hlt; have hG := grew_one lb4 HVb.out hgrow hat; have hq := HF.out wz hG.own; obtain ⟨z1, z2⟩ := hq; have HZ : Hid (RS b s d (k + 1) { c with nc := c.nc + 1 } ((σ.nameT s.data.toList).step s.data.toList) (wz.setCell ⟨b, 12, none⟩ (.slice (some ⟨g, 0, none⟩) (c.nc + 1) cap)) ∧ RK b w4 (wz.setCell ⟨b, 12, none⟩ (.slice (some ⟨g, 0, none⟩) (c.nc + 1) cap))) := RS.pushvc HR.out.1 HR.out.2.1 HR.out.2.2.1 HR.out.2.2.2 hG ⟨_, hown1⟩; clear hown1 hgrow hat hlt hG)
          all_goals go_wp2_with fail
          all_goals go_end0
          all_goals have HPz : Hid (RS b s d (k + 1) { c with nc := c.nc + 1 } ((σ.nameT s.data.toList).step s.data.toList) (wz.setCell ⟨b, 12, none⟩ (.slice (some ⟨g, 0, none⟩) (c.nc + 1) cap))) := HZ.out.1
          all_goals have HKz : Hid (RK b w4 (wz.setCell ⟨b, 12, none⟩ (.slice (some ⟨g, 0, none⟩) (c.nc + 1) cap))) := HZ.out.2
          all_goals exact ⟨rfl, c.nc + 1, by rw [HV.out, HC.out]; exact HPz.out.weak (Nat.le_succ k), fun _ => rfl, ((HK2.out.trans HX4.out.rk).trans HKz.out)⟩
        | false =>
          have hb2 := hb
          clear hb
          have HC : Hid (colT s.data.toList σ = (σ.nameT s.data.toList).fail s.data.toList 2) := by show _ = _; unfold colT; rw [three]; simp only [hb0, hb1, hb2, Bool.or_self, Bool.false_eq_true, if_false]
          have hD : Sp.St.is s.data.toList [44] ((σ.nameT s.data.toList).fail s.data.toList 2) = false := by cases σ.nameT s.data.toList <;> rfl
          go_wp2_with fail
          refine (rfail_any HQ2.out 2 (by decide) k (by have := far_fail s.data.toList 2 (σ.nameT s.data.toList); omega)).mono ?_
          rintro r w4 ⟨rfl, hp4, hk4⟩
          have HP4 : Hid (RS b s d k c ((σ.nameT s.data.toList).fail s.data.toList 2) w4) := hp4
          have HK4 : Hid (RK b w w4) := (HK2.out.trans HX2.out.rk).trans hk4
          clear hp4 hk4
          go_wp2_with fail
          go_end0
          exact ⟨rfl, c.nc, by rw [HV.out, HC.out]; exact HP4.out, fun h => by rw [HV.out, HC.out, hD] at h; exact absurd h (by decide), HK4.out⟩
end Go.Proofs.YtgnncnhkgmhngaaGreatDoor

namespace Go.Proofs.YtgnncnhkgmhngaaGreatDoor
open Go.RowKit

set_option maxRecDepth 100000 in
set_option maxHeartbeats 8000000 in
theorem rrow_any {b : Nat} {s : ByteArray} {n k : Nat} {c : Ct} {σ : Sp.St} {w : World} (IA : Hid (RAll b s n)) (hn : n ≤ 900000) (hm : 32 * Sp.rem s.data.toList σ + 20 ≤ n) (hnr : c.nr ≤ 1000000) (HP : Hid (RS b s 0 k c σ w)) :
    Calls Tryz.prog 69 #[.pointer (some ⟨b, 0, none⟩)] w fun r w' => r = .returned (.tuple #[]) ∧ RS b s 0 k { c with nr := c.nr + 1 } (Sp.rowT s.data.toList n σ) w' ∧ RK b w w' := by
  have lb := HP.out.lb
  obtain ⟨i0, hi, hz0, hz1, hz2⟩ := info_parts Tryz.info210
  obtain ⟨ta, c2⟩ := HP.out.tat
  have HX : Hid (FX b w w.heap.size [.int .i64 ta, .slice none 0 0] [] (w.alloc (.cells #[.int .i64 ta, .slice none 0 0] 210))) := FX.new HP.out _ _ _ (by simp)
  have HQ : Hid (RS b s 0 k c σ (w.alloc (.cells #[.int .i64 ta, .slice none 0 0] 210))) := HP.out.alloc _
  have m1 := Sp.rem_must s.data.toList [40] σ
  go_enter Tryz.func69, Tryz.ntmps69
  go_wp2_with fail
  refine (rmust_any HQ.out [40] k (by have := far_must s.data.toList [40] σ; omega)).mono ?_
  rintro r w1 ⟨rfl, hp1, hk1⟩
  have HP1 : Hid (RS b s 0 k c (σ.must s.data.toList [40]) w1) := hp1
  have HX1 : Hid (FX b w w.heap.size [.int .i64 ta, .slice none 0 0] [] w1) := HX.out.keep hk1
  clear hp1 hk1 c2
  go_wp2_with fail
  refine (IA.out.list 0 k c _ _ (by omega) (by omega) HP1.out).mono ?_
  rintro r w2 ⟨o, mm, cp, rfl, hp2, hk2⟩
  have HP2 : Hid (RS b s 0 k c (Sp.run s.data.toList n .list 0 (σ.must s.data.toList [40])) w2) := hp2
  have HX2 : Hid (FX b w w.heap.size [.int .i64 ta, .slice none 0 0] [] w2) := HX1.out.keep hk2
  clear hp2 hk2
  have HX3 : Hid (FX b w w.heap.size [.int .i64 ta, .slice o mm cp] [] (w2.setCell ⟨w.heap.size, 1, none⟩ (.slice o mm cp))) := HX2.out.setq lb 1 (by simp) _
  have HP3 : Hid (RS b s 0 k c (Sp.run s.data.toList n .list 0 (σ.must s.data.toList [40])) (w2.setCell ⟨w.heap.size, 1, none⟩ (.slice o mm cp))) := HP2.out.other _ 1 HX2.out.lq.nf _
  have q1 := HX2.out.lq.cl 1 _ rfl
  have g1 := HX2.out.lq.fz 1
  go_wp2_with fail
  refine (rmust_any HP3.out [41] k (by have := far_must s.data.toList [41] (Sp.run s.data.toList n .list 0 (σ.must s.data.toList [40])); omega)).mono ?_
  rintro r w4 ⟨rfl, hp4, hk4⟩
  have HX4 : Hid (FX b w w.heap.size [.int .i64 ta, .slice o mm cp] [] w4) := HX3.out.keep hk4
  have HP4 : RS b s 0 k c ((Sp.run s.data.toList n .list 0 (σ.must s.data.toList [40])).must s.data.toList [41]) w4 := hp4
  clear hp4 hk4 q1 g1 HP1 HX1 HP2 HX2 HX3 HP3
  obtain ⟨hs, x, hc, ho, ht⟩ := HP4
  obtain ⟨xs, hown⟩ := ho.or
  have q0 := HX4.out.lq.cl 0 _ rfl
  have q1 := HX4.out.lq.cl 1 _ rfl
  have cv := hc.c13
  have fv := hc.fz 13
  have lb4 := hc.lb
  have HF : Hid (∀ w1 : World, w1.heap[b]? = w4.heap[b]? → w1.cell? ⟨b, 13, none⟩ = some x.vr ∧ w1.frozen? ⟨b, 13, none⟩ = false) := fun w1 h => ⟨(World.cell?_of_block (w := w4) (a := ⟨b, 13, none⟩) h).trans hc.c13, (World.frozen?_of_block (w := w4) (a := ⟨b, 13, none⟩) h).trans (hc.fz 13)⟩
  have HO : Hid ((w4.alloc (.cells #[.int .i64 ta, .slice o mm cp] 210)).drew.ownsRow (b + 1) 210 2 x.vr c.nr xs) := hown.alloc _
  have HN : Hid (∀ j u, [.int .i64 ta, .slice o mm cp][j]? = some u → (w4.alloc (.cells #[.int .i64 ta, .slice o mm cp] 210)).drew.cell? (Addr.add ⟨w4.heap.size, 0, none⟩ j) = some u) := news1d w4 #[.int .i64 ta, .slice o mm cp] 210
  have HVb : Hid (∀ k, x.vr.ownBlock = some k → b + 1 ≤ k) := fun k h => (owns_block hown k h).1
  have h63 : c.nr + 1 ≤ maxLen := by unfold maxLen; omega
  have hby : (c.nr + 1) * 32 ≤ 140737488355328 := by omega
  have hba : b + 1 ≤ (w4.alloc (.cells #[.int .i64 ta, .slice o mm cp] 210)).drew.heap.size := by simp; omega
  have HR : Hid (s.size ≤ 2000 ∧ RC b s x 0 (er ((Sp.run s.data.toList n .list 0 (σ.must s.data.toList [40])).must s.data.toList [41])) (ea ((Sp.run s.data.toList n .list 0 (σ.must s.data.toList [40])).must s.data.toList [41])) w4 ∧ RO b s.data.toList (k) c ((Sp.run s.data.toList n .list 0 (σ.must s.data.toList [40])).must s.data.toList [41]) x w4 ∧ RT s.data.toList x ((Sp.run s.data.toList n .list 0 (σ.must s.data.toList [40])).must s.data.toList [41])) := ⟨hs, hc, ho, ht⟩
  clear hown hs hc ho ht
  go_wp2_with fail
  go_region_law (refine step_append_lies (w4.alloc (.cells #[.int .i64 ta, .slice o mm cp] 210)).drew rfl (.tmp 21) (.tmp 23) 77 rfl (b + 1) 210 i0 (.agg #[.int .i64 0, .slice none 0 0]) 2 32 Tryz.underlying77 hi hz0 hz1 hz2 rfl (by decide) x.vr c.nr xs rfl HO.out ⟨w4.heap.size, 0, none⟩ 1 1 [.int .i64 ta, .slice o mm cp] rfl rfl HN.out (one2 _ _ _ _) (by decide) h63 hby hba _ rfl ?_; intro g cap wz hown1 hgrow hat hlt; have hG := grew_one lb4 HVb.out hgrow hat; have hq := HF.out wz hG.own; obtain ⟨z1, z2⟩ := hq; have HZ : Hid (RS b s 0 (k) { c with nr := c.nr + 1 } ((Sp.run s.data.toList n .list 0 (σ.must s.data.toList [40])).must s.data.toList [41]) (wz.setCell ⟨b, 13, none⟩ (.slice (some ⟨g, 0, none⟩) (c.nr + 1) cap)) ∧ RK b w4 (wz.setCell ⟨b, 13, none⟩ (.slice (some ⟨g, 0, none⟩) (c.nr + 1) cap))) := RS.pushvr HR.out.1 HR.out.2.1 HR.out.2.2.1 HR.out.2.2.2 hG ⟨_, hown1⟩; clear hown1 hgrow hat hlt hG)
  all_goals go_wp2_with fail
  all_goals go_end0
  all_goals have HPz : Hid (RS b s 0 (k) { c with nr := c.nr + 1 } ((Sp.run s.data.toList n .list 0 (σ.must s.data.toList [40])).must s.data.toList [41]) (wz.setCell ⟨b, 13, none⟩ (.slice (some ⟨g, 0, none⟩) (c.nr + 1) cap))) := HZ.out.1
  all_goals have HKz : Hid (RK b w4 (wz.setCell ⟨b, 13, none⟩ (.slice (some ⟨g, 0, none⟩) (c.nr + 1) cap))) := HZ.out.2
  all_goals exact ⟨rfl, HPz.out, (HX4.out.rk.trans HKz.out)⟩

set_option maxRecDepth 100000 in
set_option maxHeartbeats 8000000 in
theorem rchange_any {b : Nat} {s : ByteArray} {n k : Nat} {c : Ct} {σ : Sp.St} {w : World} (IA : Hid (RAll b s n)) (hn : n ≤ 900000) (hm : 32 * Sp.rem s.data.toList σ + 20 ≤ n) (hng : c.ng ≤ 1000000) (HP : Hid (RS b s 0 k c σ w)) :
    Calls Tryz.prog 71 #[.pointer (some ⟨b, 0, none⟩)] w fun r w' => r = .returned (.tuple #[]) ∧ RS b s 0 k { c with ng := c.ng + 1 } (Sp.chgT s.data.toList n σ) w' ∧ RK b w w' := by
  have lb := HP.out.lb
  obtain ⟨i0, hi, hz0, hz1, hz2⟩ := info_parts Tryz.info214
  have HX : Hid (FX b w w.heap.size [.string ⟨#[]⟩, .int .i64 0, .int .i64 0, .int .i64 0] [] (w.alloc (.cells #[.string ⟨#[]⟩, .int .i64 0, .int .i64 0, .int .i64 0] 214))) := FX.new HP.out _ _ _ (by simp)
  have HQ : Hid (RS b s 0 k c σ (w.alloc (.cells #[.string ⟨#[]⟩, .int .i64 0, .int .i64 0, .int .i64 0] 214))) := HP.out.alloc _
  have m1 := Sp.rem_must s.data.toList [61] (σ.nameT s.data.toList)
  have m2 := Sp.rem_nameT s.data.toList σ
  go_enter Tryz.func71, Tryz.ntmps71
  go_wp2_with fail
  refine (rname_any HQ.out k (by omega) (by have := far_nameT s.data.toList σ; omega)).mono ?_
  rintro r w1 ⟨nm, na, rfl, hp1, hk1⟩
  have HP1 : Hid (RS b s 0 k c (σ.nameT s.data.toList) w1) := hp1
  have HX1 : Hid (FX b w w.heap.size [.string ⟨#[]⟩, .int .i64 0, .int .i64 0, .int .i64 0] [] w1) := HX.out.keep hk1
  clear hp1 hk1
  obtain ⟨ta, c2⟩ := HP1.out.tat
  have HX2 : Hid (FX b w w.heap.size [.string nm, .int .i64 na, .int .i64 0, .int .i64 0] [] ((w1.setCell ⟨w.heap.size, 0, none⟩ (.string nm)).setCell ⟨w.heap.size, 1, none⟩ (.int .i64 na))) := (HX1.out.setq lb 0 (by simp) _).setq lb 1 (by simp) _
  have HP2 : Hid (RS b s 0 k c (σ.nameT s.data.toList) ((w1.setCell ⟨w.heap.size, 0, none⟩ (.string nm)).setCell ⟨w.heap.size, 1, none⟩ (.int .i64 na))) := (HP1.out.other _ 0 HX1.out.lq.nf _).other _ 1 (HX1.out.setq lb 0 (by simp) (.string nm)).lq.nf _
  have HX3 : Hid (FX b w w.heap.size [.string nm, .int .i64 na, .int .i64 ta, .int .i64 0] [] (((w1.setCell ⟨w.heap.size, 0, none⟩ (.string nm)).setCell ⟨w.heap.size, 1, none⟩ (.int .i64 na)).setCell ⟨w.heap.size, 2, none⟩ (.int .i64 ta))) := HX2.out.setq lb 2 (by simp) _
  have HP3 : Hid (RS b s 0 k c (σ.nameT s.data.toList) (((w1.setCell ⟨w.heap.size, 0, none⟩ (.string nm)).setCell ⟨w.heap.size, 1, none⟩ (.int .i64 na)).setCell ⟨w.heap.size, 2, none⟩ (.int .i64 ta))) := HP2.out.other _ 2 HX2.out.lq.nf _
  have q0 := HX1.out.lq.cl 0 _ rfl
  have q1 := HX1.out.lq.cl 1 _ rfl
  have q2 := HX1.out.lq.cl 2 _ rfl
  have g0 := HX1.out.lq.fz 0
  have g1 := HX1.out.lq.fz 1
  have g2 := HX1.out.lq.fz 2
  have hne := HX1.out.lq.ne
  go_wp2_with fail
  refine (rmust_any HP3.out [61] k (by have := far_must s.data.toList [61] (σ.nameT s.data.toList); omega)).mono ?_
  rintro r w4 ⟨rfl, hp4, hk4⟩
  have HX4 : Hid (FX b w w.heap.size [.string nm, .int .i64 na, .int .i64 ta, .int .i64 0] [] w4) := HX3.out.keep hk4
  have HP4 : Hid (RS b s 0 k c ((σ.nameT s.data.toList).must s.data.toList [61]) w4) := hp4
  clear hp4 hk4 q0 q1 q2 g0 g1 g2 hne c2 HP1 HX1 HP2 HX2 HX3 HP3
  go_wp2_with fail
  refine (IA.out.expr 0 k c _ _ (by omega) (by show 32 * Sp.rem s.data.toList _ + 9 ≤ n; omega) HP4.out).mono ?_
  rintro r w5 ⟨xq, rfl, hp5, hk5⟩
  have HP5 : Hid (RS b s 0 k c (Sp.run s.data.toList n .expr 0 ((σ.nameT s.data.toList).must s.data.toList [61])) w5) := hp5
  have HX5 : Hid (FX b w w.heap.size [.string nm, .int .i64 na, .int .i64 ta, .int .i64 0] [] w5) := HX4.out.keep hk5
  clear hp5 hk5
  obtain ⟨w6, hw6⟩ : ∃ w6, w6 = w5.setCell ⟨w.heap.size, 3, none⟩ (.int .i64 xq) := ⟨_, rfl⟩
  have HX6 : Hid (FX b w w.heap.size [.string nm, .int .i64 na, .int .i64 ta, .int .i64 xq] [] w6) := by rw [hw6]; exact HX5.out.setq lb 3 (by simp) _
  have HP6 : RS b s 0 k c (Sp.run s.data.toList n .expr 0 ((σ.nameT s.data.toList).must s.data.toList [61])) w6 := by rw [hw6]; exact HP5.out.other _ 3 HX5.out.lq.nf _
  have p3 := HX5.out.lq.cl 3 _ rfl
  have f3 := HX5.out.lq.fz 3
  have HW6 : Hid (w5.setCell ⟨w.heap.size, 3, none⟩ (.int .i64 xq) = w6) := hw6.symm
  clear hw6
  go_wp2_with (rw [HW6.out])
  clear p3 f3 HW6 HX5 HP5 HX4 HP4
  obtain ⟨hs, x, hc, ho, ht⟩ := HP6
  obtain ⟨xs, hown⟩ := ho.og
  have q0 := HX6.out.lq.cl 0 _ rfl
  have q1 := HX6.out.lq.cl 1 _ rfl
  have q2 := HX6.out.lq.cl 2 _ rfl
  have q3 := HX6.out.lq.cl 3 _ rfl
  have cv := hc.c14
  have fv := hc.fz 14
  have lb4 := hc.lb
  have HF : Hid (∀ w1 : World, w1.heap[b]? = w6.heap[b]? → w1.cell? ⟨b, 14, none⟩ = some x.vg ∧ w1.frozen? ⟨b, 14, none⟩ = false) := fun w1 h => ⟨(World.cell?_of_block (w := w6) (a := ⟨b, 14, none⟩) h).trans hc.c14, (World.frozen?_of_block (w := w6) (a := ⟨b, 14, none⟩) h).trans (hc.fz 14)⟩
  have HO : Hid ((w6.alloc (.cells #[.string nm, .int .i64 na, .int .i64 ta, .int .i64 xq] 214)).drew.ownsRow (b + 1) 214 4 x.vg c.ng xs) := hown.alloc _
  have HN : Hid (∀ j u, [.string nm, .int .i64 na, .int .i64 ta, .int .i64 xq][j]? = some u → (w6.alloc (.cells #[.string nm, .int .i64 na, .int .i64 ta, .int .i64 xq] 214)).drew.cell? (Addr.add ⟨w6.heap.size, 0, none⟩ j) = some u) := news1d w6 #[.string nm, .int .i64 na, .int .i64 ta, .int .i64 xq] 214
  have HVb : Hid (∀ k, x.vg.ownBlock = some k → b + 1 ≤ k) := fun k h => (owns_block hown k h).1
  have h63 : c.ng + 1 ≤ maxLen := by unfold maxLen; omega
  have hby : (c.ng + 1) * 40 ≤ 140737488355328 := by omega
  have hba : b + 1 ≤ (w6.alloc (.cells #[.string nm, .int .i64 na, .int .i64 ta, .int .i64 xq] 214)).drew.heap.size := by simp; omega
  have HR : Hid (s.size ≤ 2000 ∧ RC b s x 0 (er (Sp.run s.data.toList n .expr 0 ((σ.nameT s.data.toList).must s.data.toList [61]))) (ea (Sp.run s.data.toList n .expr 0 ((σ.nameT s.data.toList).must s.data.toList [61]))) w6 ∧ RO b s.data.toList (k) c (Sp.run s.data.toList n .expr 0 ((σ.nameT s.data.toList).must s.data.toList [61])) x w6 ∧ RT s.data.toList x (Sp.run s.data.toList n .expr 0 ((σ.nameT s.data.toList).must s.data.toList [61]))) := ⟨hs, hc, ho, ht⟩
  clear hown hs hc ho ht
  go_wp2_with fail
  go_region_law (refine step_append_lies (w6.alloc (.cells #[.string nm, .int .i64 na, .int .i64 ta, .int .i64 xq] 214)).drew rfl (.tmp 26) (.tmp 28) 78 rfl (b + 1) 214 i0 (.agg #[.string ⟨#[]⟩, .int .i64 0, .int .i64 0, .int .i64 0]) 4 40 Tryz.underlying78 hi hz0 hz1 hz2 rfl (by decide) x.vg c.ng xs rfl HO.out ⟨w6.heap.size, 0, none⟩ 1 1 [.string nm, .int .i64 na, .int .i64 ta, .int .i64 xq] rfl rfl HN.out (oneC _ _ _ _) (by decide) h63 hby hba _ rfl ?_; intro g cap wz hown1 hgrow hat hlt; have hG := grew_one lb4 HVb.out hgrow hat; have hq := HF.out wz hG.own; obtain ⟨z1, z2⟩ := hq; have HZ : Hid (RS b s 0 (k) { c with ng := c.ng + 1 } (Sp.run s.data.toList n .expr 0 ((σ.nameT s.data.toList).must s.data.toList [61])) (wz.setCell ⟨b, 14, none⟩ (.slice (some ⟨g, 0, none⟩) (c.ng + 1) cap)) ∧ RK b w6 (wz.setCell ⟨b, 14, none⟩ (.slice (some ⟨g, 0, none⟩) (c.ng + 1) cap))) := RS.pushvg HR.out.1 HR.out.2.1 HR.out.2.2.1 HR.out.2.2.2 hG ⟨_, hown1⟩; clear hown1 hgrow hat hlt hG)
  all_goals go_wp2_with fail
  all_goals go_end0
  all_goals have HPz : Hid (RS b s 0 (k) { c with ng := c.ng + 1 } (Sp.run s.data.toList n .expr 0 ((σ.nameT s.data.toList).must s.data.toList [61])) (wz.setCell ⟨b, 14, none⟩ (.slice (some ⟨g, 0, none⟩) (c.ng + 1) cap))) := HZ.out.1
  all_goals have HKz : Hid (RK b w6 (wz.setCell ⟨b, 14, none⟩ (.slice (some ⟨g, 0, none⟩) (c.ng + 1) cap))) := HZ.out.2
  all_goals exact ⟨rfl, HPz.out, (HX6.out.rk.trans HKz.out)⟩
end Go.Proofs.YtgnncnhkgmhngaaGreatDoor
