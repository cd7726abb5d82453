import Derived.Test.YtgnncnhkgmhngaaGreatDoorR19
namespace Go.Proofs.YtgnncnhkgmhngaaGreatDoor
open Go.RowKit

set_option maxHeartbeats 2000000 in
theorem rinside_gain {b : Nat} {s : ByteArray} {n d k : Nat} {c : Ct} {σ : Sp.St} {w : World} (IA : Hid (RAll b s n)) (hd : d + n + 1 ≤ 1000000) (hm : 32 * Sp.rem s.data.toList (σ.openT s.data.toList d) + 15 ≤ n) (HP : Hid (RS b s d k c σ w)) (hs : σ.is s.data.toList [40] = true) :
    Calls Tryz.prog 206 #[.pointer (some ⟨b, 0, none⟩)] w (RI b s d (k + 1) c ((Sp.run s.data.toList n .query (d + 1) (σ.openT s.data.toList d)).must s.data.toList [41]) w) := by
  go_enter Tryz.func206, Tryz.ntmps206
  go_wp2_with fail
  refine (ris_any HP.out [40]).mono ?_
  rintro r w9 ⟨rfl, rfl⟩
  go_wp2_with fail
  refine (ropen_any HP.out hs (by omega)).mono ?_
  rintro r w2 ⟨rfl, hp2, hk2⟩
  have HP2 : Hid (RS b s (d + 1) (k + 1) c (σ.openT s.data.toList d) w2) := hp2
  have HK2 : Hid (RK b w9 w2) := hk2
  clear hp2 hk2
  go_wp2_with fail
  refine (IA.out.query (d + 1) (k + 1) c _ _ (by omega) hm HP2.out).mono ?_
  rintro r w3 ⟨q3, rfl, hp3, hk3⟩
  have HP3 : Hid (RS b s (d + 1) (k + 1) c (Sp.run s.data.toList n .query (d + 1) (σ.openT s.data.toList d)) w3) := hp3
  have HK3 : Hid (RK b w9 w3) := HK2.out.trans hk3
  clear hp3 hk3
  go_wp2_with fail
  refine (rmust_any HP3.out [41] (k + 1) (by have := far_must s.data.toList [41] (Sp.run s.data.toList n .query (d + 1) (σ.openT s.data.toList d)); omega)).mono ?_
  rintro r w4 ⟨rfl, hp4, hk4⟩
  have HP4 : Hid (RS b s (d + 1) (k + 1) c ((Sp.run s.data.toList n .query (d + 1) (σ.openT s.data.toList d)).must s.data.toList [41]) w4) := hp4
  have HK4 : Hid (RK b w9 w4) := HK3.out.trans hk4
  clear hp4 hk4
  obtain ⟨c6, f6⟩ := HP4.out.opn
  go_wp2_with fail
  go_ret
  exact ⟨_, rfl, HP4.out.deep (d' := d) _ (by omega), HK4.out.set 6 (by decide) _⟩

set_option maxRecDepth 100000 in
set_option maxHeartbeats 8000000 in
theorem rkeyed_true {b : Nat} {s : ByteArray} {d k e : Nat} {c : Ct} {w : World} (kd ts : ByteArray) (ta tn : Int) (HP : Hid (RS b s d k c (.live e) w)) (h : ts.toList = [116, 114, 117, 101]) (hs : (Sp.St.live e).is s.data.toList [116, 114, 117, 101] = true) :
    Calls Tryz.prog 332 #[.pointer (some ⟨b, 0, none⟩), .agg #[.string kd, .int .i64 ta, .slice none 0 0, .int .i64 (-1), .string ts, .string ⟨#[]⟩, .int .i64 tn, .slice none 0 0, .slice none 0 0]] w (RI b s d k c ((Sp.St.live e).step s.data.toList) w) := by
  have lb := HP.out.lb
  have e0 : (ts.toList == [116, 114, 117, 101]) = true := by rw [h]; rfl
  have HX0 : Hid (FX b w w.heap.size [.string ts, .int .i64 ta, .slice none 0 0, .int .i64 (-1), .string ts, .string ⟨#[]⟩, .int .i64 tn, .slice none 0 0, .slice none 0 0] [] (w.alloc (.cells #[.string ts, .int .i64 ta, .slice none 0 0, .int .i64 (-1), .string ts, .string ⟨#[]⟩, .int .i64 tn, .slice none 0 0, .slice none 0 0] 294))) := FX.new HP.out _ _ _ (by simp)
  clear h
  go_enter Tryz.func332, Tryz.ntmps332
  go_wp2_with fail
  refine (rstep_is (HP.out.alloc _) hs).mono ?_
  rintro r w1 ⟨rfl, hp1, hk1⟩
  have HP1 : Hid (RS b s d (k + 1) c ((Sp.St.live e).step s.data.toList) w1) := hp1
  have HX1 : Hid (FX b w w.heap.size [.string ts, .int .i64 ta, .slice none 0 0, .int .i64 (-1), .string ts, .string ⟨#[]⟩, .int .i64 tn, .slice none 0 0, .slice none 0 0] [] w1) := HX0.out.keep hk1
  clear hp1 hk1
  have q0 := HX1.out.lq.cl 0 _ rfl
  have q1 := HX1.out.lq.cl 1 _ rfl
  have q2 := HX1.out.lq.cl 2 _ rfl
  have q3 := HX1.out.lq.cl 3 _ rfl
  have q4 := HX1.out.lq.cl 4 _ rfl
  have q5 := HX1.out.lq.cl 5 _ rfl
  have q6 := HX1.out.lq.cl 6 _ rfl
  have q7 := HX1.out.lq.cl 7 _ rfl
  have q8 := HX1.out.lq.cl 8 _ rfl
  go_wp2_with fail
  refine (rnode_any HP1.out _ _ _ _ _ _ _ _ _ (one9 _ _ _ _ _ _ _ _ _ rfl rfl rfl)).mono ?_
  rintro r wn ⟨qn, rfl, hpn, hkn⟩
  have HPn : Hid (RS b s d k c ((Sp.St.live e).step s.data.toList) wn) := hpn
  have HKn : Hid (RK b w wn) := HX1.out.rk.trans hkn
  clear hpn hkn q0 q1 q2 q3 q4 q5 q6 q7 q8
  go_wp2_with fail
  go_ret
  exact ⟨_, rfl, HPn.out, HKn.out⟩

set_option maxRecDepth 100000 in
set_option maxHeartbeats 8000000 in
theorem rkeyed_false {b : Nat} {s : ByteArray} {d k e : Nat} {c : Ct} {w : World} (kd ts : ByteArray) (ta tn : Int) (HP : Hid (RS b s d k c (.live e) w)) (h : ts.toList = [102, 97, 108, 115, 101]) (hs : (Sp.St.live e).is s.data.toList [102, 97, 108, 115, 101] = true) :
    Calls Tryz.prog 332 #[.pointer (some ⟨b, 0, none⟩), .agg #[.string kd, .int .i64 ta, .slice none 0 0, .int .i64 (-1), .string ts, .string ⟨#[]⟩, .int .i64 tn, .slice none 0 0, .slice none 0 0]] w (RI b s d k c ((Sp.St.live e).step s.data.toList) w) := by
  have lb := HP.out.lb
  have e0 : (ts.toList == [116, 114, 117, 101]) = false := by rw [h]; rfl
  have e1 : (ts.toList == [102, 97, 108, 115, 101]) = true := by rw [h]; rfl
  have HX0 : Hid (FX b w w.heap.size [.string ts, .int .i64 ta, .slice none 0 0, .int .i64 (-1), .string ts, .string ⟨#[]⟩, .int .i64 tn, .slice none 0 0, .slice none 0 0] [] (w.alloc (.cells #[.string ts, .int .i64 ta, .slice none 0 0, .int .i64 (-1), .string ts, .string ⟨#[]⟩, .int .i64 tn, .slice none 0 0, .slice none 0 0] 294))) := FX.new HP.out _ _ _ (by simp)
  clear h
  go_enter Tryz.func332, Tryz.ntmps332
  go_wp2_with fail
  refine (rstep_is (HP.out.alloc _) hs).mono ?_
  rintro r w1 ⟨rfl, hp1, hk1⟩
  have HP1 : Hid (RS b s d (k + 1) c ((Sp.St.live e).step s.data.toList) w1) := hp1
  have HX1 : Hid (FX b w w.heap.size [.string ts, .int .i64 ta, .slice none 0 0, .int .i64 (-1), .string ts, .string ⟨#[]⟩, .int .i64 tn, .slice none 0 0, .slice none 0 0] [] w1) := HX0.out.keep hk1
  clear hp1 hk1
  have q0 := HX1.out.lq.cl 0 _ rfl
  have q1 := HX1.out.lq.cl 1 _ rfl
  have q2 := HX1.out.lq.cl 2 _ rfl
  have q3 := HX1.out.lq.cl 3 _ rfl
  have q4 := HX1.out.lq.cl 4 _ rfl
  have q5 := HX1.out.lq.cl 5 _ rfl
  have q6 := HX1.out.lq.cl 6 _ rfl
  have q7 := HX1.out.lq.cl 7 _ rfl
  have q8 := HX1.out.lq.cl 8 _ rfl
  go_wp2_with fail
  refine (rnode_any HP1.out _ _ _ _ _ _ _ _ _ (one9 _ _ _ _ _ _ _ _ _ rfl rfl rfl)).mono ?_
  rintro r wn ⟨qn, rfl, hpn, hkn⟩
  have HPn : Hid (RS b s d k c ((Sp.St.live e).step s.data.toList) wn) := hpn
  have HKn : Hid (RK b w wn) := HX1.out.rk.trans hkn
  clear hpn hkn q0 q1 q2 q3 q4 q5 q6 q7 q8
  go_wp2_with fail
  go_ret
  exact ⟨_, rfl, HPn.out, HKn.out⟩

set_option maxRecDepth 100000 in
set_option maxHeartbeats 8000000 in
theorem rkeyed_null {b : Nat} {s : ByteArray} {d k e : Nat} {c : Ct} {w : World} (kd ts : ByteArray) (ta tn : Int) (HP : Hid (RS b s d k c (.live e) w)) (h : ts.toList = [110, 117, 108, 108]) (hs : (Sp.St.live e).is s.data.toList [110, 117, 108, 108] = true) :
    Calls Tryz.prog 332 #[.pointer (some ⟨b, 0, none⟩), .agg #[.string kd, .int .i64 ta, .slice none 0 0, .int .i64 (-1), .string ts, .string ⟨#[]⟩, .int .i64 tn, .slice none 0 0, .slice none 0 0]] w (RI b s d k c ((Sp.St.live e).step s.data.toList) w) := by
  have lb := HP.out.lb
  have e0 : (ts.toList == [116, 114, 117, 101]) = false := by rw [h]; rfl
  have e1 : (ts.toList == [102, 97, 108, 115, 101]) = false := by rw [h]; rfl
  have e2 : (ts.toList == [110, 117, 108, 108]) = true := by rw [h]; rfl
  have HX0 : Hid (FX b w w.heap.size [.string ts, .int .i64 ta, .slice none 0 0, .int .i64 (-1), .string ts, .string ⟨#[]⟩, .int .i64 tn, .slice none 0 0, .slice none 0 0] [] (w.alloc (.cells #[.string ts, .int .i64 ta, .slice none 0 0, .int .i64 (-1), .string ts, .string ⟨#[]⟩, .int .i64 tn, .slice none 0 0, .slice none 0 0] 294))) := FX.new HP.out _ _ _ (by simp)
  clear h
  go_enter Tryz.func332, Tryz.ntmps332
  go_wp2_with fail
  refine (rstep_is (HP.out.alloc _) hs).mono ?_
  rintro r w1 ⟨rfl, hp1, hk1⟩
  have HP1 : Hid (RS b s d (k + 1) c ((Sp.St.live e).step s.data.toList) w1) := hp1
  have HX1 : Hid (FX b w w.heap.size [.string ts, .int .i64 ta, .slice none 0 0, .int .i64 (-1), .string ts, .string ⟨#[]⟩, .int .i64 tn, .slice none 0 0, .slice none 0 0] [] w1) := HX0.out.keep hk1
  clear hp1 hk1
  have q0 := HX1.out.lq.cl 0 _ rfl
  have q1 := HX1.out.lq.cl 1 _ rfl
  have q2 := HX1.out.lq.cl 2 _ rfl
  have q3 := HX1.out.lq.cl 3 _ rfl
  have q4 := HX1.out.lq.cl 4 _ rfl
  have q5 := HX1.out.lq.cl 5 _ rfl
  have q6 := HX1.out.lq.cl 6 _ rfl
  have q7 := HX1.out.lq.cl 7 _ rfl
  have q8 := HX1.out.lq.cl 8 _ rfl
  go_wp2_with fail
  refine (rnode_any HP1.out _ _ _ _ _ _ _ _ _ (one9 _ _ _ _ _ _ _ _ _ rfl rfl rfl)).mono ?_
  rintro r wn ⟨qn, rfl, hpn, hkn⟩
  have HPn : Hid (RS b s d k c ((Sp.St.live e).step s.data.toList) wn) := hpn
  have HKn : Hid (RK b w wn) := HX1.out.rk.trans hkn
  clear hpn hkn q0 q1 q2 q3 q4 q5 q6 q7 q8
  go_wp2_with fail
  go_ret
  exact ⟨_, rfl, HPn.out, HKn.out⟩

set_option maxRecDepth 100000 in
set_option maxHeartbeats 8000000 in
theorem rkeyed_ask {b : Nat} {s : ByteArray} {n d k e : Nat} {c : Ct} {w : World} (kd ts : ByteArray) (ta tn : Int) (IA : Hid (RAll b s n)) (hd : d + (n + 1) ≤ 1000000) (hm : 32 * Sp.rem s.data.toList (.live e) + 2 ≤ n + 1) (HP : Hid (RS b s d k c (.live e) w)) (h : ts.toList = [40]) (hs : (Sp.St.live e).is s.data.toList [40] = true) (ha : Sp.St.asks s.data.toList (.live e) = true) :
    Calls Tryz.prog 332 #[.pointer (some ⟨b, 0, none⟩), .agg #[.string kd, .int .i64 ta, .slice none 0 0, .int .i64 (-1), .string ts, .string ⟨#[]⟩, .int .i64 tn, .slice none 0 0, .slice none 0 0]] w (RI b s d k c ((Sp.run s.data.toList n .query (d + 1) ((Sp.St.live e).openT s.data.toList d)).must s.data.toList [41]) w) := by
  have lb := HP.out.lb
  have e0 : (ts.toList == [116, 114, 117, 101]) = false := by rw [h]; rfl
  have e1 : (ts.toList == [102, 97, 108, 115, 101]) = false := by rw [h]; rfl
  have e2 : (ts.toList == [110, 117, 108, 108]) = false := by rw [h]; rfl
  have e3 : (ts.toList == [40]) = true := by rw [h]; rfl
  have HX0 : Hid (FX b w w.heap.size [.string ts, .int .i64 ta, .slice none 0 0, .int .i64 (-1), .string ts, .string ⟨#[]⟩, .int .i64 tn, .slice none 0 0, .slice none 0 0] [] (w.alloc (.cells #[.string ts, .int .i64 ta, .slice none 0 0, .int .i64 (-1), .string ts, .string ⟨#[]⟩, .int .i64 tn, .slice none 0 0, .slice none 0 0] 294))) := FX.new HP.out _ _ _ (by simp)
  clear h
  go_enter Tryz.func332, Tryz.ntmps332
  go_wp2_with fail
  have h1 := Sp.rem_openT_lt (d := d) hs
  refine (rasks_any (HP.out.alloc _) hs).mono ?_
  rintro r w1 ⟨rfl, hp1, hk1⟩
  rw [ha]
  have HP1 : Hid (RS b s d k c (.live e) w1) := hp1
  have HX1 : Hid (FX b w w.heap.size [.string ts, .int .i64 ta, .slice none 0 0, .int .i64 (-1), .string ts, .string ⟨#[]⟩, .int .i64 tn, .slice none 0 0, .slice none 0 0] [] w1) := HX0.out.keep hk1
  clear hp1 hk1
  have q0 := HX1.out.lq.cl 0 _ rfl
  have g0 := HX1.out.lq.fz 0
  have HX2 : Hid (FX b w w.heap.size [.string ⟨#[113, 117, 101, 114, 121]⟩, .int .i64 ta, .slice none 0 0, .int .i64 (-1), .string ts, .string ⟨#[]⟩, .int .i64 tn, .slice none 0 0, .slice none 0 0] [] (w1.setCell ⟨w.heap.size, 0, none⟩ (.string ⟨#[113, 117, 101, 114, 121]⟩))) := HX1.out.setq lb 0 (by simp) _
  have HP2 : Hid (RS b s d k c (.live e) (w1.setCell ⟨w.heap.size, 0, none⟩ (.string ⟨#[113, 117, 101, 114, 121]⟩))) := HP1.out.other _ 0 HX1.out.lq.nf _
  go_wp2_with fail
  refine (rinside_gain IA (by omega) (by omega) HP2 hs).mono ?_
  rintro r w3 ⟨q3, rfl, hp3, hk3⟩
  have HP3 : Hid (RS b s d (k + 1) c ((Sp.run s.data.toList n .query (d + 1) ((Sp.St.live e).openT s.data.toList d)).must s.data.toList [41]) w3) := hp3
  have HX3 : Hid (FX b w w.heap.size [.string ⟨#[113, 117, 101, 114, 121]⟩, .int .i64 ta, .slice none 0 0, .int .i64 (-1), .string ts, .string ⟨#[]⟩, .int .i64 tn, .slice none 0 0, .slice none 0 0] [] w3) := HX2.out.keep hk3
  clear hp3 hk3 q0 g0
  have HX4 : Hid (FX b w w.heap.size [.string ⟨#[113, 117, 101, 114, 121]⟩, .int .i64 ta, .slice none 0 0, .int .i64 q3, .string ts, .string ⟨#[]⟩, .int .i64 tn, .slice none 0 0, .slice none 0 0] [] (w3.setCell ⟨w.heap.size, 3, none⟩ (.int .i64 q3))) := HX3.out.setq lb 3 (by simp) _
  have HP4 : Hid (RS b s d (k + 1) c ((Sp.run s.data.toList n .query (d + 1) ((Sp.St.live e).openT s.data.toList d)).must s.data.toList [41]) (w3.setCell ⟨w.heap.size, 3, none⟩ (.int .i64 q3))) := HP3.out.other _ 3 HX3.out.lq.nf _
  have g3 := HX3.out.lq.fz 3
  have q0 := HX3.out.lq.cl 0 _ rfl
  have q1 := HX3.out.lq.cl 1 _ rfl
  have q2 := HX3.out.lq.cl 2 _ rfl
  have q3' := HX3.out.lq.cl 3 _ rfl
  have q4 := HX3.out.lq.cl 4 _ rfl
  have q5 := HX3.out.lq.cl 5 _ rfl
  have q6 := HX3.out.lq.cl 6 _ rfl
  have q7 := HX3.out.lq.cl 7 _ rfl
  have q8 := HX3.out.lq.cl 8 _ rfl
  go_wp2_with fail
  refine (rnode_any HP4.out _ _ _ _ _ _ _ _ _ (one9 _ _ _ _ _ _ _ _ _ rfl rfl rfl)).mono ?_
  rintro r wn ⟨qn, rfl, hpn, hkn⟩
  have HPn : Hid (RS b s d k c ((Sp.run s.data.toList n .query (d + 1) ((Sp.St.live e).openT s.data.toList d)).must s.data.toList [41]) wn) := hpn
  have HKn : Hid (RK b w wn) := HX4.out.rk.trans hkn
  clear hpn hkn q0 q1 q2 q3' q4 q5 q6 q7 q8
  go_wp2_with fail
  go_ret
  exact ⟨_, rfl, HPn.out, HKn.out⟩

set_option maxRecDepth 100000 in
set_option maxHeartbeats 8000000 in
theorem rkeyed_paren {b : Nat} {s : ByteArray} {n d k e : Nat} {c : Ct} {w : World} (kd ts : ByteArray) (ta tn : Int) (IA : Hid (RAll b s n)) (hd : d + (n + 1) ≤ 1000000) (hm : 32 * Sp.rem s.data.toList (.live e) + 2 ≤ n + 1) (HP : Hid (RS b s d k c (.live e) w)) (h : ts.toList = [40]) (hs : (Sp.St.live e).is s.data.toList [40] = true) (ha : Sp.St.asks s.data.toList (.live e) = false) :
    Calls Tryz.prog 332 #[.pointer (some ⟨b, 0, none⟩), .agg #[.string kd, .int .i64 ta, .slice none 0 0, .int .i64 (-1), .string ts, .string ⟨#[]⟩, .int .i64 tn, .slice none 0 0, .slice none 0 0]] w (RI b s d k c ((Sp.run s.data.toList n .expr (d + 1) ((Sp.St.live e).openT s.data.toList d)).must s.data.toList [41]) w) := by
  have lb := HP.out.lb
  have e0 : (ts.toList == [116, 114, 117, 101]) = false := by rw [h]; rfl
  have e1 : (ts.toList == [102, 97, 108, 115, 101]) = false := by rw [h]; rfl
  have e2 : (ts.toList == [110, 117, 108, 108]) = false := by rw [h]; rfl
  have e3 : (ts.toList == [40]) = true := by rw [h]; rfl
  have HX0 : Hid (FX b w w.heap.size [.string ts, .int .i64 ta, .slice none 0 0, .int .i64 (-1), .string ts, .string ⟨#[]⟩, .int .i64 tn, .slice none 0 0, .slice none 0 0] [] (w.alloc (.cells #[.string ts, .int .i64 ta, .slice none 0 0, .int .i64 (-1), .string ts, .string ⟨#[]⟩, .int .i64 tn, .slice none 0 0, .slice none 0 0] 294))) := FX.new HP.out _ _ _ (by simp)
  clear h
  go_enter Tryz.func332, Tryz.ntmps332
  go_wp2_with fail
  have h1 := Sp.rem_openT_lt (d := d) hs
  refine (rasks_any (HP.out.alloc _) hs).mono ?_
  rintro r w1 ⟨rfl, hp1, hk1⟩
  rw [ha]
  have HP1 : Hid (RS b s d k c (.live e) w1) := hp1
  have HK1 : Hid (RK b w w1) := (HX0.out.keep hk1).rk
  clear hp1 hk1
  go_wp2_with fail
  refine (ropen_any HP1.out hs (by omega)).mono ?_
  rintro r w2 ⟨rfl, hp2, hk2⟩
  have HP2 : Hid (RS b s (d + 1) (k + 1) c ((Sp.St.live e).openT s.data.toList d) w2) := hp2
  have HK2 : Hid (RK b w w2) := HK1.out.trans hk2
  clear hp2 hk2
  have c7 := HP2.out.err
  cases ho : (Sp.St.live e).openT s.data.toList d with
  | dead y a =>
    rw [ho] at HP2 c7
    have hz := er_dead HP2.out
    have HV : Hid ((Sp.run s.data.toList n .expr (d + 1) (.dead y a)).must s.data.toList [41] = (Sp.St.dead y a).must s.data.toList [41]) := by show _ = _; rw [run_dead]
    have HPe := HP2
    have HKe := HK2
    go_wp2_with fail
    refine (rmust_any HPe.out [41] k (by have := far_must s.data.toList [41] (Sp.St.dead y a); omega)).mono ?_
    rintro r w4 ⟨rfl, hp4, hk4⟩
    have HP4 : Hid (RS b s (d + 1) k c ((Sp.St.dead y a).must s.data.toList [41]) w4) := hp4
    have HK4 : Hid (RK b w w4) := HKe.out.trans hk4
    clear hp4 hk4
    obtain ⟨c6, f6⟩ := HP4.out.opn
    go_wp2_with fail
    go_ret
    exact ⟨_, rfl, by rw [ho, HV.out]; exact HP4.out.deep (d' := d) _ (by omega), HK4.out.set 6 (by decide) _⟩
  | live e2 =>
    rw [ho] at HP2 c7 h1
    have hz : (((er (.live e2) : Nat) : Int) == 0) = true := rfl
    go_wp2_with fail
    refine (IA.out.expr (d + 1) (k + 1) c _ _ (by omega) (by show 32 * Sp.rem s.data.toList _ + 9 ≤ n; omega) HP2.out).mono ?_
    rintro r w3 ⟨q3, rfl, hp3, hk3⟩
    have HPe : Hid (RS b s (d + 1) (k + 1) c (Sp.run s.data.toList n .expr (d + 1) (.live e2)) w3) := hp3
    have HKe : Hid (RK b w w3) := HK2.out.trans hk3
    clear hp3 hk3 c7
    go_wp2_with fail
    refine (rmust_any HPe.out [41] k (by have := far_must s.data.toList [41] (Sp.run s.data.toList n .expr (d + 1) (.live e2)); omega)).mono ?_
    rintro r w4 ⟨rfl, hp4, hk4⟩
    have HP4 : Hid (RS b s (d + 1) k c ((Sp.run s.data.toList n .expr (d + 1) (.live e2)).must s.data.toList [41]) w4) := hp4
    have HK4 : Hid (RK b w w4) := HKe.out.trans hk4
    clear hp4 hk4
    obtain ⟨c6, f6⟩ := HP4.out.opn
    go_wp2_with fail
    go_ret
    exact ⟨_, rfl, by rw [ho]; exact HP4.out.deep (d' := d) _ (by omega), HK4.out.set 6 (by decide) _⟩

set_option maxRecDepth 100000 in
set_option maxHeartbeats 8000000 in
theorem rkeyed_exists {b : Nat} {s : ByteArray} {n d k e : Nat} {c : Ct} {w : World} (kd ts : ByteArray) (ta tn : Int) (IA : Hid (RAll b s n)) (hd : d + (n + 1) ≤ 1000000) (hm : 32 * Sp.rem s.data.toList (.live e) + 2 ≤ n + 1) (HP : Hid (RS b s d k c (.live e) w)) (h : ts.toList = [101, 120, 105, 115, 116, 115]) (hs : (Sp.St.live e).is s.data.toList [101, 120, 105, 115, 116, 115] = true) :
    Calls Tryz.prog 332 #[.pointer (some ⟨b, 0, none⟩), .agg #[.string kd, .int .i64 ta, .slice none 0 0, .int .i64 (-1), .string ts, .string ⟨#[]⟩, .int .i64 tn, .slice none 0 0, .slice none 0 0]] w (RI b s d k c ((Sp.run s.data.toList n .query (d + 1) (((Sp.St.live e).step s.data.toList).opened s.data.toList [40] d)).must s.data.toList [41]) w) := by
  have lb := HP.out.lb
  have e0 : (ts.toList == [116, 114, 117, 101]) = false := by rw [h]; rfl
  have e1 : (ts.toList == [102, 97, 108, 115, 101]) = false := by rw [h]; rfl
  have e2 : (ts.toList == [110, 117, 108, 108]) = false := by rw [h]; rfl
  have e3 : (ts.toList == [40]) = false := by rw [h]; rfl
  have e4 : (ts.toList == [101, 120, 105, 115, 116, 115]) = true := by rw [h]; rfl
  have HX0 : Hid (FX b w w.heap.size [.string ts, .int .i64 ta, .slice none 0 0, .int .i64 (-1), .string ts, .string ⟨#[]⟩, .int .i64 tn, .slice none 0 0, .slice none 0 0] [] (w.alloc (.cells #[.string ts, .int .i64 ta, .slice none 0 0, .int .i64 (-1), .string ts, .string ⟨#[]⟩, .int .i64 tn, .slice none 0 0, .slice none 0 0] 294))) := FX.new HP.out _ _ _ (by simp)
  clear h
  go_enter Tryz.func332, Tryz.ntmps332
  go_wp2_with fail
  have h1 := Sp.rem_step_lt hs
  have h2 := Sp.rem_opened s.data.toList [40] d ((Sp.St.live e).step s.data.toList)
  refine (rstep_is (HP.out.alloc _) hs).mono ?_
  rintro r w1 ⟨rfl, hp1, hk1⟩
  have HP1 : Hid (RS b s d (k + 1) c ((Sp.St.live e).step s.data.toList) w1) := hp1
  have HX1 : Hid (FX b w w.heap.size [.string ts, .int .i64 ta, .slice none 0 0, .int .i64 (-1), .string ts, .string ⟨#[]⟩, .int .i64 tn, .slice none 0 0, .slice none 0 0] [] w1) := HX0.out.keep hk1
  clear hp1 hk1
  go_wp2_with fail
  refine (rinside_any IA (by omega) (by omega) HP1).mono ?_
  rintro r w3 ⟨q3, rfl, hp3, hk3⟩
  have HP3 : Hid (RS b s d (k + 1) c ((Sp.run s.data.toList n .query (d + 1) (((Sp.St.live e).step s.data.toList).opened s.data.toList [40] d)).must s.data.toList [41]) w3) := hp3
  have HX3 : Hid (FX b w w.heap.size [.string ts, .int .i64 ta, .slice none 0 0, .int .i64 (-1), .string ts, .string ⟨#[]⟩, .int .i64 tn, .slice none 0 0, .slice none 0 0] [] w3) := HX1.out.keep hk3
  clear hp3 hk3
  have HX4 : Hid (FX b w w.heap.size [.string ts, .int .i64 ta, .slice none 0 0, .int .i64 q3, .string ts, .string ⟨#[]⟩, .int .i64 tn, .slice none 0 0, .slice none 0 0] [] (w3.setCell ⟨w.heap.size, 3, none⟩ (.int .i64 q3))) := HX3.out.setq lb 3 (by simp) _
  have HP4 : Hid (RS b s d (k + 1) c ((Sp.run s.data.toList n .query (d + 1) (((Sp.St.live e).step s.data.toList).opened s.data.toList [40] d)).must s.data.toList [41]) (w3.setCell ⟨w.heap.size, 3, none⟩ (.int .i64 q3))) := HP3.out.other _ 3 HX3.out.lq.nf _
  have g3 := HX3.out.lq.fz 3
  have q0 := HX3.out.lq.cl 0 _ rfl
  have q1 := HX3.out.lq.cl 1 _ rfl
  have q2 := HX3.out.lq.cl 2 _ rfl
  have q3' := HX3.out.lq.cl 3 _ rfl
  have q4 := HX3.out.lq.cl 4 _ rfl
  have q5 := HX3.out.lq.cl 5 _ rfl
  have q6 := HX3.out.lq.cl 6 _ rfl
  have q7 := HX3.out.lq.cl 7 _ rfl
  have q8 := HX3.out.lq.cl 8 _ rfl
  go_wp2_with fail
  refine (rnode_any HP4.out _ _ _ _ _ _ _ _ _ (one9 _ _ _ _ _ _ _ _ _ rfl rfl rfl)).mono ?_
  rintro r wn ⟨qn, rfl, hpn, hkn⟩
  have HPn : Hid (RS b s d k c ((Sp.run s.data.toList n .query (d + 1) (((Sp.St.live e).step s.data.toList).opened s.data.toList [40] d)).must s.data.toList [41]) wn) := hpn
  have HKn : Hid (RK b w wn) := HX4.out.rk.trans hkn
  clear hpn hkn q0 q1 q2 q3' q4 q5 q6 q7 q8
  go_wp2_with fail
  go_ret
  exact ⟨_, rfl, HPn.out, HKn.out⟩

set_option maxRecDepth 100000 in
set_option maxHeartbeats 8000000 in
theorem rkeyed_coalesce {b : Nat} {s : ByteArray} {n d k e : Nat} {c : Ct} {w : World} (kd ts : ByteArray) (ta tn : Int) (IA : Hid (RAll b s n)) (hd : d + (n + 1) ≤ 1000000) (hm : 32 * Sp.rem s.data.toList (.live e) + 2 ≤ n + 1) (HP : Hid (RS b s d k c (.live e) w)) (h : ts.toList = [99, 111, 97, 108, 101, 115, 99, 101]) (hs : (Sp.St.live e).is s.data.toList [99, 111, 97, 108, 101, 115, 99, 101] = true) :
    Calls Tryz.prog 332 #[.pointer (some ⟨b, 0, none⟩), .agg #[.string kd, .int .i64 ta, .slice none 0 0, .int .i64 (-1), .string ts, .string ⟨#[]⟩, .int .i64 tn, .slice none 0 0, .slice none 0 0]] w (RI b s d k c ((Sp.run s.data.toList n .list (d + 1) (((Sp.St.live e).step s.data.toList).opened s.data.toList [40] d)).must s.data.toList [41]) w) := by
  have lb := HP.out.lb
  have e0 : (ts.toList == [116, 114, 117, 101]) = false := by rw [h]; rfl
  have e1 : (ts.toList == [102, 97, 108, 115, 101]) = false := by rw [h]; rfl
  have e2 : (ts.toList == [110, 117, 108, 108]) = false := by rw [h]; rfl
  have e3 : (ts.toList == [40]) = false := by rw [h]; rfl
  have e4 : (ts.toList == [101, 120, 105, 115, 116, 115]) = false := by rw [h]; rfl
  have e5 : (ts.toList == [99, 111, 97, 108, 101, 115, 99, 101]) = true := by rw [h]; rfl
  have HX0 : Hid (FX b w w.heap.size [.string ts, .int .i64 ta, .slice none 0 0, .int .i64 (-1), .string ts, .string ⟨#[]⟩, .int .i64 tn, .slice none 0 0, .slice none 0 0] [] (w.alloc (.cells #[.string ts, .int .i64 ta, .slice none 0 0, .int .i64 (-1), .string ts, .string ⟨#[]⟩, .int .i64 tn, .slice none 0 0, .slice none 0 0] 294))) := FX.new HP.out _ _ _ (by simp)
  clear h
  go_enter Tryz.func332, Tryz.ntmps332
  go_wp2_with fail
  have h1 := Sp.rem_step_lt hs
  refine (rstep_is (HP.out.alloc _) hs).mono ?_
  rintro r w1 ⟨rfl, hp1, hk1⟩
  have HP1 : Hid (RS b s d (k + 1) c ((Sp.St.live e).step s.data.toList) w1) := hp1
  have HX1 : Hid (FX b w w.heap.size [.string ts, .int .i64 ta, .slice none 0 0, .int .i64 (-1), .string ts, .string ⟨#[]⟩, .int .i64 tn, .slice none 0 0, .slice none 0 0] [] w1) := HX0.out.keep hk1
  clear hp1 hk1
  obtain ⟨σ1, hσ1⟩ : ∃ σ1, (Sp.St.live e).step s.data.toList = σ1 := ⟨_, rfl⟩
  rw [hσ1] at HP1 h1
  go_wp2_with fail
  refine (ris_any HP1.out [40]).mono ?_
  rintro r w9 ⟨rfl, rfl⟩
  cases hp : σ1.is s.data.toList [40]
  · have HV : Hid ((Sp.run s.data.toList n .list (d + 1) (σ1.opened s.data.toList [40] d)).must s.data.toList [41] = σ1.fail s.data.toList 2) := by
      show _ = _
      have e : σ1.opened s.data.toList [40] d = σ1.fail s.data.toList 2 := by rw [Sp.St.opened, hp]; rfl
      rw [e]
      have : ∃ x a, σ1.fail s.data.toList 2 = .dead x a := by cases σ1 <;> exact ⟨_, _, rfl⟩
      obtain ⟨x, a, hx⟩ := this
      rw [hx, run_dead]; rfl
    go_wp2_with fail
    refine (rfail_any HP1.out 2 (by decide) k (by have := far_fail s.data.toList 2 σ1; omega)).mono ?_
    rintro r w2 ⟨rfl, hp2, hk2⟩
    have HP2 : Hid (RS b s d k c (σ1.fail s.data.toList 2) w2) := hp2
    have HK2 : Hid (RK b w w2) := HX1.out.rk.trans hk2
    clear hp2 hk2
    go_wp2_with fail
    go_ret
    exact ⟨_, rfl, by rw [hσ1, HV.out]; exact HP2.out, HK2.out⟩
  · have h2 := Sp.rem_openT_lt (d := d) hp
    have hop := opened_is (d := d) hp
    go_wp2_with fail
    refine (ropen_any HP1.out hp (by omega)).mono ?_
    rintro r w2 ⟨rfl, hp2, hk2⟩
    have HP2 : Hid (RS b s (d + 1) (k + 2) c (σ1.openT s.data.toList d) w2) := hp2
    have HX2 : Hid (FX b w w.heap.size [.string ts, .int .i64 ta, .slice none 0 0, .int .i64 (-1), .string ts, .string ⟨#[]⟩, .int .i64 tn, .slice none 0 0, .slice none 0 0] [] w2) := HX1.out.keep hk2
    clear hp2 hk2
    have c7 := HP2.out.err
    cases ho : σ1.openT s.data.toList d with
    | dead y a =>
      rw [ho] at HP2 c7
      have hz := er_dead HP2.out
      have HV : Hid ((Sp.run s.data.toList n .list (d + 1) (.dead y a)).must s.data.toList [41] = (Sp.St.dead y a).must s.data.toList [41]) := by show _ = _; rw [run_dead]
      obtain ⟨vi, hvi0⟩ : ∃ vi : Value, vi = .slice none 0 0 := ⟨_, rfl⟩
      have hvi : vi.oneCell' = true := by rw [hvi0]; rfl
      have HPe := HP2
      have HXe : Hid (FX b w w.heap.size [.string ts, .int .i64 ta, vi, .int .i64 (-1), .string ts, .string ⟨#[]⟩, .int .i64 tn, .slice none 0 0, .slice none 0 0] [] w2) := by rw [hvi0]; exact HX2.out
      clear hvi0
      go_wp2_with fail
      refine (rmust_any HPe.out [41] (k + 1) (by have := far_must s.data.toList [41] (Sp.St.dead y a); omega)).mono ?_
      rintro r w4 ⟨rfl, hp4, hk4⟩
      have HP4 : Hid (RS b s (d + 1) (k + 1) c ((Sp.St.dead y a).must s.data.toList [41]) w4) := hp4
      have HX4 : Hid (FX b w w.heap.size [.string ts, .int .i64 ta, vi, .int .i64 (-1), .string ts, .string ⟨#[]⟩, .int .i64 tn, .slice none 0 0, .slice none 0 0] [] w4) := HXe.out.keep hk4
      clear hp4 hk4
      obtain ⟨c6, f6⟩ := HP4.out.opn
      have lb4 := HX4.out.lb
      have hne : b ≠ w.heap.size := by omega
      have hne' : w.heap.size ≠ b := by omega
      have q0 := HX4.out.lq.cl 0 _ rfl
      have q1 := HX4.out.lq.cl 1 _ rfl
      have q2 := HX4.out.lq.cl 2 _ rfl
      have q3 := HX4.out.lq.cl 3 _ rfl
      have q4 := HX4.out.lq.cl 4 _ rfl
      have q5 := HX4.out.lq.cl 5 _ rfl
      have q6 := HX4.out.lq.cl 6 _ rfl
      have q7 := HX4.out.lq.cl 7 _ rfl
      have q8 := HX4.out.lq.cl 8 _ rfl
      have HP5 : Hid (RS b s d (k + 1) c ((Sp.St.dead y a).must s.data.toList [41]) (w4.setCell ⟨b, 6, none⟩ (.int .i64 (d : Int)))) := HP4.out.deep (d' := d) _ rfl
      have HX5 : Hid (FX b w w.heap.size [.string ts, .int .i64 ta, vi, .int .i64 (-1), .string ts, .string ⟨#[]⟩, .int .i64 tn, .slice none 0 0, .slice none 0 0] [] (w4.setCell ⟨b, 6, none⟩ (.int .i64 (d : Int)))) := HX4.out.keep ((RK.refl b w4).set 6 (by decide) _)
      go_wp2_with fail
      refine (rnode_any HP5.out _ _ _ _ _ _ _ _ _ (one9 _ _ _ _ _ _ _ _ _ hvi rfl rfl)).mono ?_
      rintro r wn ⟨qn, rfl, hpn, hkn⟩
      have HPn : Hid (RS b s d k c ((Sp.St.dead y a).must s.data.toList [41]) wn) := hpn
      have HKn : Hid (RK b w wn) := HX5.out.rk.trans hkn
      clear hpn hkn q0 q1 q2 q3 q4 q5 q6 q7 q8
      go_wp2_with fail
      go_ret
      exact ⟨_, rfl, by rw [hσ1, hop, ho, HV.out]; exact HPn.out, HKn.out⟩
    | live e2 =>
      rw [ho] at HP2 c7 h2
      have hz : (((er (.live e2) : Nat) : Int) == 0) = true := rfl
      go_wp2_with fail
      refine (IA.out.list (d + 1) (k + 2) c _ _ (by omega) (by omega) HP2.out).mono ?_
      rintro r w3 ⟨ol, ml, cl, rfl, hp3, hk3⟩
      have HP3 : Hid (RS b s (d + 1) (k + 2) c (Sp.run s.data.toList n .list (d + 1) (.live e2)) w3) := hp3
      have HX3 : Hid (FX b w w.heap.size [.string ts, .int .i64 ta, .slice none 0 0, .int .i64 (-1), .string ts, .string ⟨#[]⟩, .int .i64 tn, .slice none 0 0, .slice none 0 0] [] w3) := HX2.out.keep hk3
      clear hp3 hk3 c7
      have g2 := HX3.out.lq.fz 2
      have q2 := HX3.out.lq.cl 2 _ rfl
      obtain ⟨we, hwe⟩ : ∃ we, we = w3.setCell ⟨w.heap.size, 2, none⟩ (.slice ol ml cl) := ⟨_, rfl⟩
      obtain ⟨vi, hvi0⟩ : ∃ vi : Value, vi = .slice ol ml cl := ⟨_, rfl⟩
      have hvi : vi.oneCell' = true := by rw [hvi0]; rfl
      have HPe : Hid (RS b s (d + 1) (k + 2) c (Sp.run s.data.toList n .list (d + 1) (.live e2)) we) := by rw [hwe]; exact HP3.out.other _ 2 HX3.out.lq.nf _
      have HXe : Hid (FX b w w.heap.size [.string ts, .int .i64 ta, vi, .int .i64 (-1), .string ts, .string ⟨#[]⟩, .int .i64 tn, .slice none 0 0, .slice none 0 0] [] we) := by rw [hwe, hvi0]; exact HX3.out.setq lb 2 (by simp) _
      clear hvi0
      go_wp2_with fail
      rw [← hwe]
      clear q2 g2
      refine (rmust_any HPe.out [41] (k + 1) (by have := far_must s.data.toList [41] (Sp.run s.data.toList n .list (d + 1) (.live e2)); omega)).mono ?_
      rintro r w4 ⟨rfl, hp4, hk4⟩
      have HP4 : Hid (RS b s (d + 1) (k + 1) c ((Sp.run s.data.toList n .list (d + 1) (.live e2)).must s.data.toList [41]) w4) := hp4
      have HX4 : Hid (FX b w w.heap.size [.string ts, .int .i64 ta, vi, .int .i64 (-1), .string ts, .string ⟨#[]⟩, .int .i64 tn, .slice none 0 0, .slice none 0 0] [] w4) := HXe.out.keep hk4
      clear hp4 hk4
      obtain ⟨c6, f6⟩ := HP4.out.opn
      have lb4 := HX4.out.lb
      have hne : b ≠ w.heap.size := by omega
      have hne' : w.heap.size ≠ b := by omega
      have q0 := HX4.out.lq.cl 0 _ rfl
      have q1 := HX4.out.lq.cl 1 _ rfl
      have q2 := HX4.out.lq.cl 2 _ rfl
      have q3 := HX4.out.lq.cl 3 _ rfl
      have q4 := HX4.out.lq.cl 4 _ rfl
      have q5 := HX4.out.lq.cl 5 _ rfl
      have q6 := HX4.out.lq.cl 6 _ rfl
      have q7 := HX4.out.lq.cl 7 _ rfl
      have q8 := HX4.out.lq.cl 8 _ rfl
      have HP5 : Hid (RS b s d (k + 1) c ((Sp.run s.data.toList n .list (d + 1) (.live e2)).must s.data.toList [41]) (w4.setCell ⟨b, 6, none⟩ (.int .i64 (d : Int)))) := HP4.out.deep (d' := d) _ rfl
      have HX5 : Hid (FX b w w.heap.size [.string ts, .int .i64 ta, vi, .int .i64 (-1), .string ts, .string ⟨#[]⟩, .int .i64 tn, .slice none 0 0, .slice none 0 0] [] (w4.setCell ⟨b, 6, none⟩ (.int .i64 (d : Int)))) := HX4.out.keep ((RK.refl b w4).set 6 (by decide) _)
      go_wp2_with fail
      refine (rnode_any HP5.out _ _ _ _ _ _ _ _ _ (one9 _ _ _ _ _ _ _ _ _ hvi rfl rfl)).mono ?_
      rintro r wn ⟨qn, rfl, hpn, hkn⟩
      have HPn : Hid (RS b s d k c ((Sp.run s.data.toList n .list (d + 1) (.live e2)).must s.data.toList [41]) wn) := hpn
      have HKn : Hid (RK b w wn) := HX5.out.rk.trans hkn
      clear hpn hkn q0 q1 q2 q3 q4 q5 q6 q7 q8
      go_wp2_with fail
      go_ret
      exact ⟨_, rfl, by rw [hσ1, hop, ho]; exact HPn.out, HKn.out⟩

set_option maxRecDepth 100000 in
set_option maxHeartbeats 8000000 in
theorem rkeyed_other {b : Nat} {s : ByteArray} {d k e : Nat} {c : Ct} {w : World} (kd ts : ByteArray) (ta tn : Int) (HP : Hid (RS b s d k c (.live e) w)) (e0 : (ts.toList == [116, 114, 117, 101]) = false) (e1 : (ts.toList == [102, 97, 108, 115, 101]) = false) (e2 : (ts.toList == [110, 117, 108, 108]) = false) (e3 : (ts.toList == [40]) = false) (e4 : (ts.toList == [101, 120, 105, 115, 116, 115]) = false) (e5 : (ts.toList == [99, 111, 97, 108, 101, 115, 99, 101]) = false) (e6 : (ts.toList == [99, 97, 115, 101]) = false) :
    Calls Tryz.prog 332 #[.pointer (some ⟨b, 0, none⟩), .agg #[.string kd, .int .i64 ta, .slice none 0 0, .int .i64 (-1), .string ts, .string ⟨#[]⟩, .int .i64 tn, .slice none 0 0, .slice none 0 0]] w (RI b s d k c ((Sp.St.live e).fail s.data.toList 2) w) := by
  have lb := HP.out.lb
  go_enter Tryz.func332, Tryz.ntmps332
  go_wp2_with fail
  refine (rfail_any (HP.out.alloc _) 2 (by decide) k (by have := far_fail s.data.toList 2 (.live e); omega)).mono ?_
  rintro r w2 ⟨rfl, hp2, hk2⟩
  have HP2 : Hid (RS b s d k c ((Sp.St.live e).fail s.data.toList 2) w2) := hp2
  have HK2 : Hid (RK b w w2) := ((RK.refl b w).alloc lb _).trans hk2
  clear hp2 hk2
  go_wp2_with fail
  go_ret
  exact ⟨_, rfl, HP2.out, HK2.out⟩
end Go.Proofs.YtgnncnhkgmhngaaGreatDoor
