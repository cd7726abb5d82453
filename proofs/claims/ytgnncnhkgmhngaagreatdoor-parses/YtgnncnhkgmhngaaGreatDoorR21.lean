import Derived.Test.YtgnncnhkgmhngaaGreatDoorR20
namespace Go.Proofs.YtgnncnhkgmhngaaGreatDoor
open Go.RowKit

theorem rem_case {s : Sp.Bs} {m D e : Nat} {z z' : Sp.Bs} (h : (Sp.run s m .expr D ((Sp.St.live e).must s z)).is s z' = true) : Sp.rem s (Sp.run s m .expr D ((Sp.St.live e).must s z)) < Sp.rem s (.live e) := by
  have h1 := Sp.rem_step_lt h
  have h2 := Sp.rem_run s m .expr D ((Sp.St.live e).must s z)
  have h3 := Sp.rem_must_lt s z (.live e)
  omega
theorem Tryz.info9 : (Tryz.prog.info? 9).map (fun i => (i.zero, i.size, i.bytes)) = some (some (.string ⟨#[]⟩), 1, 16) := by kernel_rfl
theorem str1 (q : ByteArray) : ∀ u ∈ [Value.string q], u.oneCell' = true := by intro u hu; simp at hu; subst hu; rfl
theorem one1d (w : World) (q : Value) (t : TypeId) : ∀ j u, [q][j]? = some u → (w.alloc (.cells #[q] t)).drew.cell? (Addr.add ⟨w.heap.size, 0, none⟩ j) = some u := by
  intro j u hj
  rw [World.cell?_drew]
  exact one1 w q t j u hj
theorem one1' (w : World) (q : Value) (t : TypeId) (z : Nat) (hz : w.heap.size = z) : ∀ j u, [q][j]? = some u → (w.alloc (.cells #[q] t)).cell? (Addr.add ⟨z, 0, none⟩ j) = some u := by
  subst hz; exact one1 w q t

set_option maxRecDepth 100000 in
set_option maxHeartbeats 16000000 in
theorem rkeyed_case {b : Nat} {s : ByteArray} {n d k e : Nat} {c : Ct} {w : World} (kd ts : ByteArray) (ta tn : Int) (IH : Hid (∀ m, m ≤ n → RAll b s m)) (hd : d + (n + 1) ≤ 1000000) (hm : 32 * Sp.rem s.data.toList (.live e) + 2 ≤ n + 1) (HP : Hid (RS b s d k c (.live e) w)) (h : ts.toList = [99, 97, 115, 101]) (hs : (Sp.St.live e).is s.data.toList [99, 97, 115, 101] = true) :
    Calls Tryz.prog 332 #[.pointer (some ⟨b, 0, none⟩), .agg #[.string kd, .int .i64 ta, .slice none 0 0, .int .i64 (-1), .string ts, .string ⟨#[]⟩, .int .i64 tn, .slice none 0 0, .slice none 0 0]] w (RI b s d k c ((Sp.run s.data.toList n .caseW (d + 1) ((Sp.St.live e).openT s.data.toList d)).must s.data.toList [101, 110, 100]) w) := by
  have lb := HP.out.lb
  obtain ⟨i0, hi, hz0, hz1, hz2⟩ := info_parts Tryz.info3
  obtain ⟨i1, hi1, hy0, hy1, hy2⟩ := info_parts Tryz.info9
  have h1 := Sp.rem_openT_lt (d := d) hs
  obtain ⟨Tt, HT⟩ : ∃ Tt, Hid (Sp.run s.data.toList n .caseW (d + 1) ((Sp.St.live e).openT s.data.toList d) = Tt) := ⟨_, rfl⟩
  have e0 : (ts.toList == [116, 114, 117, 101]) = false := by rw [h]; rfl
  have e1 : (ts.toList == [102, 97, 108, 115, 101]) = false := by rw [h]; rfl
  have e2 : (ts.toList == [110, 117, 108, 108]) = false := by rw [h]; rfl
  have e3 : (ts.toList == [40]) = false := by rw [h]; rfl
  have e4 : (ts.toList == [101, 120, 105, 115, 116, 115]) = false := by rw [h]; rfl
  have e5 : (ts.toList == [99, 111, 97, 108, 101, 115, 99, 101]) = false := by rw [h]; rfl
  have e6 : (ts.toList == [99, 97, 115, 101]) = true := by rw [h]; rfl
  have HX0 : Hid (FX b w w.heap.size [.string ts, .int .i64 ta, .slice none 0 0, .int .i64 (-1), .string ts, .string ⟨#[]⟩, .int .i64 tn, .slice none 0 0, .slice none 0 0] [(3, 1, .slice none 0 0, 0), (3, 1, .slice none 0 0, 0), (9, 1, .slice none 0 0, 0)] (w.alloc (.cells #[.string ts, .int .i64 ta, .slice none 0 0, .int .i64 (-1), .string ts, .string ⟨#[]⟩, .int .i64 tn, .slice none 0 0, .slice none 0 0] 294))) := FX.new HP.out _ _ _ (by simp)
  clear h
  go_enter Tryz.func332, Tryz.ntmps332
  go_wp2_with fail
  refine (ropen_any (HP.out.alloc _) hs (by omega)).mono ?_
  rintro r w1 ⟨rfl, hp1, hk1⟩
  have HP1 : Hid (RS b s (d + 1) (k + 1) c ((Sp.St.live e).openT s.data.toList d) w1) := hp1
  have HX1 : Hid (FX b w w.heap.size [.string ts, .int .i64 ta, .slice none 0 0, .int .i64 (-1), .string ts, .string ⟨#[]⟩, .int .i64 tn, .slice none 0 0, .slice none 0 0] [(3, 1, .slice none 0 0, 0), (3, 1, .slice none 0 0, 0), (9, 1, .slice none 0 0, 0)] w1) := HX0.out.keep hk1
  clear hp1 hk1 e0 e1 e2 e3 e4 e5 e6 HX0
  go_wp2_with fail
  go_loopg [7] n (fun m u wr => m ≤ n ∧ ∃ (σ' : Sp.St) (oi op ow : Option Addr) (j ci cp cw : Nat), j + m ≤ n ∧ ((u = .string ⟨#[119, 104, 101, 110]⟩ ∧ Hid (Tt = Sp.run s.data.toList m .caseW (d + 1) σ') ∧ 32 * Sp.rem s.data.toList σ' + 13 ≤ m) ∨ (u = .string ⟨#[116, 104, 101, 110]⟩ ∧ Hid (Tt = Sp.run s.data.toList m .caseT (d + 1) σ') ∧ 32 * Sp.rem s.data.toList σ' + 12 ≤ m) ∨ (u = .string ⟨#[101, 108, 115, 101]⟩ ∧ Hid (Tt = Sp.run s.data.toList m .caseE (d + 1) σ') ∧ 32 * Sp.rem s.data.toList σ' + 11 ≤ m) ∨ (u = .string ⟨#[101, 110, 100]⟩ ∧ Hid (Tt = σ'))) ∧ Hid (FX b w w.heap.size [.string ts, .int .i64 ta, .slice oi j ci, .int .i64 (-1), .string ts, .string ⟨#[]⟩, .int .i64 tn, .slice op j cp, .slice ow j cw] [(3, 1, .slice oi j ci, j), (3, 1, .slice op j cp, j), (9, 1, .slice ow j cw, j)] wr) ∧ Hid (RS b s (d + 1) (k + 1) c σ' wr))
  case atStart => exact ⟨Nat.le_refl _, _, none, none, none, 0, 0, 0, 0, by omega, Or.inl ⟨rfl, HT.out.symm, by omega⟩, HX1.out, HP1.out⟩
  case round =>
    obtain ⟨hmn, σ', oi, op, ow, j, ci, cp, cw, hjm, hcase, HXr, HPr⟩ := hrel
    have c7 := HPr.out.err
    cases σ' with
    | dead y a =>
      have HE : Hid (Tt = .dead y a) := by
        show _ = _
        rcases hcase with ⟨_, h2, _⟩ | ⟨_, h2, _⟩ | ⟨_, h2, _⟩ | ⟨_, h2⟩
        · rw [h2.out, run_dead]
        · rw [h2.out, run_dead]
        · rw [h2.out, run_dead]
        · exact h2.out
      clear hcase
      have hz := er_dead HPr.out
      go_wp2_with fail
      refine (rmust_any HPr.out [101, 110, 100] (k + 1) (by have := far_must s.data.toList [101, 110, 100] (Sp.St.dead y a); omega)).mono ?_
      rintro r w4 ⟨rfl, hp4, hk4⟩
      have HP4 : Hid (RS b s (d + 1) (k + 1) c ((Sp.St.dead y a).must s.data.toList [101, 110, 100]) w4) := hp4
      have HX4 : Hid (FX b w w.heap.size [.string ts, .int .i64 ta, .slice oi j ci, .int .i64 (-1), .string ts, .string ⟨#[]⟩, .int .i64 tn, .slice op j cp, .slice ow j cw] [(3, 1, .slice oi j ci, j), (3, 1, .slice op j cp, j), (9, 1, .slice ow j cw, j)] w4) := HXr.out.keep hk4
      clear hp4 hk4
      obtain ⟨c6, f6⟩ := HP4.out.opn
      have hne : b ≠ w.heap.size := by omega
      have hne' : w.heap.size ≠ b := by omega
      have q0 := HX4.out.lq.cl 0 _ rfl
      have q1 := HX4.out.lq.cl 1 _ rfl
      have q2 := HX4.out.lq.cl 2 _ rfl
      have q3 := HX4.out.lq.cl 3 _ rfl
      have q4 := HX4.out.lq.cl 4 _ rfl
      have q5 := HX4.out.lq.cl 5 _ rfl
      have q6 := HX4.out.lq.cl 6 _ rfl
      have q7 := HX4.out.lq.cl 7 _ rfl
      have q8 := HX4.out.lq.cl 8 _ rfl
      have HP5 : Hid (RS b s d (k + 1) c ((Sp.St.dead y a).must s.data.toList [101, 110, 100]) (w4.setCell ⟨b, 6, none⟩ (.int .i64 (d : Int)))) := HP4.out.deep (d' := d) _ rfl
      have HX5 : Hid (FX b w w.heap.size [.string ts, .int .i64 ta, .slice oi j ci, .int .i64 (-1), .string ts, .string ⟨#[]⟩, .int .i64 tn, .slice op j cp, .slice ow j cw] [(3, 1, .slice oi j ci, j), (3, 1, .slice op j cp, j), (9, 1, .slice ow j cw, j)] (w4.setCell ⟨b, 6, none⟩ (.int .i64 (d : Int)))) := HX4.out.keep ((RK.refl b w4).set 6 (by decide) _)
      go_wp2_with fail
      refine (rnode_any HP5.out _ _ _ _ _ _ _ _ _ (one9 _ _ _ _ _ _ _ _ _ rfl rfl rfl)).mono ?_
      rintro r wn ⟨qn, rfl, hpn, hkn⟩
      have HPn : Hid (RS b s d k c ((Sp.St.dead y a).must s.data.toList [101, 110, 100]) wn) := hpn
      have HKn : Hid (RK b w wn) := HX5.out.rk.trans hkn
      clear hpn hkn q0 q1 q2 q3 q4 q5 q6 q7 q8
      go_wp2_with fail
      go_ret
      exact ⟨_, rfl, by rw [HT.out, HE.out]; exact HPn.out, HKn.out⟩
    | live e' =>
      have hz : (((er (.live e') : Nat) : Int) == 0) = true := rfl
      have lr := HXr.out.lb
      rcases hcase with ⟨rfl, HE, hlv⟩ | ⟨rfl, HE, hlv⟩ | ⟨rfl, HE, hlv⟩ | ⟨rfl, HE⟩
      · obtain ⟨m, rfl⟩ : ∃ m, gk = m + 1 := ⟨gk - 1, by omega⟩
        obtain ⟨ta2, c2⟩ := HPr.out.tat
        have q7 := HXr.out.lq.cl 7 _ rfl
        have lq := HXr.out.lq.hi
        have HXa : Hid (FX b w w.heap.size [.string ts, .int .i64 ta, .slice oi j ci, .int .i64 (-1), .string ts, .string ⟨#[]⟩, .int .i64 tn, .slice op j cp, .slice ow j cw] [(3, 1, .slice oi j ci, j), (3, 1, .slice op j cp, j), (9, 1, .slice ow j cw, j)] (wr.alloc (.cells #[.int .i64 ta2] 3)).drew) := (HXr.out.alloc _).drew
        have HPa : Hid (RS b s (d + 1) (k + 1) c (.live e') (wr.alloc (.cells #[.int .i64 ta2] 3)).drew) := (HPr.out.alloc _).drew
        obtain ⟨xs, hxs⟩ := (HXa.out.ll 1 _ rfl).own
        have HO : Hid (((wr.alloc (.cells #[.int .i64 ta2] 3)).drew).ownsRow w.heap.size 3 1 (.slice op j cp) j xs) := hxs
        have HN : Hid (∀ p u, [Value.int .i64 ta2][p]? = some u → ((wr.alloc (.cells #[.int .i64 ta2] 3)).drew).cell? (Addr.add ⟨wr.heap.size, 0, none⟩ p) = some u) := one1d wr _ _
        have h63 : j + 1 ≤ maxLen := by unfold maxLen; omega
        have hby : (j + 1) * 8 ≤ 140737488355328 := by omega
        have hby16 : (j + 1) * 16 ≤ 140737488355328 := by omega
        have hba : w.heap.size ≤ ((wr.alloc (.cells #[.int .i64 ta2] 3)).drew).heap.size := HXa.out.rk.size
        clear hxs
        go_wp2_with fail
        go_region_law (refine step_append_lies (wr.alloc (.cells #[.int .i64 ta2] 3)).drew rfl (.tmp 112) (.tmp 118) 206 rfl w.heap.size 3 i0 (.int .i64 0) 1 8 Tryz.underlying206 hi hz0 hz1 hz2 rfl (by decide) (.slice op j cp) j xs rfl HO.out ⟨wr.heap.size, 0, none⟩ 1 1 [.int .i64 ta2] rfl rfl HN.out (int1 _) (by decide) h63 hby hba _ rfl ?_; intro g1 cap1 wb hown1 hgrow1 hat1 hlt1; have HG1 : Hid (FX b w w.heap.size [.string ts, .int .i64 ta, .slice oi j ci, .int .i64 (-1), .string ts, .string ⟨#[]⟩, .int .i64 tn, .slice op j cp, .slice ow j cw] [(3, 1, .slice oi j ci, j), (3, 1, .slice (some ⟨g1, 0, none⟩) (j + 1) cap1, j + 1), (9, 1, .slice ow j cw, j)] wb ∧ RS b s (d + 1) (k + 1) c (.live e') wb) := HXa.out.grow HPa.out 1 rfl hown1 hgrow1 hat1; clear hown1 hgrow1 hat1 hlt1; clear q7 c2 c7; have q7 := HG1.out.1.lq.cl 7 _ rfl; have g7 := HG1.out.1.lq.fz 7)
        all_goals
          clear q7 g7
          revert HG1
          revert g1 cap1 wb
        refine ?onewhen
        rotate_left
        exact ?onewhen
        exact ?onewhen
        intro g1 cap1 wb HG1
        have HXc : Hid (FX b w w.heap.size [.string ts, .int .i64 ta, .slice oi j ci, .int .i64 (-1), .string ts, .string ⟨#[]⟩, .int .i64 tn, .slice (some ⟨g1, 0, none⟩) (j + 1) cap1, .slice ow j cw] [(3, 1, .slice oi j ci, j), (3, 1, .slice (some ⟨g1, 0, none⟩) (j + 1) cap1, j + 1), (9, 1, .slice ow j cw, j)] (wb.setCell ⟨w.heap.size, 7, none⟩ (.slice (some ⟨g1, 0, none⟩) (j + 1) cap1))) := HG1.out.1.setq lb 7 (by simp) _
        have HPc : Hid (RS b s (d + 1) (k + 1) c (.live e') (wb.setCell ⟨w.heap.size, 7, none⟩ (.slice (some ⟨g1, 0, none⟩) (j + 1) cap1))) := HG1.out.2.other _ 7 HG1.out.1.lq.nf _
        clear HG1 HXa HPa HO HN hba
        generalize hwc : (wb.setCell ⟨w.heap.size, 7, none⟩ (.slice (some ⟨g1, 0, none⟩) (j + 1) cap1)) = wc at *
        clear hwc
        have q8 := HXc.out.lq.cl 8 _ rfl
        have HXd : Hid (FX b w w.heap.size [.string ts, .int .i64 ta, .slice oi j ci, .int .i64 (-1), .string ts, .string ⟨#[]⟩, .int .i64 tn, .slice (some ⟨g1, 0, none⟩) (j + 1) cap1, .slice ow j cw] [(3, 1, .slice oi j ci, j), (3, 1, .slice (some ⟨g1, 0, none⟩) (j + 1) cap1, j + 1), (9, 1, .slice ow j cw, j)] (wc.alloc (.cells #[.string ⟨#[119, 104, 101, 110]⟩] 9))) := HXc.out.alloc _
        obtain ⟨ys, hys⟩ := (HXd.out.ll 2 _ rfl).own
        have HO2 : Hid ((wc.alloc (.cells #[.string ⟨#[119, 104, 101, 110]⟩] 9)).ownsRow w.heap.size 9 1 (.slice ow j cw) j ys) := hys
        have hbb : w.heap.size ≤ (wc.alloc (.cells #[.string ⟨#[119, 104, 101, 110]⟩] 9)).heap.size := HXd.out.rk.size
        clear hys
        go_wp2_with (at_builtin; refine wpList_append_lies _ rfl (.tmp 122) (.tmp 124) 50 rfl w.heap.size 9 i1 (.string ⟨#[]⟩) 1 16 Tryz.underlying50 hi1 hy0 hy1 hy2 rfl (by decide) (.slice ow j cw) j ys rfl HO2.out ⟨wc.heap.size, 0, none⟩ 1 1 [.string ⟨#[119, 104, 101, 110]⟩] rfl rfl (one1 _ _ _) (str1 _) (by decide) h63 hby16 hbb _ rfl ?_; intro g2 cap2 wd hown2 hgrow2 hat2 hlt2; have HG2 : Hid (FX b w w.heap.size [.string ts, .int .i64 ta, .slice oi j ci, .int .i64 (-1), .string ts, .string ⟨#[]⟩, .int .i64 tn, .slice (some ⟨g1, 0, none⟩) (j + 1) cap1, .slice ow j cw] [(3, 1, .slice oi j ci, j), (3, 1, .slice (some ⟨g1, 0, none⟩) (j + 1) cap1, j + 1), (9, 1, .slice (some ⟨g2, 0, none⟩) (j + 1) cap2, j + 1)] wd ∧ RS b s (d + 1) (k + 1) c (.live e') wd) := HXd.out.grow (HPc.out.alloc _) 2 rfl hown2 hgrow2 hat2; clear hown2 hgrow2 hat2 hlt2; clear q8; have q8 := HG2.out.1.lq.cl 8 _ rfl; have g8 := HG2.out.1.lq.fz 8)
        have HXe : Hid (FX b w w.heap.size [.string ts, .int .i64 ta, .slice oi j ci, .int .i64 (-1), .string ts, .string ⟨#[]⟩, .int .i64 tn, .slice (some ⟨g1, 0, none⟩) (j + 1) cap1, .slice (some ⟨g2, 0, none⟩) (j + 1) cap2] [(3, 1, .slice oi j ci, j), (3, 1, .slice (some ⟨g1, 0, none⟩) (j + 1) cap1, j + 1), (9, 1, .slice (some ⟨g2, 0, none⟩) (j + 1) cap2, j + 1)] (wd.setCell ⟨w.heap.size, 8, none⟩ (.slice (some ⟨g2, 0, none⟩) (j + 1) cap2))) := HG2.out.1.setq lb 8 (by simp) _
        have HPe : Hid (RS b s (d + 1) (k + 1) c (.live e') (wd.setCell ⟨w.heap.size, 8, none⟩ (.slice (some ⟨g2, 0, none⟩) (j + 1) cap2))) := HG2.out.2.other _ 8 HG2.out.1.lq.nf _
        refine (rmust_any HPe.out [119, 104, 101, 110] (k + 1) (by have := far_must s.data.toList [119, 104, 101, 110] (.live e'); omega)).mono ?_
        rintro r wf ⟨rfl, hpf, hkf⟩
        have HPf : Hid (RS b s (d + 1) (k + 1) c ((Sp.St.live e').must s.data.toList [119, 104, 101, 110]) wf) := hpf
        have HXf : Hid (FX b w w.heap.size [.string ts, .int .i64 ta, .slice oi j ci, .int .i64 (-1), .string ts, .string ⟨#[]⟩, .int .i64 tn, .slice (some ⟨g1, 0, none⟩) (j + 1) cap1, .slice (some ⟨g2, 0, none⟩) (j + 1) cap2] [(3, 1, .slice oi j ci, j), (3, 1, .slice (some ⟨g1, 0, none⟩) (j + 1) cap1, j + 1), (9, 1, .slice (some ⟨g2, 0, none⟩) (j + 1) cap2, j + 1)] wf) := HXe.out.keep hkf
        clear hpf hkf q8 g8 HXc HPc HXd HO2 HG2 HXe HPe hbb
        have c7 := HPf.out.err
        have r1 := Sp.rem_must s.data.toList [119, 104, 101, 110] (.live e')
        have r2 := Nat.le_trans (Sp.rem_run s.data.toList m .expr (d + 1) ((Sp.St.live e').must s.data.toList [119, 104, 101, 110])) r1
        cases hmu : (Sp.St.live e').must s.data.toList [119, 104, 101, 110] with
        | dead y a =>
          rw [hmu] at HPf c7
          have hzz := er_dead HPf.out
          obtain ⟨σ2, HS2⟩ : ∃ σ2, Hid (Sp.run s.data.toList m .expr (d + 1) ((Sp.St.live e').must s.data.toList [119, 104, 101, 110]) = σ2) := ⟨_, rfl⟩
          have hs2 : Sp.St.dead y a = σ2 := by rw [← HS2.out, hmu, run_dead]
          rw [HS2.out] at r2
          have HPg : Hid (RS b s (d + 1) (k + 1) c σ2 wf) := by rw [← hs2]; exact HPf.out
          have HXg := HXf
          clear hs2
          have q2 := HXg.out.lq.cl 2 _ rfl
          have HXh : Hid (FX b w w.heap.size [.string ts, .int .i64 ta, .slice oi j ci, .int .i64 (-1), .string ts, .string ⟨#[]⟩, .int .i64 tn, .slice (some ⟨g1, 0, none⟩) (j + 1) cap1, .slice (some ⟨g2, 0, none⟩) (j + 1) cap2] [(3, 1, .slice oi j ci, j), (3, 1, .slice (some ⟨g1, 0, none⟩) (j + 1) cap1, j + 1), (9, 1, .slice (some ⟨g2, 0, none⟩) (j + 1) cap2, j + 1)] (wf.alloc (.cells #[.int .i64 0] 3))) := HXg.out.alloc _
          obtain ⟨zs, hzs⟩ := (HXh.out.ll 0 _ rfl).own
          have HO3 : Hid ((wf.alloc (.cells #[.int .i64 0] 3)).ownsRow w.heap.size 3 1 (.slice oi j ci) j zs) := hzs
          have hbc : w.heap.size ≤ (wf.alloc (.cells #[.int .i64 0] 3)).heap.size := HXh.out.rk.size
          clear hzs
          go_wp2_with (at_builtin; refine wpList_append_lies _ rfl (.tmp 138) (.tmp 140) 206 rfl w.heap.size 3 i0 (.int .i64 0) 1 8 Tryz.underlying206 hi hz0 hz1 hz2 rfl (by decide) (.slice oi j ci) j zs rfl HO3.out ⟨wf.heap.size, 0, none⟩ 1 1 [.int .i64 0] rfl rfl (one1 _ _ _) (int1 _) (by decide) h63 hby hbc _ rfl ?_; intro g3 cap3 wi hown3 hgrow3 hat3 hlt3; have HG3 : Hid (FX b w w.heap.size [.string ts, .int .i64 ta, .slice oi j ci, .int .i64 (-1), .string ts, .string ⟨#[]⟩, .int .i64 tn, .slice (some ⟨g1, 0, none⟩) (j + 1) cap1, .slice (some ⟨g2, 0, none⟩) (j + 1) cap2] [(3, 1, .slice (some ⟨g3, 0, none⟩) (j + 1) cap3, j + 1), (3, 1, .slice (some ⟨g1, 0, none⟩) (j + 1) cap1, j + 1), (9, 1, .slice (some ⟨g2, 0, none⟩) (j + 1) cap2, j + 1)] wi ∧ RS b s (d + 1) (k + 1) c σ2 wi) := HXh.out.grow (HPg.out.alloc _) 0 rfl hown3 hgrow3 hat3; clear hown3 hgrow3 hat3 hlt3; clear q2; have q2 := HG3.out.1.lq.cl 2 _ rfl; have g2' := HG3.out.1.lq.fz 2)
          have HXi : Hid (FX b w w.heap.size [.string ts, .int .i64 ta, .slice (some ⟨g3, 0, none⟩) (j + 1) cap3, .int .i64 (-1), .string ts, .string ⟨#[]⟩, .int .i64 tn, .slice (some ⟨g1, 0, none⟩) (j + 1) cap1, .slice (some ⟨g2, 0, none⟩) (j + 1) cap2] [(3, 1, .slice (some ⟨g3, 0, none⟩) (j + 1) cap3, j + 1), (3, 1, .slice (some ⟨g1, 0, none⟩) (j + 1) cap1, j + 1), (9, 1, .slice (some ⟨g2, 0, none⟩) (j + 1) cap2, j + 1)] (wi.setCell ⟨w.heap.size, 2, none⟩ (.slice (some ⟨g3, 0, none⟩) (j + 1) cap3))) := HG3.out.1.setq lb 2 (by simp) _
          have HPi : Hid (RS b s (d + 1) (k + 1) c σ2 (wi.setCell ⟨w.heap.size, 2, none⟩ (.slice (some ⟨g3, 0, none⟩) (j + 1) cap3))) := HG3.out.2.other _ 2 HG3.out.1.lq.nf _
          clear q2 g2' HG3
          generalize hwi : (wi.setCell ⟨w.heap.size, 2, none⟩ (.slice (some ⟨g3, 0, none⟩) (j + 1) cap3)) = wj at *
          clear hwi
          refine (ris_any HPi.out [119, 104, 101, 110]).mono ?_
          rintro r wk ⟨rfl, rfl⟩
          go_wp2_with fail
          refine (ris_any HPi.out [101, 108, 115, 101]).mono ?_
          rintro r wl ⟨rfl, rfl⟩
          have HEn : Hid (Tt = Sp.run s.data.toList m .caseT (d + 1) σ2) := by
            show _ = _
            rw [HE.out, Sp.run, HS2.out]
          go_wp2_with fail
          go_roundg m
          case measure => omega
          case rel => exact ⟨by omega, σ2, _, _, _, j + 1, _, _, _, by omega, Or.inr (Or.inl ⟨rfl, HEn.out, by omega⟩), HXi.out, HPi.out⟩
        | live e2 =>
          rw [hmu] at HPf c7
          have hzz : (((er (.live e2) : Nat) : Int) == 0) = true := rfl
          obtain ⟨σ2, HS2⟩ : ∃ σ2, Hid (Sp.run s.data.toList m .expr (d + 1) ((Sp.St.live e').must s.data.toList [119, 104, 101, 110]) = σ2) := ⟨_, rfl⟩
          have hs2 : Sp.run s.data.toList m .expr (d + 1) (.live e2) = σ2 := by rw [← HS2.out, hmu]
          rw [HS2.out] at r2
          rw [hmu] at r1
          go_wp2_with fail
          refine ((IH.out m (by omega)).expr (d + 1) (k + 1) c _ _ (by omega) (by show 32 * Sp.rem s.data.toList _ + 9 ≤ m; omega) HPf.out).mono ?_
          rintro r wg ⟨qg, rfl, hpg, hkg⟩
          rw [hs2] at hpg
          have HPg : Hid (RS b s (d + 1) (k + 1) c σ2 wg) := hpg
          have HXg : Hid (FX b w w.heap.size [.string ts, .int .i64 ta, .slice oi j ci, .int .i64 (-1), .string ts, .string ⟨#[]⟩, .int .i64 tn, .slice (some ⟨g1, 0, none⟩) (j + 1) cap1, .slice (some ⟨g2, 0, none⟩) (j + 1) cap2] [(3, 1, .slice oi j ci, j), (3, 1, .slice (some ⟨g1, 0, none⟩) (j + 1) cap1, j + 1), (9, 1, .slice (some ⟨g2, 0, none⟩) (j + 1) cap2, j + 1)] wg) := HXf.out.keep hkg
          clear hpg hkg c7 hs2
          have q2 := HXg.out.lq.cl 2 _ rfl
          have HXh : Hid (FX b w w.heap.size [.string ts, .int .i64 ta, .slice oi j ci, .int .i64 (-1), .string ts, .string ⟨#[]⟩, .int .i64 tn, .slice (some ⟨g1, 0, none⟩) (j + 1) cap1, .slice (some ⟨g2, 0, none⟩) (j + 1) cap2] [(3, 1, .slice oi j ci, j), (3, 1, .slice (some ⟨g1, 0, none⟩) (j + 1) cap1, j + 1), (9, 1, .slice (some ⟨g2, 0, none⟩) (j + 1) cap2, j + 1)] (wg.alloc (.cells #[.int .i64 qg] 3))) := HXg.out.alloc _
          obtain ⟨zs, hzs⟩ := (HXh.out.ll 0 _ rfl).own
          have HO3 : Hid ((wg.alloc (.cells #[.int .i64 qg] 3)).ownsRow w.heap.size 3 1 (.slice oi j ci) j zs) := hzs
          have hbc : w.heap.size ≤ (wg.alloc (.cells #[.int .i64 qg] 3)).heap.size := HXh.out.rk.size
          clear hzs
          go_wp2_with (at_builtin; refine wpList_append_lies _ rfl (.tmp 138) (.tmp 140) 206 rfl w.heap.size 3 i0 (.int .i64 0) 1 8 Tryz.underlying206 hi hz0 hz1 hz2 rfl (by decide) (.slice oi j ci) j zs rfl HO3.out ⟨wg.heap.size, 0, none⟩ 1 1 [.int .i64 qg] rfl rfl (one1 _ _ _) (int1 _) (by decide) h63 hby hbc _ rfl ?_; intro g3 cap3 wi hown3 hgrow3 hat3 hlt3; have HG3 : Hid (FX b w w.heap.size [.string ts, .int .i64 ta, .slice oi j ci, .int .i64 (-1), .string ts, .string ⟨#[]⟩, .int .i64 tn, .slice (some ⟨g1, 0, none⟩) (j + 1) cap1, .slice (some ⟨g2, 0, none⟩) (j + 1) cap2] [(3, 1, .slice (some ⟨g3, 0, none⟩) (j + 1) cap3, j + 1), (3, 1, .slice (some ⟨g1, 0, none⟩) (j + 1) cap1, j + 1), (9, 1, .slice (some ⟨g2, 0, none⟩) (j + 1) cap2, j + 1)] wi ∧ RS b s (d + 1) (k + 1) c σ2 wi) := HXh.out.grow (HPg.out.alloc _) 0 rfl hown3 hgrow3 hat3; clear hown3 hgrow3 hat3 hlt3; clear q2; have q2 := HG3.out.1.lq.cl 2 _ rfl; have g2' := HG3.out.1.lq.fz 2)
          have HXi : Hid (FX b w w.heap.size [.string ts, .int .i64 ta, .slice (some ⟨g3, 0, none⟩) (j + 1) cap3, .int .i64 (-1), .string ts, .string ⟨#[]⟩, .int .i64 tn, .slice (some ⟨g1, 0, none⟩) (j + 1) cap1, .slice (some ⟨g2, 0, none⟩) (j + 1) cap2] [(3, 1, .slice (some ⟨g3, 0, none⟩) (j + 1) cap3, j + 1), (3, 1, .slice (some ⟨g1, 0, none⟩) (j + 1) cap1, j + 1), (9, 1, .slice (some ⟨g2, 0, none⟩) (j + 1) cap2, j + 1)] (wi.setCell ⟨w.heap.size, 2, none⟩ (.slice (some ⟨g3, 0, none⟩) (j + 1) cap3))) := HG3.out.1.setq lb 2 (by simp) _
          have HPi : Hid (RS b s (d + 1) (k + 1) c σ2 (wi.setCell ⟨w.heap.size, 2, none⟩ (.slice (some ⟨g3, 0, none⟩) (j + 1) cap3))) := HG3.out.2.other _ 2 HG3.out.1.lq.nf _
          clear q2 g2' HG3
          generalize hwi : (wi.setCell ⟨w.heap.size, 2, none⟩ (.slice (some ⟨g3, 0, none⟩) (j + 1) cap3)) = wj at *
          clear hwi
          refine (ris_any HPi.out [119, 104, 101, 110]).mono ?_
          rintro r wk ⟨rfl, rfl⟩
          go_wp2_with fail
          refine (ris_any HPi.out [101, 108, 115, 101]).mono ?_
          rintro r wl ⟨rfl, rfl⟩
          have HEn : Hid (Tt = Sp.run s.data.toList m .caseT (d + 1) σ2) := by
            show _ = _
            rw [HE.out, Sp.run, HS2.out]
          go_wp2_with fail
          go_roundg m
          case measure => omega
          case rel => exact ⟨by omega, σ2, _, _, _, j + 1, _, _, _, by omega, Or.inr (Or.inl ⟨rfl, HEn.out, by omega⟩), HXi.out, HPi.out⟩
      · obtain ⟨m, rfl⟩ : ∃ m, gk = m + 1 := ⟨gk - 1, by omega⟩
        obtain ⟨ta2, c2⟩ := HPr.out.tat
        have q7 := HXr.out.lq.cl 7 _ rfl
        have lq := HXr.out.lq.hi
        have HXa : Hid (FX b w w.heap.size [.string ts, .int .i64 ta, .slice oi j ci, .int .i64 (-1), .string ts, .string ⟨#[]⟩, .int .i64 tn, .slice op j cp, .slice ow j cw] [(3, 1, .slice oi j ci, j), (3, 1, .slice op j cp, j), (9, 1, .slice ow j cw, j)] (wr.alloc (.cells #[.int .i64 ta2] 3)).drew) := (HXr.out.alloc _).drew
        have HPa : Hid (RS b s (d + 1) (k + 1) c (.live e') (wr.alloc (.cells #[.int .i64 ta2] 3)).drew) := (HPr.out.alloc _).drew
        obtain ⟨xs, hxs⟩ := (HXa.out.ll 1 _ rfl).own
        have HO : Hid (((wr.alloc (.cells #[.int .i64 ta2] 3)).drew).ownsRow w.heap.size 3 1 (.slice op j cp) j xs) := hxs
        have HN : Hid (∀ p u, [Value.int .i64 ta2][p]? = some u → ((wr.alloc (.cells #[.int .i64 ta2] 3)).drew).cell? (Addr.add ⟨wr.heap.size, 0, none⟩ p) = some u) := one1d wr _ _
        have h63 : j + 1 ≤ maxLen := by unfold maxLen; omega
        have hby : (j + 1) * 8 ≤ 140737488355328 := by omega
        have hby16 : (j + 1) * 16 ≤ 140737488355328 := by omega
        have hba : w.heap.size ≤ ((wr.alloc (.cells #[.int .i64 ta2] 3)).drew).heap.size := HXa.out.rk.size
        clear hxs
        go_wp2_with fail
        go_region_law (refine step_append_lies (wr.alloc (.cells #[.int .i64 ta2] 3)).drew rfl (.tmp 112) (.tmp 118) 206 rfl w.heap.size 3 i0 (.int .i64 0) 1 8 Tryz.underlying206 hi hz0 hz1 hz2 rfl (by decide) (.slice op j cp) j xs rfl HO.out ⟨wr.heap.size, 0, none⟩ 1 1 [.int .i64 ta2] rfl rfl HN.out (int1 _) (by decide) h63 hby hba _ rfl ?_; intro g1 cap1 wb hown1 hgrow1 hat1 hlt1; have HG1 : Hid (FX b w w.heap.size [.string ts, .int .i64 ta, .slice oi j ci, .int .i64 (-1), .string ts, .string ⟨#[]⟩, .int .i64 tn, .slice op j cp, .slice ow j cw] [(3, 1, .slice oi j ci, j), (3, 1, .slice (some ⟨g1, 0, none⟩) (j + 1) cap1, j + 1), (9, 1, .slice ow j cw, j)] wb ∧ RS b s (d + 1) (k + 1) c (.live e') wb) := HXa.out.grow HPa.out 1 rfl hown1 hgrow1 hat1; clear hown1 hgrow1 hat1 hlt1; clear q7 c2 c7; have q7 := HG1.out.1.lq.cl 7 _ rfl; have g7 := HG1.out.1.lq.fz 7)
        all_goals
          clear q7 g7
          revert HG1
          revert g1 cap1 wb
        refine ?onethen
        rotate_left
        exact ?onethen
        exact ?onethen
        intro g1 cap1 wb HG1
        have HXc : Hid (FX b w w.heap.size [.string ts, .int .i64 ta, .slice oi j ci, .int .i64 (-1), .string ts, .string ⟨#[]⟩, .int .i64 tn, .slice (some ⟨g1, 0, none⟩) (j + 1) cap1, .slice ow j cw] [(3, 1, .slice oi j ci, j), (3, 1, .slice (some ⟨g1, 0, none⟩) (j + 1) cap1, j + 1), (9, 1, .slice ow j cw, j)] (wb.setCell ⟨w.heap.size, 7, none⟩ (.slice (some ⟨g1, 0, none⟩) (j + 1) cap1))) := HG1.out.1.setq lb 7 (by simp) _
        have HPc : Hid (RS b s (d + 1) (k + 1) c (.live e') (wb.setCell ⟨w.heap.size, 7, none⟩ (.slice (some ⟨g1, 0, none⟩) (j + 1) cap1))) := HG1.out.2.other _ 7 HG1.out.1.lq.nf _
        clear HG1 HXa HPa HO HN hba
        generalize hwc : (wb.setCell ⟨w.heap.size, 7, none⟩ (.slice (some ⟨g1, 0, none⟩) (j + 1) cap1)) = wc at *
        clear hwc
        have q8 := HXc.out.lq.cl 8 _ rfl
        have HXd : Hid (FX b w w.heap.size [.string ts, .int .i64 ta, .slice oi j ci, .int .i64 (-1), .string ts, .string ⟨#[]⟩, .int .i64 tn, .slice (some ⟨g1, 0, none⟩) (j + 1) cap1, .slice ow j cw] [(3, 1, .slice oi j ci, j), (3, 1, .slice (some ⟨g1, 0, none⟩) (j + 1) cap1, j + 1), (9, 1, .slice ow j cw, j)] (wc.alloc (.cells #[.string ⟨#[116, 104, 101, 110]⟩] 9))) := HXc.out.alloc _
        obtain ⟨ys, hys⟩ := (HXd.out.ll 2 _ rfl).own
        have HO2 : Hid ((wc.alloc (.cells #[.string ⟨#[116, 104, 101, 110]⟩] 9)).ownsRow w.heap.size 9 1 (.slice ow j cw) j ys) := hys
        have hbb : w.heap.size ≤ (wc.alloc (.cells #[.string ⟨#[116, 104, 101, 110]⟩] 9)).heap.size := HXd.out.rk.size
        clear hys
        go_wp2_with (at_builtin; refine wpList_append_lies _ rfl (.tmp 122) (.tmp 124) 50 rfl w.heap.size 9 i1 (.string ⟨#[]⟩) 1 16 Tryz.underlying50 hi1 hy0 hy1 hy2 rfl (by decide) (.slice ow j cw) j ys rfl HO2.out ⟨wc.heap.size, 0, none⟩ 1 1 [.string ⟨#[116, 104, 101, 110]⟩] rfl rfl (one1 _ _ _) (str1 _) (by decide) h63 hby16 hbb _ rfl ?_; intro g2 cap2 wd hown2 hgrow2 hat2 hlt2; have HG2 : Hid (FX b w w.heap.size [.string ts, .int .i64 ta, .slice oi j ci, .int .i64 (-1), .string ts, .string ⟨#[]⟩, .int .i64 tn, .slice (some ⟨g1, 0, none⟩) (j + 1) cap1, .slice ow j cw] [(3, 1, .slice oi j ci, j), (3, 1, .slice (some ⟨g1, 0, none⟩) (j + 1) cap1, j + 1), (9, 1, .slice (some ⟨g2, 0, none⟩) (j + 1) cap2, j + 1)] wd ∧ RS b s (d + 1) (k + 1) c (.live e') wd) := HXd.out.grow (HPc.out.alloc _) 2 rfl hown2 hgrow2 hat2; clear hown2 hgrow2 hat2 hlt2; clear q8; have q8 := HG2.out.1.lq.cl 8 _ rfl; have g8 := HG2.out.1.lq.fz 8)
        have HXe : Hid (FX b w w.heap.size [.string ts, .int .i64 ta, .slice oi j ci, .int .i64 (-1), .string ts, .string ⟨#[]⟩, .int .i64 tn, .slice (some ⟨g1, 0, none⟩) (j + 1) cap1, .slice (some ⟨g2, 0, none⟩) (j + 1) cap2] [(3, 1, .slice oi j ci, j), (3, 1, .slice (some ⟨g1, 0, none⟩) (j + 1) cap1, j + 1), (9, 1, .slice (some ⟨g2, 0, none⟩) (j + 1) cap2, j + 1)] (wd.setCell ⟨w.heap.size, 8, none⟩ (.slice (some ⟨g2, 0, none⟩) (j + 1) cap2))) := HG2.out.1.setq lb 8 (by simp) _
        have HPe : Hid (RS b s (d + 1) (k + 1) c (.live e') (wd.setCell ⟨w.heap.size, 8, none⟩ (.slice (some ⟨g2, 0, none⟩) (j + 1) cap2))) := HG2.out.2.other _ 8 HG2.out.1.lq.nf _
        refine (rmust_any HPe.out [116, 104, 101, 110] (k + 1) (by have := far_must s.data.toList [116, 104, 101, 110] (.live e'); omega)).mono ?_
        rintro r wf ⟨rfl, hpf, hkf⟩
        have HPf : Hid (RS b s (d + 1) (k + 1) c ((Sp.St.live e').must s.data.toList [116, 104, 101, 110]) wf) := hpf
        have HXf : Hid (FX b w w.heap.size [.string ts, .int .i64 ta, .slice oi j ci, .int .i64 (-1), .string ts, .string ⟨#[]⟩, .int .i64 tn, .slice (some ⟨g1, 0, none⟩) (j + 1) cap1, .slice (some ⟨g2, 0, none⟩) (j + 1) cap2] [(3, 1, .slice oi j ci, j), (3, 1, .slice (some ⟨g1, 0, none⟩) (j + 1) cap1, j + 1), (9, 1, .slice (some ⟨g2, 0, none⟩) (j + 1) cap2, j + 1)] wf) := HXe.out.keep hkf
        clear hpf hkf q8 g8 HXc HPc HXd HO2 HG2 HXe HPe hbb
        have c7 := HPf.out.err
        have r1 := Sp.rem_must s.data.toList [116, 104, 101, 110] (.live e')
        have r2 := Nat.le_trans (Sp.rem_run s.data.toList m .expr (d + 1) ((Sp.St.live e').must s.data.toList [116, 104, 101, 110])) r1
        cases hmu : (Sp.St.live e').must s.data.toList [116, 104, 101, 110] with
        | dead y a =>
          rw [hmu] at HPf c7
          have hzz := er_dead HPf.out
          obtain ⟨σ2, HS2⟩ : ∃ σ2, Hid (Sp.run s.data.toList m .expr (d + 1) ((Sp.St.live e').must s.data.toList [116, 104, 101, 110]) = σ2) := ⟨_, rfl⟩
          have hs2 : Sp.St.dead y a = σ2 := by rw [← HS2.out, hmu, run_dead]
          rw [HS2.out] at r2
          have HPg : Hid (RS b s (d + 1) (k + 1) c σ2 wf) := by rw [← hs2]; exact HPf.out
          have HXg := HXf
          clear hs2
          have q2 := HXg.out.lq.cl 2 _ rfl
          have HXh : Hid (FX b w w.heap.size [.string ts, .int .i64 ta, .slice oi j ci, .int .i64 (-1), .string ts, .string ⟨#[]⟩, .int .i64 tn, .slice (some ⟨g1, 0, none⟩) (j + 1) cap1, .slice (some ⟨g2, 0, none⟩) (j + 1) cap2] [(3, 1, .slice oi j ci, j), (3, 1, .slice (some ⟨g1, 0, none⟩) (j + 1) cap1, j + 1), (9, 1, .slice (some ⟨g2, 0, none⟩) (j + 1) cap2, j + 1)] (wf.alloc (.cells #[.int .i64 0] 3))) := HXg.out.alloc _
          obtain ⟨zs, hzs⟩ := (HXh.out.ll 0 _ rfl).own
          have HO3 : Hid ((wf.alloc (.cells #[.int .i64 0] 3)).ownsRow w.heap.size 3 1 (.slice oi j ci) j zs) := hzs
          have hbc : w.heap.size ≤ (wf.alloc (.cells #[.int .i64 0] 3)).heap.size := HXh.out.rk.size
          clear hzs
          go_wp2_with (at_builtin; refine wpList_append_lies _ rfl (.tmp 138) (.tmp 140) 206 rfl w.heap.size 3 i0 (.int .i64 0) 1 8 Tryz.underlying206 hi hz0 hz1 hz2 rfl (by decide) (.slice oi j ci) j zs rfl HO3.out ⟨wf.heap.size, 0, none⟩ 1 1 [.int .i64 0] rfl rfl (one1 _ _ _) (int1 _) (by decide) h63 hby hbc _ rfl ?_; intro g3 cap3 wi hown3 hgrow3 hat3 hlt3; have HG3 : Hid (FX b w w.heap.size [.string ts, .int .i64 ta, .slice oi j ci, .int .i64 (-1), .string ts, .string ⟨#[]⟩, .int .i64 tn, .slice (some ⟨g1, 0, none⟩) (j + 1) cap1, .slice (some ⟨g2, 0, none⟩) (j + 1) cap2] [(3, 1, .slice (some ⟨g3, 0, none⟩) (j + 1) cap3, j + 1), (3, 1, .slice (some ⟨g1, 0, none⟩) (j + 1) cap1, j + 1), (9, 1, .slice (some ⟨g2, 0, none⟩) (j + 1) cap2, j + 1)] wi ∧ RS b s (d + 1) (k + 1) c σ2 wi) := HXh.out.grow (HPg.out.alloc _) 0 rfl hown3 hgrow3 hat3; clear hown3 hgrow3 hat3 hlt3; clear q2; have q2 := HG3.out.1.lq.cl 2 _ rfl; have g2' := HG3.out.1.lq.fz 2)
          have HXi : Hid (FX b w w.heap.size [.string ts, .int .i64 ta, .slice (some ⟨g3, 0, none⟩) (j + 1) cap3, .int .i64 (-1), .string ts, .string ⟨#[]⟩, .int .i64 tn, .slice (some ⟨g1, 0, none⟩) (j + 1) cap1, .slice (some ⟨g2, 0, none⟩) (j + 1) cap2] [(3, 1, .slice (some ⟨g3, 0, none⟩) (j + 1) cap3, j + 1), (3, 1, .slice (some ⟨g1, 0, none⟩) (j + 1) cap1, j + 1), (9, 1, .slice (some ⟨g2, 0, none⟩) (j + 1) cap2, j + 1)] (wi.setCell ⟨w.heap.size, 2, none⟩ (.slice (some ⟨g3, 0, none⟩) (j + 1) cap3))) := HG3.out.1.setq lb 2 (by simp) _
          have HPi : Hid (RS b s (d + 1) (k + 1) c σ2 (wi.setCell ⟨w.heap.size, 2, none⟩ (.slice (some ⟨g3, 0, none⟩) (j + 1) cap3))) := HG3.out.2.other _ 2 HG3.out.1.lq.nf _
          clear q2 g2' HG3
          generalize hwi : (wi.setCell ⟨w.heap.size, 2, none⟩ (.slice (some ⟨g3, 0, none⟩) (j + 1) cap3)) = wj at *
          clear hwi
          refine (ris_any HPi.out [119, 104, 101, 110]).mono ?_
          rintro r wk ⟨rfl, rfl⟩
          go_wp2_with fail
          refine (ris_any HPi.out [101, 108, 115, 101]).mono ?_
          rintro r wl ⟨rfl, rfl⟩
          cases hw : σ2.is s.data.toList [119, 104, 101, 110]
          · cases he : σ2.is s.data.toList [101, 108, 115, 101]
            · skip
              have HEn : Hid (Tt = σ2) := by
                show _ = _
                rw [HE.out, Sp.run, HS2.out] ; simp only [hw, he]; rfl
                skip; first | done | rw [HE.out]
              go_wp2_with fail
              go_roundg m
              case measure => omega
              case rel => exact ⟨by omega, σ2, _, _, _, j + 1, _, _, _, by omega, Or.inr (Or.inr (Or.inr ⟨rfl, HEn.out⟩)), HXi.out, HPi.out⟩
            · skip
              have HEn : Hid (Tt = Sp.run s.data.toList m .caseE (d + 1) σ2) := by
                show _ = _
                rw [HE.out, Sp.run, HS2.out] ; simp only [hw, he]; rfl
                skip; first | done | rw [HE.out]
              go_wp2_with fail
              go_roundg m
              case measure => omega
              case rel => exact ⟨by omega, σ2, _, _, _, j + 1, _, _, _, by omega, Or.inr (Or.inr (Or.inl ⟨rfl, HEn.out, by omega⟩)), HXi.out, HPi.out⟩
          · have hlt := rem_case (s := s.data.toList) (m := m) (D := (d + 1)) (e := e') (z := [116, 104, 101, 110]) (z' := [119, 104, 101, 110]) (by rw [HS2.out]; exact hw)
            rw [HS2.out] at hlt
            have HEn : Hid (Tt = Sp.run s.data.toList m .caseW (d + 1) σ2) := by
              show _ = _
              rw [HE.out, Sp.run, HS2.out] ; simp only [hw]; rfl
              skip; first | done | rw [HE.out]
            go_wp2_with fail
            go_roundg m
            case measure => omega
            case rel => exact ⟨by omega, σ2, _, _, _, j + 1, _, _, _, by omega, Or.inl ⟨rfl, HEn.out, by omega⟩, HXi.out, HPi.out⟩
        | live e2 =>
          rw [hmu] at HPf c7
          have hzz : (((er (.live e2) : Nat) : Int) == 0) = true := rfl
          obtain ⟨σ2, HS2⟩ : ∃ σ2, Hid (Sp.run s.data.toList m .expr (d + 1) ((Sp.St.live e').must s.data.toList [116, 104, 101, 110]) = σ2) := ⟨_, rfl⟩
          have hs2 : Sp.run s.data.toList m .expr (d + 1) (.live e2) = σ2 := by rw [← HS2.out, hmu]
          rw [HS2.out] at r2
          rw [hmu] at r1
          go_wp2_with fail
          refine ((IH.out m (by omega)).expr (d + 1) (k + 1) c _ _ (by omega) (by show 32 * Sp.rem s.data.toList _ + 9 ≤ m; omega) HPf.out).mono ?_
          rintro r wg ⟨qg, rfl, hpg, hkg⟩
          rw [hs2] at hpg
          have HPg : Hid (RS b s (d + 1) (k + 1) c σ2 wg) := hpg
          have HXg : Hid (FX b w w.heap.size [.string ts, .int .i64 ta, .slice oi j ci, .int .i64 (-1), .string ts, .string ⟨#[]⟩, .int .i64 tn, .slice (some ⟨g1, 0, none⟩) (j + 1) cap1, .slice (some ⟨g2, 0, none⟩) (j + 1) cap2] [(3, 1, .slice oi j ci, j), (3, 1, .slice (some ⟨g1, 0, none⟩) (j + 1) cap1, j + 1), (9, 1, .slice (some ⟨g2, 0, none⟩) (j + 1) cap2, j + 1)] wg) := HXf.out.keep hkg
          clear hpg hkg c7 hs2
          have q2 := HXg.out.lq.cl 2 _ rfl
          have HXh : Hid (FX b w w.heap.size [.string ts, .int .i64 ta, .slice oi j ci, .int .i64 (-1), .string ts, .string ⟨#[]⟩, .int .i64 tn, .slice (some ⟨g1, 0, none⟩) (j + 1) cap1, .slice (some ⟨g2, 0, none⟩) (j + 1) cap2] [(3, 1, .slice oi j ci, j), (3, 1, .slice (some ⟨g1, 0, none⟩) (j + 1) cap1, j + 1), (9, 1, .slice (some ⟨g2, 0, none⟩) (j + 1) cap2, j + 1)] (wg.alloc (.cells #[.int .i64 qg] 3))) := HXg.out.alloc _
          obtain ⟨zs, hzs⟩ := (HXh.out.ll 0 _ rfl).own
          have HO3 : Hid ((wg.alloc (.cells #[.int .i64 qg] 3)).ownsRow w.heap.size 3 1 (.slice oi j ci) j zs) := hzs
          have hbc : w.heap.size ≤ (wg.alloc (.cells #[.int .i64 qg] 3)).heap.size := HXh.out.rk.size
          clear hzs
          go_wp2_with (at_builtin; refine wpList_append_lies _ rfl (.tmp 138) (.tmp 140) 206 rfl w.heap.size 3 i0 (.int .i64 0) 1 8 Tryz.underlying206 hi hz0 hz1 hz2 rfl (by decide) (.slice oi j ci) j zs rfl HO3.out ⟨wg.heap.size, 0, none⟩ 1 1 [.int .i64 qg] rfl rfl (one1 _ _ _) (int1 _) (by decide) h63 hby hbc _ rfl ?_; intro g3 cap3 wi hown3 hgrow3 hat3 hlt3; have HG3 : Hid (FX b w w.heap.size [.string ts, .int .i64 ta, .slice oi j ci, .int .i64 (-1), .string ts, .string ⟨#[]⟩, .int .i64 tn, .slice (some ⟨g1, 0, none⟩) (j + 1) cap1, .slice (some ⟨g2, 0, none⟩) (j + 1) cap2] [(3, 1, .slice (some ⟨g3, 0, none⟩) (j + 1) cap3, j + 1), (3, 1, .slice (some ⟨g1, 0, none⟩) (j + 1) cap1, j + 1), (9, 1, .slice (some ⟨g2, 0, none⟩) (j + 1) cap2, j + 1)] wi ∧ RS b s (d + 1) (k + 1) c σ2 wi) := HXh.out.grow (HPg.out.alloc _) 0 rfl hown3 hgrow3 hat3; clear hown3 hgrow3 hat3 hlt3; clear q2; have q2 := HG3.out.1.lq.cl 2 _ rfl; have g2' := HG3.out.1.lq.fz 2)
          have HXi : Hid (FX b w w.heap.size [.string ts, .int .i64 ta, .slice (some ⟨g3, 0, none⟩) (j + 1) cap3, .int .i64 (-1), .string ts, .string ⟨#[]⟩, .int .i64 tn, .slice (some ⟨g1, 0, none⟩) (j + 1) cap1, .slice (some ⟨g2, 0, none⟩) (j + 1) cap2] [(3, 1, .slice (some ⟨g3, 0, none⟩) (j + 1) cap3, j + 1), (3, 1, .slice (some ⟨g1, 0, none⟩) (j + 1) cap1, j + 1), (9, 1, .slice (some ⟨g2, 0, none⟩) (j + 1) cap2, j + 1)] (wi.setCell ⟨w.heap.size, 2, none⟩ (.slice (some ⟨g3, 0, none⟩) (j + 1) cap3))) := HG3.out.1.setq lb 2 (by simp) _
          have HPi : Hid (RS b s (d + 1) (k + 1) c σ2 (wi.setCell ⟨w.heap.size, 2, none⟩ (.slice (some ⟨g3, 0, none⟩) (j + 1) cap3))) := HG3.out.2.other _ 2 HG3.out.1.lq.nf _
          clear q2 g2' HG3
          generalize hwi : (wi.setCell ⟨w.heap.size, 2, none⟩ (.slice (some ⟨g3, 0, none⟩) (j + 1) cap3)) = wj at *
          clear hwi
          refine (ris_any HPi.out [119, 104, 101, 110]).mono ?_
          rintro r wk ⟨rfl, rfl⟩
          go_wp2_with fail
          refine (ris_any HPi.out [101, 108, 115, 101]).mono ?_
          rintro r wl ⟨rfl, rfl⟩
          cases hw : σ2.is s.data.toList [119, 104, 101, 110]
          · cases he : σ2.is s.data.toList [101, 108, 115, 101]
            · skip
              have HEn : Hid (Tt = σ2) := by
                show _ = _
                rw [HE.out, Sp.run, HS2.out] ; simp only [hw, he]; rfl
                skip; first | done | rw [HE.out]
              go_wp2_with fail
              go_roundg m
              case measure => omega
              case rel => exact ⟨by omega, σ2, _, _, _, j + 1, _, _, _, by omega, Or.inr (Or.inr (Or.inr ⟨rfl, HEn.out⟩)), HXi.out, HPi.out⟩
            · skip
              have HEn : Hid (Tt = Sp.run s.data.toList m .caseE (d + 1) σ2) := by
                show _ = _
                rw [HE.out, Sp.run, HS2.out] ; simp only [hw, he]; rfl
                skip; first | done | rw [HE.out]
              go_wp2_with fail
              go_roundg m
              case measure => omega
              case rel => exact ⟨by omega, σ2, _, _, _, j + 1, _, _, _, by omega, Or.inr (Or.inr (Or.inl ⟨rfl, HEn.out, by omega⟩)), HXi.out, HPi.out⟩
          · have hlt := rem_case (s := s.data.toList) (m := m) (D := (d + 1)) (e := e') (z := [116, 104, 101, 110]) (z' := [119, 104, 101, 110]) (by rw [HS2.out]; exact hw)
            rw [HS2.out] at hlt
            have HEn : Hid (Tt = Sp.run s.data.toList m .caseW (d + 1) σ2) := by
              show _ = _
              rw [HE.out, Sp.run, HS2.out] ; simp only [hw]; rfl
              skip; first | done | rw [HE.out]
            go_wp2_with fail
            go_roundg m
            case measure => omega
            case rel => exact ⟨by omega, σ2, _, _, _, j + 1, _, _, _, by omega, Or.inl ⟨rfl, HEn.out, by omega⟩, HXi.out, HPi.out⟩
      · obtain ⟨m, rfl⟩ : ∃ m, gk = m + 1 := ⟨gk - 1, by omega⟩
        obtain ⟨ta2, c2⟩ := HPr.out.tat
        have q7 := HXr.out.lq.cl 7 _ rfl
        have lq := HXr.out.lq.hi
        have HXa : Hid (FX b w w.heap.size [.string ts, .int .i64 ta, .slice oi j ci, .int .i64 (-1), .string ts, .string ⟨#[]⟩, .int .i64 tn, .slice op j cp, .slice ow j cw] [(3, 1, .slice oi j ci, j), (3, 1, .slice op j cp, j), (9, 1, .slice ow j cw, j)] (wr.alloc (.cells #[.int .i64 ta2] 3)).drew) := (HXr.out.alloc _).drew
        have HPa : Hid (RS b s (d + 1) (k + 1) c (.live e') (wr.alloc (.cells #[.int .i64 ta2] 3)).drew) := (HPr.out.alloc _).drew
        obtain ⟨xs, hxs⟩ := (HXa.out.ll 1 _ rfl).own
        have HO : Hid (((wr.alloc (.cells #[.int .i64 ta2] 3)).drew).ownsRow w.heap.size 3 1 (.slice op j cp) j xs) := hxs
        have HN : Hid (∀ p u, [Value.int .i64 ta2][p]? = some u → ((wr.alloc (.cells #[.int .i64 ta2] 3)).drew).cell? (Addr.add ⟨wr.heap.size, 0, none⟩ p) = some u) := one1d wr _ _
        have h63 : j + 1 ≤ maxLen := by unfold maxLen; omega
        have hby : (j + 1) * 8 ≤ 140737488355328 := by omega
        have hby16 : (j + 1) * 16 ≤ 140737488355328 := by omega
        have hba : w.heap.size ≤ ((wr.alloc (.cells #[.int .i64 ta2] 3)).drew).heap.size := HXa.out.rk.size
        clear hxs
        go_wp2_with fail
        go_region_law (refine step_append_lies (wr.alloc (.cells #[.int .i64 ta2] 3)).drew rfl (.tmp 112) (.tmp 118) 206 rfl w.heap.size 3 i0 (.int .i64 0) 1 8 Tryz.underlying206 hi hz0 hz1 hz2 rfl (by decide) (.slice op j cp) j xs rfl HO.out ⟨wr.heap.size, 0, none⟩ 1 1 [.int .i64 ta2] rfl rfl HN.out (int1 _) (by decide) h63 hby hba _ rfl ?_; intro g1 cap1 wb hown1 hgrow1 hat1 hlt1; have HG1 : Hid (FX b w w.heap.size [.string ts, .int .i64 ta, .slice oi j ci, .int .i64 (-1), .string ts, .string ⟨#[]⟩, .int .i64 tn, .slice op j cp, .slice ow j cw] [(3, 1, .slice oi j ci, j), (3, 1, .slice (some ⟨g1, 0, none⟩) (j + 1) cap1, j + 1), (9, 1, .slice ow j cw, j)] wb ∧ RS b s (d + 1) (k + 1) c (.live e') wb) := HXa.out.grow HPa.out 1 rfl hown1 hgrow1 hat1; clear hown1 hgrow1 hat1 hlt1; clear q7 c2 c7; have q7 := HG1.out.1.lq.cl 7 _ rfl; have g7 := HG1.out.1.lq.fz 7)
        all_goals
          clear q7 g7
          revert HG1
          revert g1 cap1 wb
        refine ?oneelse
        rotate_left
        exact ?oneelse
        exact ?oneelse
        intro g1 cap1 wb HG1
        have HXc : Hid (FX b w w.heap.size [.string ts, .int .i64 ta, .slice oi j ci, .int .i64 (-1), .string ts, .string ⟨#[]⟩, .int .i64 tn, .slice (some ⟨g1, 0, none⟩) (j + 1) cap1, .slice ow j cw] [(3, 1, .slice oi j ci, j), (3, 1, .slice (some ⟨g1, 0, none⟩) (j + 1) cap1, j + 1), (9, 1, .slice ow j cw, j)] (wb.setCell ⟨w.heap.size, 7, none⟩ (.slice (some ⟨g1, 0, none⟩) (j + 1) cap1))) := HG1.out.1.setq lb 7 (by simp) _
        have HPc : Hid (RS b s (d + 1) (k + 1) c (.live e') (wb.setCell ⟨w.heap.size, 7, none⟩ (.slice (some ⟨g1, 0, none⟩) (j + 1) cap1))) := HG1.out.2.other _ 7 HG1.out.1.lq.nf _
        clear HG1 HXa HPa HO HN hba
        generalize hwc : (wb.setCell ⟨w.heap.size, 7, none⟩ (.slice (some ⟨g1, 0, none⟩) (j + 1) cap1)) = wc at *
        clear hwc
        have q8 := HXc.out.lq.cl 8 _ rfl
        have HXd : Hid (FX b w w.heap.size [.string ts, .int .i64 ta, .slice oi j ci, .int .i64 (-1), .string ts, .string ⟨#[]⟩, .int .i64 tn, .slice (some ⟨g1, 0, none⟩) (j + 1) cap1, .slice ow j cw] [(3, 1, .slice oi j ci, j), (3, 1, .slice (some ⟨g1, 0, none⟩) (j + 1) cap1, j + 1), (9, 1, .slice ow j cw, j)] (wc.alloc (.cells #[.string ⟨#[101, 108, 115, 101]⟩] 9))) := HXc.out.alloc _
        obtain ⟨ys, hys⟩ := (HXd.out.ll 2 _ rfl).own
        have HO2 : Hid ((wc.alloc (.cells #[.string ⟨#[101, 108, 115, 101]⟩] 9)).ownsRow w.heap.size 9 1 (.slice ow j cw) j ys) := hys
        have hbb : w.heap.size ≤ (wc.alloc (.cells #[.string ⟨#[101, 108, 115, 101]⟩] 9)).heap.size := HXd.out.rk.size
        clear hys
        go_wp2_with (at_builtin; refine wpList_append_lies _ rfl (.tmp 122) (.tmp 124) 50 rfl w.heap.size 9 i1 (.string ⟨#[]⟩) 1 16 Tryz.underlying50 hi1 hy0 hy1 hy2 rfl (by decide) (.slice ow j cw) j ys rfl HO2.out ⟨wc.heap.size, 0, none⟩ 1 1 [.string ⟨#[101, 108, 115, 101]⟩] rfl rfl (one1 _ _ _) (str1 _) (by decide) h63 hby16 hbb _ rfl ?_; intro g2 cap2 wd hown2 hgrow2 hat2 hlt2; have HG2 : Hid (FX b w w.heap.size [.string ts, .int .i64 ta, .slice oi j ci, .int .i64 (-1), .string ts, .string ⟨#[]⟩, .int .i64 tn, .slice (some ⟨g1, 0, none⟩) (j + 1) cap1, .slice ow j cw] [(3, 1, .slice oi j ci, j), (3, 1, .slice (some ⟨g1, 0, none⟩) (j + 1) cap1, j + 1), (9, 1, .slice (some ⟨g2, 0, none⟩) (j + 1) cap2, j + 1)] wd ∧ RS b s (d + 1) (k + 1) c (.live e') wd) := HXd.out.grow (HPc.out.alloc _) 2 rfl hown2 hgrow2 hat2; clear hown2 hgrow2 hat2 hlt2; clear q8; have q8 := HG2.out.1.lq.cl 8 _ rfl; have g8 := HG2.out.1.lq.fz 8)
        have HXe : Hid (FX b w w.heap.size [.string ts, .int .i64 ta, .slice oi j ci, .int .i64 (-1), .string ts, .string ⟨#[]⟩, .int .i64 tn, .slice (some ⟨g1, 0, none⟩) (j + 1) cap1, .slice (some ⟨g2, 0, none⟩) (j + 1) cap2] [(3, 1, .slice oi j ci, j), (3, 1, .slice (some ⟨g1, 0, none⟩) (j + 1) cap1, j + 1), (9, 1, .slice (some ⟨g2, 0, none⟩) (j + 1) cap2, j + 1)] (wd.setCell ⟨w.heap.size, 8, none⟩ (.slice (some ⟨g2, 0, none⟩) (j + 1) cap2))) := HG2.out.1.setq lb 8 (by simp) _
        have HPe : Hid (RS b s (d + 1) (k + 1) c (.live e') (wd.setCell ⟨w.heap.size, 8, none⟩ (.slice (some ⟨g2, 0, none⟩) (j + 1) cap2))) := HG2.out.2.other _ 8 HG2.out.1.lq.nf _
        refine (rmust_any HPe.out [101, 108, 115, 101] (k + 1) (by have := far_must s.data.toList [101, 108, 115, 101] (.live e'); omega)).mono ?_
        rintro r wf ⟨rfl, hpf, hkf⟩
        have HPf : Hid (RS b s (d + 1) (k + 1) c ((Sp.St.live e').must s.data.toList [101, 108, 115, 101]) wf) := hpf
        have HXf : Hid (FX b w w.heap.size [.string ts, .int .i64 ta, .slice oi j ci, .int .i64 (-1), .string ts, .string ⟨#[]⟩, .int .i64 tn, .slice (some ⟨g1, 0, none⟩) (j + 1) cap1, .slice (some ⟨g2, 0, none⟩) (j + 1) cap2] [(3, 1, .slice oi j ci, j), (3, 1, .slice (some ⟨g1, 0, none⟩) (j + 1) cap1, j + 1), (9, 1, .slice (some ⟨g2, 0, none⟩) (j + 1) cap2, j + 1)] wf) := HXe.out.keep hkf
        clear hpf hkf q8 g8 HXc HPc HXd HO2 HG2 HXe HPe hbb
        have c7 := HPf.out.err
        have r1 := Sp.rem_must s.data.toList [101, 108, 115, 101] (.live e')
        have r2 := Nat.le_trans (Sp.rem_run s.data.toList m .expr (d + 1) ((Sp.St.live e').must s.data.toList [101, 108, 115, 101])) r1
        cases hmu : (Sp.St.live e').must s.data.toList [101, 108, 115, 101] with
        | dead y a =>
          rw [hmu] at HPf c7
          have hzz := er_dead HPf.out
          obtain ⟨σ2, HS2⟩ : ∃ σ2, Hid (Sp.run s.data.toList m .expr (d + 1) ((Sp.St.live e').must s.data.toList [101, 108, 115, 101]) = σ2) := ⟨_, rfl⟩
          have hs2 : Sp.St.dead y a = σ2 := by rw [← HS2.out, hmu, run_dead]
          rw [HS2.out] at r2
          have HPg : Hid (RS b s (d + 1) (k + 1) c σ2 wf) := by rw [← hs2]; exact HPf.out
          have HXg := HXf
          clear hs2
          have q2 := HXg.out.lq.cl 2 _ rfl
          have HXh : Hid (FX b w w.heap.size [.string ts, .int .i64 ta, .slice oi j ci, .int .i64 (-1), .string ts, .string ⟨#[]⟩, .int .i64 tn, .slice (some ⟨g1, 0, none⟩) (j + 1) cap1, .slice (some ⟨g2, 0, none⟩) (j + 1) cap2] [(3, 1, .slice oi j ci, j), (3, 1, .slice (some ⟨g1, 0, none⟩) (j + 1) cap1, j + 1), (9, 1, .slice (some ⟨g2, 0, none⟩) (j + 1) cap2, j + 1)] (wf.alloc (.cells #[.int .i64 0] 3))) := HXg.out.alloc _
          obtain ⟨zs, hzs⟩ := (HXh.out.ll 0 _ rfl).own
          have HO3 : Hid ((wf.alloc (.cells #[.int .i64 0] 3)).ownsRow w.heap.size 3 1 (.slice oi j ci) j zs) := hzs
          have hbc : w.heap.size ≤ (wf.alloc (.cells #[.int .i64 0] 3)).heap.size := HXh.out.rk.size
          clear hzs
          go_wp2_with (at_builtin; refine wpList_append_lies _ rfl (.tmp 138) (.tmp 140) 206 rfl w.heap.size 3 i0 (.int .i64 0) 1 8 Tryz.underlying206 hi hz0 hz1 hz2 rfl (by decide) (.slice oi j ci) j zs rfl HO3.out ⟨wf.heap.size, 0, none⟩ 1 1 [.int .i64 0] rfl rfl (one1 _ _ _) (int1 _) (by decide) h63 hby hbc _ rfl ?_; intro g3 cap3 wi hown3 hgrow3 hat3 hlt3; have HG3 : Hid (FX b w w.heap.size [.string ts, .int .i64 ta, .slice oi j ci, .int .i64 (-1), .string ts, .string ⟨#[]⟩, .int .i64 tn, .slice (some ⟨g1, 0, none⟩) (j + 1) cap1, .slice (some ⟨g2, 0, none⟩) (j + 1) cap2] [(3, 1, .slice (some ⟨g3, 0, none⟩) (j + 1) cap3, j + 1), (3, 1, .slice (some ⟨g1, 0, none⟩) (j + 1) cap1, j + 1), (9, 1, .slice (some ⟨g2, 0, none⟩) (j + 1) cap2, j + 1)] wi ∧ RS b s (d + 1) (k + 1) c σ2 wi) := HXh.out.grow (HPg.out.alloc _) 0 rfl hown3 hgrow3 hat3; clear hown3 hgrow3 hat3 hlt3; clear q2; have q2 := HG3.out.1.lq.cl 2 _ rfl; have g2' := HG3.out.1.lq.fz 2)
          have HXi : Hid (FX b w w.heap.size [.string ts, .int .i64 ta, .slice (some ⟨g3, 0, none⟩) (j + 1) cap3, .int .i64 (-1), .string ts, .string ⟨#[]⟩, .int .i64 tn, .slice (some ⟨g1, 0, none⟩) (j + 1) cap1, .slice (some ⟨g2, 0, none⟩) (j + 1) cap2] [(3, 1, .slice (some ⟨g3, 0, none⟩) (j + 1) cap3, j + 1), (3, 1, .slice (some ⟨g1, 0, none⟩) (j + 1) cap1, j + 1), (9, 1, .slice (some ⟨g2, 0, none⟩) (j + 1) cap2, j + 1)] (wi.setCell ⟨w.heap.size, 2, none⟩ (.slice (some ⟨g3, 0, none⟩) (j + 1) cap3))) := HG3.out.1.setq lb 2 (by simp) _
          have HPi : Hid (RS b s (d + 1) (k + 1) c σ2 (wi.setCell ⟨w.heap.size, 2, none⟩ (.slice (some ⟨g3, 0, none⟩) (j + 1) cap3))) := HG3.out.2.other _ 2 HG3.out.1.lq.nf _
          clear q2 g2' HG3
          generalize hwi : (wi.setCell ⟨w.heap.size, 2, none⟩ (.slice (some ⟨g3, 0, none⟩) (j + 1) cap3)) = wj at *
          clear hwi
          refine (ris_any HPi.out [119, 104, 101, 110]).mono ?_
          rintro r wk ⟨rfl, rfl⟩
          go_wp2_with fail
          refine (ris_any HPi.out [101, 108, 115, 101]).mono ?_
          rintro r wl ⟨rfl, rfl⟩
          have HEn : Hid (Tt = σ2) := by
            show _ = _
            rw [HE.out, Sp.run, HS2.out]
          go_wp2_with fail
          go_roundg m
          case measure => omega
          case rel => exact ⟨by omega, σ2, _, _, _, j + 1, _, _, _, by omega, Or.inr (Or.inr (Or.inr ⟨rfl, HEn.out⟩)), HXi.out, HPi.out⟩
        | live e2 =>
          rw [hmu] at HPf c7
          have hzz : (((er (.live e2) : Nat) : Int) == 0) = true := rfl
          obtain ⟨σ2, HS2⟩ : ∃ σ2, Hid (Sp.run s.data.toList m .expr (d + 1) ((Sp.St.live e').must s.data.toList [101, 108, 115, 101]) = σ2) := ⟨_, rfl⟩
          have hs2 : Sp.run s.data.toList m .expr (d + 1) (.live e2) = σ2 := by rw [← HS2.out, hmu]
          rw [HS2.out] at r2
          rw [hmu] at r1
          go_wp2_with fail
          refine ((IH.out m (by omega)).expr (d + 1) (k + 1) c _ _ (by omega) (by show 32 * Sp.rem s.data.toList _ + 9 ≤ m; omega) HPf.out).mono ?_
          rintro r wg ⟨qg, rfl, hpg, hkg⟩
          rw [hs2] at hpg
          have HPg : Hid (RS b s (d + 1) (k + 1) c σ2 wg) := hpg
          have HXg : Hid (FX b w w.heap.size [.string ts, .int .i64 ta, .slice oi j ci, .int .i64 (-1), .string ts, .string ⟨#[]⟩, .int .i64 tn, .slice (some ⟨g1, 0, none⟩) (j + 1) cap1, .slice (some ⟨g2, 0, none⟩) (j + 1) cap2] [(3, 1, .slice oi j ci, j), (3, 1, .slice (some ⟨g1, 0, none⟩) (j + 1) cap1, j + 1), (9, 1, .slice (some ⟨g2, 0, none⟩) (j + 1) cap2, j + 1)] wg) := HXf.out.keep hkg
          clear hpg hkg c7 hs2
          have q2 := HXg.out.lq.cl 2 _ rfl
          have HXh : Hid (FX b w w.heap.size [.string ts, .int .i64 ta, .slice oi j ci, .int .i64 (-1), .string ts, .string ⟨#[]⟩, .int .i64 tn, .slice (some ⟨g1, 0, none⟩) (j + 1) cap1, .slice (some ⟨g2, 0, none⟩) (j + 1) cap2] [(3, 1, .slice oi j ci, j), (3, 1, .slice (some ⟨g1, 0, none⟩) (j + 1) cap1, j + 1), (9, 1, .slice (some ⟨g2, 0, none⟩) (j + 1) cap2, j + 1)] (wg.alloc (.cells #[.int .i64 qg] 3))) := HXg.out.alloc _
          obtain ⟨zs, hzs⟩ := (HXh.out.ll 0 _ rfl).own
          have HO3 : Hid ((wg.alloc (.cells #[.int .i64 qg] 3)).ownsRow w.heap.size 3 1 (.slice oi j ci) j zs) := hzs
          have hbc : w.heap.size ≤ (wg.alloc (.cells #[.int .i64 qg] 3)).heap.size := HXh.out.rk.size
          clear hzs
          go_wp2_with (at_builtin; refine wpList_append_lies _ rfl (.tmp 138) (.tmp 140) 206 rfl w.heap.size 3 i0 (.int .i64 0) 1 8 Tryz.underlying206 hi hz0 hz1 hz2 rfl (by decide) (.slice oi j ci) j zs rfl HO3.out ⟨wg.heap.size, 0, none⟩ 1 1 [.int .i64 qg] rfl rfl (one1 _ _ _) (int1 _) (by decide) h63 hby hbc _ rfl ?_; intro g3 cap3 wi hown3 hgrow3 hat3 hlt3; have HG3 : Hid (FX b w w.heap.size [.string ts, .int .i64 ta, .slice oi j ci, .int .i64 (-1), .string ts, .string ⟨#[]⟩, .int .i64 tn, .slice (some ⟨g1, 0, none⟩) (j + 1) cap1, .slice (some ⟨g2, 0, none⟩) (j + 1) cap2] [(3, 1, .slice (some ⟨g3, 0, none⟩) (j + 1) cap3, j + 1), (3, 1, .slice (some ⟨g1, 0, none⟩) (j + 1) cap1, j + 1), (9, 1, .slice (some ⟨g2, 0, none⟩) (j + 1) cap2, j + 1)] wi ∧ RS b s (d + 1) (k + 1) c σ2 wi) := HXh.out.grow (HPg.out.alloc _) 0 rfl hown3 hgrow3 hat3; clear hown3 hgrow3 hat3 hlt3; clear q2; have q2 := HG3.out.1.lq.cl 2 _ rfl; have g2' := HG3.out.1.lq.fz 2)
          have HXi : Hid (FX b w w.heap.size [.string ts, .int .i64 ta, .slice (some ⟨g3, 0, none⟩) (j + 1) cap3, .int .i64 (-1), .string ts, .string ⟨#[]⟩, .int .i64 tn, .slice (some ⟨g1, 0, none⟩) (j + 1) cap1, .slice (some ⟨g2, 0, none⟩) (j + 1) cap2] [(3, 1, .slice (some ⟨g3, 0, none⟩) (j + 1) cap3, j + 1), (3, 1, .slice (some ⟨g1, 0, none⟩) (j + 1) cap1, j + 1), (9, 1, .slice (some ⟨g2, 0, none⟩) (j + 1) cap2, j + 1)] (wi.setCell ⟨w.heap.size, 2, none⟩ (.slice (some ⟨g3, 0, none⟩) (j + 1) cap3))) := HG3.out.1.setq lb 2 (by simp) _
          have HPi : Hid (RS b s (d + 1) (k + 1) c σ2 (wi.setCell ⟨w.heap.size, 2, none⟩ (.slice (some ⟨g3, 0, none⟩) (j + 1) cap3))) := HG3.out.2.other _ 2 HG3.out.1.lq.nf _
          clear q2 g2' HG3
          generalize hwi : (wi.setCell ⟨w.heap.size, 2, none⟩ (.slice (some ⟨g3, 0, none⟩) (j + 1) cap3)) = wj at *
          clear hwi
          refine (ris_any HPi.out [119, 104, 101, 110]).mono ?_
          rintro r wk ⟨rfl, rfl⟩
          go_wp2_with fail
          refine (ris_any HPi.out [101, 108, 115, 101]).mono ?_
          rintro r wl ⟨rfl, rfl⟩
          have HEn : Hid (Tt = σ2) := by
            show _ = _
            rw [HE.out, Sp.run, HS2.out]
          go_wp2_with fail
          go_roundg m
          case measure => omega
          case rel => exact ⟨by omega, σ2, _, _, _, j + 1, _, _, _, by omega, Or.inr (Or.inr (Or.inr ⟨rfl, HEn.out⟩)), HXi.out, HPi.out⟩
      · go_wp2_with fail
        refine (rmust_any HPr.out [101, 110, 100] (k + 1) (by have := far_must s.data.toList [101, 110, 100] (Sp.St.live e'); omega)).mono ?_
        rintro r w4 ⟨rfl, hp4, hk4⟩
        have HP4 : Hid (RS b s (d + 1) (k + 1) c ((Sp.St.live e').must s.data.toList [101, 110, 100]) w4) := hp4
        have HX4 : Hid (FX b w w.heap.size [.string ts, .int .i64 ta, .slice oi j ci, .int .i64 (-1), .string ts, .string ⟨#[]⟩, .int .i64 tn, .slice op j cp, .slice ow j cw] [(3, 1, .slice oi j ci, j), (3, 1, .slice op j cp, j), (9, 1, .slice ow j cw, j)] w4) := HXr.out.keep hk4
        clear hp4 hk4
        obtain ⟨c6, f6⟩ := HP4.out.opn
        have hne : b ≠ w.heap.size := by omega
        have hne' : w.heap.size ≠ b := by omega
        have q0 := HX4.out.lq.cl 0 _ rfl
        have q1 := HX4.out.lq.cl 1 _ rfl
        have q2 := HX4.out.lq.cl 2 _ rfl
        have q3 := HX4.out.lq.cl 3 _ rfl
        have q4 := HX4.out.lq.cl 4 _ rfl
        have q5 := HX4.out.lq.cl 5 _ rfl
        have q6 := HX4.out.lq.cl 6 _ rfl
        have q7 := HX4.out.lq.cl 7 _ rfl
        have q8 := HX4.out.lq.cl 8 _ rfl
        have HP5 : Hid (RS b s d (k + 1) c ((Sp.St.live e').must s.data.toList [101, 110, 100]) (w4.setCell ⟨b, 6, none⟩ (.int .i64 (d : Int)))) := HP4.out.deep (d' := d) _ rfl
        have HX5 : Hid (FX b w w.heap.size [.string ts, .int .i64 ta, .slice oi j ci, .int .i64 (-1), .string ts, .string ⟨#[]⟩, .int .i64 tn, .slice op j cp, .slice ow j cw] [(3, 1, .slice oi j ci, j), (3, 1, .slice op j cp, j), (9, 1, .slice ow j cw, j)] (w4.setCell ⟨b, 6, none⟩ (.int .i64 (d : Int)))) := HX4.out.keep ((RK.refl b w4).set 6 (by decide) _)
        go_wp2_with fail
        refine (rnode_any HP5.out _ _ _ _ _ _ _ _ _ (one9 _ _ _ _ _ _ _ _ _ rfl rfl rfl)).mono ?_
        rintro r wn ⟨qn, rfl, hpn, hkn⟩
        have HPn : Hid (RS b s d k c ((Sp.St.live e').must s.data.toList [101, 110, 100]) wn) := hpn
        have HKn : Hid (RK b w wn) := HX5.out.rk.trans hkn
        clear hpn hkn q0 q1 q2 q3 q4 q5 q6 q7 q8
        go_wp2_with fail
        go_ret
        exact ⟨_, rfl, by rw [HT.out, HE.out]; exact HPn.out, HKn.out⟩
end Go.Proofs.YtgnncnhkgmhngaaGreatDoor
