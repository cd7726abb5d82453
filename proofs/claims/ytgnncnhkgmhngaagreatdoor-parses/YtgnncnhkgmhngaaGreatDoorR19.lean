import Derived.Test.YtgnncnhkgmhngaaGreatDoorR18
namespace Go.Proofs.YtgnncnhkgmhngaaGreatDoor
open Go.RowKit

theorem news1' (w : World) (cs : Array Value) (t : TypeId) (q : Nat) (hq : w.heap.size = q) : ∀ j u, cs.toList[j]? = some u → (w.alloc (.cells cs t)).cell? (Addr.add ⟨q, 0, none⟩ j) = some u := by
  subst hq; exact news1 w cs t
theorem nameT_yes {s : Sp.Bs} {σ : Sp.St} (h : σ.isCl s .name = true) : σ.nameT s = σ.step s := by rw [Sp.St.nameT, h]; rfl

set_option maxRecDepth 100000 in
set_option maxHeartbeats 8000000 in
theorem rfactor_step {b : Nat} {s : ByteArray} {n : Nat} (IH : Hid (∀ m, m ≤ n → RAll b s m)) : Rd b s (n + 1) .factor 168 := by
  intro d k c σ w hd hm hp
  have hm' : 32 * Sp.rem s.data.toList σ + 12 ≤ n + 1 := hm
  clear hm
  have HP : Hid (RS b s d k c σ w) := hp
  have lb := hp.lb
  clear hp
  have c7 := HP.out.err
  cases σ with
  | dead y a =>
    have hz := er_dead HP.out
    go_enter Tryz.func168, Tryz.ntmps168
    go_wp2_with fail
    go_ret
    exact ⟨_, rfl, by rw [run_dead]; exact HP.out, RK.refl _ _⟩
  | live e =>
    have hz : (((er (.live e) : Nat) : Int) == 0) = true := rfl
    cases hs : (Sp.St.live e).is s.data.toList [40]
    · obtain ⟨ta, c2⟩ := HP.out.tat
      obtain ⟨i0, hi, hz0, hz1, hz2⟩ := info_parts Tryz.info290
      obtain ⟨σ1, HS1⟩ : ∃ σ1, Hid (((Sp.St.live e).must s.data.toList [115, 101, 108, 101, 99, 116]).take s.data.toList [100, 105, 115, 116, 105, 110, 99, 116] = σ1) := ⟨_, rfl⟩
      have r1 : Sp.rem s.data.toList σ1 ≤ Sp.rem s.data.toList (.live e) := by rw [← HS1.out]; exact Nat.le_trans (Sp.rem_take _ _ _) (Sp.rem_must _ _ _)
      obtain ⟨σ2, HS2⟩ : ∃ σ2, Hid ((if σ1.is s.data.toList [42] then σ1.step s.data.toList else Sp.run s.data.toList n .list d σ1) = σ2) := ⟨_, rfl⟩
      have r2 : Sp.rem s.data.toList σ2 ≤ Sp.rem s.data.toList (.live e) := by
        rw [← HS2.out]; split
        · exact Nat.le_trans (Sp.rem_step_le _ _) r1
        · exact Nat.le_trans (Sp.rem_run _ _ _ _ _) r1
      obtain ⟨σ3, HS3⟩ : ∃ σ3, Hid ((if σ2.is s.data.toList [102, 114, 111, 109] then Sp.run s.data.toList n .fromL d (σ2.step s.data.toList) else σ2) = σ3) := ⟨_, rfl⟩
      have r3 : Sp.rem s.data.toList σ3 ≤ Sp.rem s.data.toList (.live e) := by
        rw [← HS3.out]; split
        · exact Nat.le_trans (Sp.rem_run _ _ _ _ _) (Nat.le_trans (Sp.rem_step_le _ _) r2)
        · exact r2
      have HV : Hid (Sp.run s.data.toList (n + 1) .factor d (.live e) = Sp.run s.data.toList n .where_ d σ3) := by
        show _ = _
        rw [← HS3.out, ← HS2.out, ← HS1.out, Sp.run, hs]; rfl
      have HX0 : Hid (FX b w w.heap.size [.string ⟨#[115, 101, 108, 101, 99, 116]⟩, .bool false, .int .i64 ta, .int .i64 0, .int .i64 0, .bool false, .int .i64 (-1), .slice none 0 0, .slice none 0 0, .int .i64 (-1), .int .i64 0] [(290, 4, .slice none 0 0, 0)] (w.alloc (.cells #[.string ⟨#[115, 101, 108, 101, 99, 116]⟩, .bool false, .int .i64 ta, .int .i64 0, .int .i64 0, .bool false, .int .i64 (-1), .slice none 0 0, .slice none 0 0, .int .i64 (-1), .int .i64 0] 219))) := FX.new HP.out _ _ _ (by simp)
      go_enter Tryz.func168, Tryz.ntmps168
      go_wp2_with fail
      refine (ris_any HP.out [40]).mono ?_
      rintro r w9 ⟨rfl, rfl⟩
      go_wp2_with fail
      refine (rmust_any (HP.out.alloc _) [115, 101, 108, 101, 99, 116] (k + 1) (by have := far_mustL s.data.toList [115, 101, 108, 101, 99, 116] e; omega)).mono ?_
      rintro r w2 ⟨rfl, hp2, hk2⟩
      have HP2 : Hid (RS b s d (k + 1) c ((Sp.St.live e).must s.data.toList [115, 101, 108, 101, 99, 116]) w2) := hp2
      have HX2 : Hid (FX b w9 w9.heap.size [.string ⟨#[115, 101, 108, 101, 99, 116]⟩, .bool false, .int .i64 ta, .int .i64 0, .int .i64 0, .bool false, .int .i64 (-1), .slice none 0 0, .slice none 0 0, .int .i64 (-1), .int .i64 0] [(290, 4, .slice none 0 0, 0)] w2) := HX0.out.keep hk2
      clear hp2 hk2 c7 c2
      have g5 := HX2.out.lq.fz 5
      have q5 := HX2.out.lq.cl 5 _ rfl
      go_wp2_with fail
      refine (rtake_any HP2.out [100, 105, 115, 116, 105, 110, 99, 116]).mono ?_
      rintro r w3 ⟨rfl, hp3, hk3⟩
      have HX3 : Hid (FX b w9 w9.heap.size [.string ⟨#[115, 101, 108, 101, 99, 116]⟩, .bool false, .int .i64 ta, .int .i64 0, .int .i64 0, .bool false, .int .i64 (-1), .slice none 0 0, .slice none 0 0, .int .i64 (-1), .int .i64 0] [(290, 4, .slice none 0 0, 0)] w3) := HX2.out.keep hk3
      clear g5 q5
      have g5 := HX3.out.lq.fz 5
      have q5 := HX3.out.lq.cl 5 _ rfl
      generalize ((Sp.St.live e).must s.data.toList [115, 101, 108, 101, 99, 116]).is s.data.toList [100, 105, 115, 116, 105, 110, 99, 116] = al
      have hp4 := hp3.other w9.heap.size 5 HX3.out.lq.nf (.bool al)
      rw [HS1.out] at hp4
      have HP4 : Hid (RS b s d (k + 1) c σ1 (w3.setCell ⟨w9.heap.size, 5, none⟩ (.bool al))) := hp4
      have HX4 : Hid (FX b w9 w9.heap.size [.string ⟨#[115, 101, 108, 101, 99, 116]⟩, .bool false, .int .i64 ta, .int .i64 0, .int .i64 0, .bool al, .int .i64 (-1), .slice none 0 0, .slice none 0 0, .int .i64 (-1), .int .i64 0] [(290, 4, .slice none 0 0, 0)] (w3.setCell ⟨w9.heap.size, 5, none⟩ (.bool al))) := HX3.out.setq lb 5 (by simp) _
      clear hp3 hk3 hp4 HP2 HX2 HX0
      go_wp2_with fail
      clear g5 q5
      generalize hw4 : w3.setCell ⟨w9.heap.size, 5, none⟩ (.bool al) = w4 at *
      clear hw4 HX3
      refine (ris_any HP4.out [42]).mono ?_
      rintro r w5 ⟨rfl, rfl⟩
      cases hst : σ1.is s.data.toList [42]
      · have hv2 : σ2 = Sp.run s.data.toList n .list d σ1 := by rw [← HS2.out, hst]; rfl
        have q7 := HX4.out.lq.cl 7 _ rfl
        have g7 := HX4.out.lq.fz 7
        go_wp2_with fail
        refine ((IH.out n (Nat.le_refl _)).list d (k + 1) c σ1 _ (by omega) (by omega) HP4.out).mono ?_
        rintro r wl ⟨ol, ml, cl, rfl, hpl, hkl⟩
        rw [← hv2] at hpl
        have HPl : Hid (RS b s d (k + 1) c σ2 wl) := hpl
        have HXl : Hid (FX b w9 w9.heap.size [.string ⟨#[115, 101, 108, 101, 99, 116]⟩, .bool false, .int .i64 ta, .int .i64 0, .int .i64 0, .bool al, .int .i64 (-1), .slice none 0 0, .slice none 0 0, .int .i64 (-1), .int .i64 0] [(290, 4, .slice none 0 0, 0)] wl) := HX4.out.keep hkl
        clear hpl hkl q7 g7
        have q7 := HXl.out.lq.cl 7 _ rfl
        have g7 := HXl.out.lq.fz 7
        have HPa' : Hid (RS b s d (k + 1) c σ2 (wl.setCell ⟨w9.heap.size, 7, none⟩ (.slice ol ml cl))) := HPl.out.other _ 7 HXl.out.lq.nf _
        have HXa' : Hid (FX b w9 w9.heap.size [.string ⟨#[115, 101, 108, 101, 99, 116]⟩, .bool false, .int .i64 ta, .int .i64 0, .int .i64 0, .bool al, .int .i64 (-1), .slice ol ml cl, .slice none 0 0, .int .i64 (-1), .int .i64 0] [(290, 4, .slice none 0 0, 0)] (wl.setCell ⟨w9.heap.size, 7, none⟩ (.slice ol ml cl))) := HXl.out.setq lb 7 (by simp) _
        obtain ⟨wa, hwa⟩ : ∃ wa, wa = wl.setCell ⟨w9.heap.size, 7, none⟩ (.slice ol ml cl) := ⟨_, rfl⟩
        have HPa : Hid (RS b s d (k + 1) c σ2 wa) := by rw [hwa]; exact HPa'
        obtain ⟨st, hst'⟩ : ∃ st : Int, st = -1 := ⟨_, rfl⟩
        obtain ⟨vi, hvi0⟩ : ∃ vi : Value, vi = .slice ol ml cl := ⟨_, rfl⟩
        have hvi : vi.oneCell' = true := by rw [hvi0]; rfl
        have HXb : Hid (FX b w9 w9.heap.size [.string ⟨#[115, 101, 108, 101, 99, 116]⟩, .bool false, .int .i64 ta, .int .i64 0, .int .i64 0, .bool al, .int .i64 st, vi, .slice none 0 0, .int .i64 (-1), .int .i64 0] [(290, 4, .slice none 0 0, 0)] wa) := by rw [hvi0, hst', hwa]; exact HXa'.out
        clear HP4 HX4
        go_wp2_with fail
        rw [← hwa]
        clear hv2 hst' hvi0
        refine (rtake_any HPa.out [102, 114, 111, 109]).mono ?_
        rintro r wb ⟨rfl, hpb, hkb⟩
        have HPb : Hid (RS b s d (k + 1) c (σ2.take s.data.toList [102, 114, 111, 109]) wb) := hpb
        have HXc : Hid (FX b w9 w9.heap.size [.string ⟨#[115, 101, 108, 101, 99, 116]⟩, .bool false, .int .i64 ta, .int .i64 0, .int .i64 0, .bool al, .int .i64 st, vi, .slice none 0 0, .int .i64 (-1), .int .i64 0] [(290, 4, .slice none 0 0, 0)] wb) := HXb.out.keep hkb
        clear hpb hkb
        have HE0 : Hid (σ3 = if Sp.St.is s.data.toList [102, 114, 111, 109] σ2 = true then Sp.run s.data.toList n .fromL d (σ2.take s.data.toList [102, 114, 111, 109]) else σ2.take s.data.toList [102, 114, 111, 109]) := by
          show _ = _
          rw [← HS3.out, Sp.St.take]; split <;> rfl
        have hf0 : Sp.St.is s.data.toList [102, 114, 111, 109] σ2 = true → 32 * Sp.rem s.data.toList (σ2.take s.data.toList [102, 114, 111, 109]) + 2 ≤ n := by
          intro hc
          have := Sp.rem_take s.data.toList [102, 114, 111, 109] σ2
          omega
        go_wp2_with fail
        go_loopg [4] n (fun m u wr => ∃ (f : Bool) (σ' : Sp.St) (o : Option Addr) (j cp : Nat), u = .bool f ∧ m ≤ n ∧ j + m ≤ n ∧ (f = true → 32 * Sp.rem s.data.toList σ' + 2 ≤ m) ∧ Hid (σ3 = if f = true then Sp.run s.data.toList m .fromL d σ' else σ') ∧ Hid (FX b w9 w9.heap.size [.string ⟨#[115, 101, 108, 101, 99, 116]⟩, .bool false, .int .i64 ta, .int .i64 0, .int .i64 0, .bool al, .int .i64 st, vi, .slice o j cp, .int .i64 (-1), .int .i64 0] [(290, 4, .slice o j cp, j)] wr) ∧ Hid (RS b s d (k + 1) c σ' wr))
        case atStart => exact ⟨_, _, _, _, _, rfl, Nat.le_refl _, by omega, hf0, HE0.out, HXc.out, HPb.out⟩
        case round =>
          obtain ⟨f, σ', o, j, cp, rfl, hmn, hjm, hms, HR, HXr, HPr⟩ := hrel
          have c7 := HPr.out.err
          cases f
          · have HE : Hid (σ3 = σ') := by show _ = _; rw [HR.out]; rfl
            have q9 := HXr.out.lq.cl 9 _ rfl
            have q10 := HXr.out.lq.cl 10 _ rfl
            have g9 := HXr.out.lq.fz 9
            have g10 := HXr.out.lq.fz 10
            go_wp2_with fail
            refine ((IH.out n (Nat.le_refl _)).where_ d (k + 1) c _ _ (by omega) (by rw [HE.out] at r3; omega) HPr.out).mono ?_
            rintro r w6 ⟨p6, a6, rfl, hp6, hk6⟩
            have HP6 : Hid (RS b s d (k + 1) c (Sp.run s.data.toList n .where_ d σ') w6) := hp6
            have HX6 : Hid (FX b w9 w9.heap.size [.string ⟨#[115, 101, 108, 101, 99, 116]⟩, .bool false, .int .i64 ta, .int .i64 0, .int .i64 0, .bool al, .int .i64 st, vi, .slice o j cp, .int .i64 (-1), .int .i64 0] [(290, 4, .slice o j cp, j)] w6) := HXr.out.keep hk6
            clear hp6 hk6 q9 q10 g9 g10
            have HX7 : Hid (FX b w9 w9.heap.size [.string ⟨#[115, 101, 108, 101, 99, 116]⟩, .bool false, .int .i64 ta, .int .i64 0, .int .i64 0, .bool al, .int .i64 st, vi, .slice o j cp, .int .i64 p6, .int .i64 a6] [(290, 4, .slice o j cp, j)] ((w6.setCell ⟨w9.heap.size, 9, none⟩ (.int .i64 p6)).setCell ⟨w9.heap.size, 10, none⟩ (.int .i64 a6))) := (HX6.out.setq lb 9 (by simp) _).setq lb 10 (by simp) _
            have HP7 : Hid (RS b s d (k + 1) c (Sp.run s.data.toList n .where_ d σ') ((w6.setCell ⟨w9.heap.size, 9, none⟩ (.int .i64 p6)).setCell ⟨w9.heap.size, 10, none⟩ (.int .i64 a6))) := (HP6.out.other _ 9 HX6.out.lq.nf _).other _ 10 (HX6.out.setq lb 9 (by simp) _).lq.nf _
            have q0 := HX6.out.lq.cl 0 _ rfl
            have q1 := HX6.out.lq.cl 1 _ rfl
            have q2 := HX6.out.lq.cl 2 _ rfl
            have q3 := HX6.out.lq.cl 3 _ rfl
            have q4 := HX6.out.lq.cl 4 _ rfl
            have q5 := HX6.out.lq.cl 5 _ rfl
            have q6 := HX6.out.lq.cl 6 _ rfl
            have q7 := HX6.out.lq.cl 7 _ rfl
            have q8 := HX6.out.lq.cl 8 _ rfl
            have q9 := HX6.out.lq.cl 9 _ rfl
            have q10 := HX6.out.lq.cl 10 _ rfl
            have g9 := HX6.out.lq.fz 9
            have g10 := HX6.out.lq.fz 10
            have o7 := hvi
            go_wp2_with fail
            refine (radd_any HP7.out _ _ _ _ _ _ _ _ _ _ _ (one11 _ _ _ _ _ _ _ _ _ _ _ hvi rfl)).mono ?_
            rintro r w8 ⟨q8', rfl, hp8, hk8⟩
            have HP8 : Hid (RS b s d k c (Sp.run s.data.toList n .where_ d σ') w8) := hp8
            have HK8 : Hid (RK b w9 w8) := HX7.out.rk.trans hk8
            clear hp8 hk8 q0 q1 q2 q3 q4 q5 q6 q7 q8 q9 q10
            go_wp2_with fail
            go_ret
            exact ⟨_, rfl, by rw [HV.out, HE.out]; exact HP8.out, HK8.out⟩
          · have hms' := hms rfl
            clear hms
            cases σ' with
            | dead y a =>
              have HE : Hid (σ3 = .dead y a) := by show _ = _; rw [HR.out, if_pos rfl, run_dead]
              have hz := er_dead HPr.out
              have q9 := HXr.out.lq.cl 9 _ rfl
              have q10 := HXr.out.lq.cl 10 _ rfl
              have g9 := HXr.out.lq.fz 9
              have g10 := HXr.out.lq.fz 10
              go_wp2_with fail
              refine ((IH.out n (Nat.le_refl _)).where_ d (k + 1) c _ _ (by omega) (by rw [HE.out] at r3; omega) HPr.out).mono ?_
              rintro r w6 ⟨p6, a6, rfl, hp6, hk6⟩
              have HP6 : Hid (RS b s d (k + 1) c (Sp.run s.data.toList n .where_ d (.dead y a)) w6) := hp6
              have HX6 : Hid (FX b w9 w9.heap.size [.string ⟨#[115, 101, 108, 101, 99, 116]⟩, .bool false, .int .i64 ta, .int .i64 0, .int .i64 0, .bool al, .int .i64 st, vi, .slice o j cp, .int .i64 (-1), .int .i64 0] [(290, 4, .slice o j cp, j)] w6) := HXr.out.keep hk6
              clear hp6 hk6 q9 q10 g9 g10
              have HX7 : Hid (FX b w9 w9.heap.size [.string ⟨#[115, 101, 108, 101, 99, 116]⟩, .bool false, .int .i64 ta, .int .i64 0, .int .i64 0, .bool al, .int .i64 st, vi, .slice o j cp, .int .i64 p6, .int .i64 a6] [(290, 4, .slice o j cp, j)] ((w6.setCell ⟨w9.heap.size, 9, none⟩ (.int .i64 p6)).setCell ⟨w9.heap.size, 10, none⟩ (.int .i64 a6))) := (HX6.out.setq lb 9 (by simp) _).setq lb 10 (by simp) _
              have HP7 : Hid (RS b s d (k + 1) c (Sp.run s.data.toList n .where_ d (.dead y a)) ((w6.setCell ⟨w9.heap.size, 9, none⟩ (.int .i64 p6)).setCell ⟨w9.heap.size, 10, none⟩ (.int .i64 a6))) := (HP6.out.other _ 9 HX6.out.lq.nf _).other _ 10 (HX6.out.setq lb 9 (by simp) _).lq.nf _
              have q0 := HX6.out.lq.cl 0 _ rfl
              have q1 := HX6.out.lq.cl 1 _ rfl
              have q2 := HX6.out.lq.cl 2 _ rfl
              have q3 := HX6.out.lq.cl 3 _ rfl
              have q4 := HX6.out.lq.cl 4 _ rfl
              have q5 := HX6.out.lq.cl 5 _ rfl
              have q6 := HX6.out.lq.cl 6 _ rfl
              have q7 := HX6.out.lq.cl 7 _ rfl
              have q8 := HX6.out.lq.cl 8 _ rfl
              have q9 := HX6.out.lq.cl 9 _ rfl
              have q10 := HX6.out.lq.cl 10 _ rfl
              have g9 := HX6.out.lq.fz 9
              have g10 := HX6.out.lq.fz 10
              have o7 := hvi
              go_wp2_with fail
              refine (radd_any HP7.out _ _ _ _ _ _ _ _ _ _ _ (one11 _ _ _ _ _ _ _ _ _ _ _ hvi rfl)).mono ?_
              rintro r w8 ⟨q8', rfl, hp8, hk8⟩
              have HP8 : Hid (RS b s d k c (Sp.run s.data.toList n .where_ d (.dead y a)) w8) := hp8
              have HK8 : Hid (RK b w9 w8) := HX7.out.rk.trans hk8
              clear hp8 hk8 q0 q1 q2 q3 q4 q5 q6 q7 q8 q9 q10
              go_wp2_with fail
              go_ret
              exact ⟨_, rfl, by rw [HV.out, HE.out]; exact HP8.out, HK8.out⟩
            | live e' =>
              have HRl : Hid (σ3 = Sp.run s.data.toList gk .fromL d (.live e')) := by show _ = _; rw [HR.out, if_pos rfl]
              clear HR
              have hz : (((er (.live e') : Nat) : Int) == 0) = true := rfl
              obtain ⟨m, rfl⟩ : ∃ m, gk = m + 1 := ⟨gk - 1, by omega⟩
              have lr := HXr.out.lb
              have HJ : Hid (∀ (i : Nat) l, [(290, 4, Value.slice o j cp, j)][i]? = some l → ∀ g, l.2.2.1.ownBlock = some g → g ≠ wr.heap.size) := HXr.out.lt
              have hjq : wr.heap.size ≠ w9.heap.size := by have := HXr.out.lq.hi; omega
              have HXs : Hid (FX b w9 w9.heap.size [.string ⟨#[115, 101, 108, 101, 99, 116]⟩, .bool false, .int .i64 ta, .int .i64 0, .int .i64 0, .bool al, .int .i64 st, vi, .slice o j cp, .int .i64 (-1), .int .i64 0] [(290, 4, .slice o j cp, j)] (wr.alloc (.cells #[.string ⟨#[]⟩, .string ⟨#[]⟩, .int .i64 0, .int .i64 0] 290))) := HXr.out.alloc _
              have HLs : Hid (LB b w9 wr.heap.size [.string ⟨#[]⟩, .string ⟨#[]⟩, .int .i64 0, .int .i64 0] (wr.alloc (.cells #[.string ⟨#[]⟩, .string ⟨#[]⟩, .int .i64 0, .int .i64 0] 290))) := LB.new HPr.out HXr.out.rk.size _ _
              go_wp2_with fail
              refine (rname_any (HPr.out.alloc _) (k + 1) (by omega) (by have := far_nameT s.data.toList (.live e'); omega)).mono ?_
              rintro r w1 ⟨t1, n1, rfl, hp1, hk1⟩
              have HX1 : Hid (FX b w9 w9.heap.size [.string ⟨#[115, 101, 108, 101, 99, 116]⟩, .bool false, .int .i64 ta, .int .i64 0, .int .i64 0, .bool al, .int .i64 st, vi, .slice o j cp, .int .i64 (-1), .int .i64 0] [(290, 4, .slice o j cp, j)] w1) := HXs.out.keep hk1
              have HL1 : Hid (LB b w9 wr.heap.size [.string ⟨#[]⟩, .string ⟨#[]⟩, .int .i64 0, .int .i64 0] w1) := HLs.out.keep hk1
              have HP1 : Hid (RS b s d (k + 1) c ((Sp.St.live e').nameT s.data.toList) w1) := hp1
              clear hp1 hk1 c7
              have rn := Sp.rem_nameT s.data.toList (.live e')
              have z0 := HL1.out.cl 0 _ rfl
              have z1 := HL1.out.cl 1 _ rfl
              have z2 := HL1.out.cl 2 _ rfl
              have z3 := HL1.out.cl 3 _ rfl
              have y0 := HL1.out.fz 0
              have y1 := HL1.out.fz 1
              have y2 := HL1.out.fz 2
              have y3 := HL1.out.fz 3
              have hbr : b ≠ wr.heap.size := by omega
              obtain ⟨wx, hwx⟩ : ∃ wx, wx = ((((w1.setCell ⟨wr.heap.size, 0, none⟩ (.string t1)).setCell ⟨wr.heap.size, 2, none⟩ (.int .i64 n1)).setCell ⟨wr.heap.size, 1, none⟩ (.string t1)).setCell ⟨wr.heap.size, 3, none⟩ (.int .i64 n1)) := ⟨_, rfl⟩
              have HLx : Hid (LB b w9 wr.heap.size [.string t1, .string t1, .int .i64 n1, .int .i64 n1] wx) := by
                rw [hwx]
                exact (((HL1.out.set 0 (by simp) _).set 2 (by simp) _).set 1 (by simp) _).set 3 (by simp) _
              have HXx : Hid (FX b w9 w9.heap.size [.string ⟨#[115, 101, 108, 101, 99, 116]⟩, .bool false, .int .i64 ta, .int .i64 0, .int .i64 0, .bool al, .int .i64 st, vi, .slice o j cp, .int .i64 (-1), .int .i64 0] [(290, 4, .slice o j cp, j)] wx) := by
                rw [hwx]
                exact (((HX1.out.other lb HL1.out hjq HJ.out 0 _).other lb (HL1.out.set 0 (by simp) _) hjq HJ.out 2 _).other lb ((HL1.out.set 0 (by simp) _).set 2 (by simp) _) hjq HJ.out 1 _).other lb (((HL1.out.set 0 (by simp) _).set 2 (by simp) _).set 1 (by simp) _) hjq HJ.out 3 _
              have HPx : Hid (RS b s d (k + 1) c ((Sp.St.live e').nameT s.data.toList) wx) := by
                rw [hwx]
                refine RX.rs (js := [wr.heap.size]) ?_
                iterate 4 refine RX.set ?_ _ (by simp) _ _
                exact ⟨HP1.out, fun j hj => by simp only [List.mem_singleton] at hj; subst hj; exact HL1.out.nf⟩
              clear HXs HLs
              obtain ⟨kd, c1, hkd⟩ := HP1.out.kd .name (by decide)
              cases hn : ((Sp.St.live e').nameT s.data.toList).isCl s.data.toList .name
              · rw [hn] at hkd
                have hkd' : (kd.toList == [110, 97, 109, 101]) = false := hkd
                have HR : Hid (σ3 = if Sp.St.is s.data.toList [44] ((Sp.St.live e').nameT s.data.toList) = true then Sp.run s.data.toList m .fromL d (((Sp.St.live e').nameT s.data.toList).step s.data.toList) else (Sp.St.live e').nameT s.data.toList) := by
                  show _ = _
                  rw [HRl.out, Sp.run, hn]; rfl
                clear hkd HRl
                have q8 := HX1.out.lq.cl 8 _ rfl
                have q8x := HXx.out.lq.cl 8 _ rfl
                have x0 := HLx.out.cl 0 _ rfl
                have x1 := HLx.out.cl 1 _ rfl
                have x2 := HLx.out.cl 2 _ rfl
                have x3 := HLx.out.cl 3 _ rfl
                have hwsz : wx.heap.size = w1.heap.size := by rw [hwx]; simp
                have HXy := HXx
                have HPy := HPx
                have hb4 : w9.heap.size ≤ (wx.alloc (.cells #[.string t1, .string t1, .int .i64 n1, .int .i64 n1] 290)).heap.size := by have := HXy.out.rk.size; rw [World.size_alloc]; omega
                have HXz : Hid (FX b w9 w9.heap.size [.string ⟨#[115, 101, 108, 101, 99, 116]⟩, .bool false, .int .i64 ta, .int .i64 0, .int .i64 0, .bool al, .int .i64 st, vi, .slice o j cp, .int .i64 (-1), .int .i64 0] [(290, 4, .slice o j cp, j)] (wx.alloc (.cells #[.string t1, .string t1, .int .i64 n1, .int .i64 n1] 290))) := HXy.out.alloc _
                obtain ⟨xs4, hx4⟩ := (HXz.out.ll 0 _ rfl).own
                have HX4' : Hid ((wx.alloc (.cells #[.string t1, .string t1, .int .i64 n1, .int .i64 n1] 290)).ownsRow w9.heap.size 290 4 (.slice o j cp) j xs4) := hx4
                have hb63 : j + 1 ≤ maxLen := by unfold maxLen; omega
                have hb64 : (j + 1) * 48 ≤ 140737488355328 := by omega
                clear hx4
                go_wp2_with (first | (rw [← hwx]) | (at_builtin; refine wpList_append_lies _ rfl (.tmp 76) (.tmp 78) 217 rfl w9.heap.size 290 i0 (.agg #[.string ⟨#[]⟩, .string ⟨#[]⟩, .int .i64 0, .int .i64 0]) 4 48 Tryz.underlying217 hi hz0 hz1 hz2 rfl (by decide) (.slice o j cp) j xs4 rfl HX4'.out ⟨w1.heap.size, 0, none⟩ 1 1 [.string t1, .string t1, .int .i64 n1, .int .i64 n1] rfl rfl (news1' _ _ _ _ hwsz) (one4 _ _ _ _) (by decide) hb63 hb64 hb4 _ rfl ?_; intro g5 cap5 wu hown5 hgrow5 hat5 hlt5; have HG5 : Hid (FX b w9 w9.heap.size [.string ⟨#[115, 101, 108, 101, 99, 116]⟩, .bool false, .int .i64 ta, .int .i64 0, .int .i64 0, .bool al, .int .i64 st, vi, .slice o j cp, .int .i64 (-1), .int .i64 0] [(290, 4, .slice (some ⟨g5, 0, none⟩) (j + 1) cap5, j + 1)] wu ∧ RS b s d (k + 1) c ((Sp.St.live e').nameT s.data.toList) wu) := HXz.out.grow (HPy.out.alloc _) 0 rfl hown5 hgrow5 hat5; clear hown5 hgrow5 hat5 hlt5; clear q8 q8x z0 z1 z2 z3 x0 x1 x2 x3; have q8 := HG5.out.1.lq.cl 8 _ rfl; have g8 := HG5.out.1.lq.fz 8))
                have HPv : Hid (RS b s d (k + 1) c ((Sp.St.live e').nameT s.data.toList) (wu.setCell ⟨w9.heap.size, 8, none⟩ (.slice (some ⟨g5, 0, none⟩) (j + 1) cap5))) := HG5.out.2.other _ 8 HG5.out.1.lq.nf _
                have HXv : Hid (FX b w9 w9.heap.size [.string ⟨#[115, 101, 108, 101, 99, 116]⟩, .bool false, .int .i64 ta, .int .i64 0, .int .i64 0, .bool al, .int .i64 st, vi, .slice (some ⟨g5, 0, none⟩) (j + 1) cap5, .int .i64 (-1), .int .i64 0] [(290, 4, .slice (some ⟨g5, 0, none⟩) (j + 1) cap5, j + 1)] (wu.setCell ⟨w9.heap.size, 8, none⟩ (.slice (some ⟨g5, 0, none⟩) (j + 1) cap5))) := HG5.out.1.setq lb 8 (by simp) _
                refine (rtake_any HPv.out [44]).mono ?_
                rintro r wt ⟨rfl, hpt, hkt⟩
                have HPt : Hid (RS b s d (k + 1) c ((((Sp.St.live e').nameT s.data.toList)).take s.data.toList [44]) wt) := hpt
                have HXt : Hid (FX b w9 w9.heap.size [.string ⟨#[115, 101, 108, 101, 99, 116]⟩, .bool false, .int .i64 ta, .int .i64 0, .int .i64 0, .bool al, .int .i64 st, vi, .slice (some ⟨g5, 0, none⟩) (j + 1) cap5, .int .i64 (-1), .int .i64 0] [(290, 4, .slice (some ⟨g5, 0, none⟩) (j + 1) cap5, j + 1)] wt) := HXv.out.keep hkt
                clear hpt hkt q8 g8
                have hfin : Sp.St.is s.data.toList [44] (((Sp.St.live e').nameT s.data.toList)) = true → 32 * Sp.rem s.data.toList ((((Sp.St.live e').nameT s.data.toList)).take s.data.toList [44]) + 2 ≤ m := by
                  intro hc
                  have h1 := Sp.rem_step_lt hc
                  rw [take_yes hc]
                  omega
                have HEn : Hid (σ3 = if Sp.St.is s.data.toList [44] (((Sp.St.live e').nameT s.data.toList)) = true then Sp.run s.data.toList m .fromL d ((((Sp.St.live e').nameT s.data.toList)).take s.data.toList [44]) else (((Sp.St.live e').nameT s.data.toList)).take s.data.toList [44]) := by
                  show _ = _
                  rw [HR.out, Sp.St.take]
                  split <;> rfl
                go_wp2_with fail
                go_roundg m
                case measure => omega
                case rel => exact ⟨_, _, _, _, _, rfl, by omega, by omega, hfin, HEn.out, HXt.out, HPt.out⟩
              · rw [hn] at hkd
                have hkd' : (kd.toList == [110, 97, 109, 101]) = true := hkd
                have HR : Hid (σ3 = if Sp.St.is s.data.toList [44] (((Sp.St.live e').nameT s.data.toList).step s.data.toList) = true then Sp.run s.data.toList m .fromL d ((((Sp.St.live e').nameT s.data.toList).step s.data.toList).step s.data.toList) else ((Sp.St.live e').nameT s.data.toList).step s.data.toList) := by
                  show _ = _
                  rw [HRl.out, Sp.run, hn]; rfl
                clear hkd
                go_wp2_with (rw [← hwx])
                refine (rname_any HPx.out (k + 1) (by omega) (by have := far_nameT s.data.toList ((Sp.St.live e').nameT s.data.toList); omega)).mono ?_
                rintro r w2 ⟨t2, n2, rfl, hp2, hk2⟩
                rw [nameT_yes hn] at hp2
                have HX2 : Hid (FX b w9 w9.heap.size [.string ⟨#[115, 101, 108, 101, 99, 116]⟩, .bool false, .int .i64 ta, .int .i64 0, .int .i64 0, .bool al, .int .i64 st, vi, .slice o j cp, .int .i64 (-1), .int .i64 0] [(290, 4, .slice o j cp, j)] w2) := HXx.out.keep hk2
                have HL2 : Hid (LB b w9 wr.heap.size [.string t1, .string t1, .int .i64 n1, .int .i64 n1] w2) := HLx.out.keep hk2
                have HP2 : Hid (RS b s d (k + 1) c (((Sp.St.live e').nameT s.data.toList).step s.data.toList) w2) := hp2
                have rn2 := Sp.rem_step_le s.data.toList ((Sp.St.live e').nameT s.data.toList)
                clear hp2 hk2 c1 z0 z1 z2 z3 y0 y1 y2 y3 hwx
                have z0 := HL2.out.cl 0 _ rfl
                have z1 := HL2.out.cl 1 _ rfl
                have z2 := HL2.out.cl 2 _ rfl
                have z3 := HL2.out.cl 3 _ rfl
                have y1 := HL2.out.fz 1
                have y3 := HL2.out.fz 3
                obtain ⟨wz, hwz⟩ : ∃ wz, wz = ((w2.setCell ⟨wr.heap.size, 1, none⟩ (.string t2)).setCell ⟨wr.heap.size, 3, none⟩ (.int .i64 n2)) := ⟨_, rfl⟩
                have HXy : Hid (FX b w9 w9.heap.size [.string ⟨#[115, 101, 108, 101, 99, 116]⟩, .bool false, .int .i64 ta, .int .i64 0, .int .i64 0, .bool al, .int .i64 st, vi, .slice o j cp, .int .i64 (-1), .int .i64 0] [(290, 4, .slice o j cp, j)] wz) := by
                  rw [hwz]
                  exact (HX2.out.other lb HL2.out hjq HJ.out 1 _).other lb (HL2.out.set 1 (by simp) _) hjq HJ.out 3 _
                have HPy : Hid (RS b s d (k + 1) c (((Sp.St.live e').nameT s.data.toList).step s.data.toList) wz) := by
                  rw [hwz]
                  refine RX.rs (js := [wr.heap.size]) ?_
                  iterate 2 refine RX.set ?_ _ (by simp) _ _
                  exact ⟨HP2.out, fun j hj => by simp only [List.mem_singleton] at hj; subst hj; exact HL2.out.nf⟩
                have HLy : Hid (LB b w9 wr.heap.size [.string t1, .string t2, .int .i64 n1, .int .i64 n2] wz) := by
                  rw [hwz]
                  exact (HL2.out.set 1 (by simp) _).set 3 (by simp) _
                have hwsz : wz.heap.size = w2.heap.size := by rw [hwz]; simp
                clear hkd' HRl
                have x0 := HLy.out.cl 0 _ rfl
                have x1 := HLy.out.cl 1 _ rfl
                have x2 := HLy.out.cl 2 _ rfl
                have x3 := HLy.out.cl 3 _ rfl
                have q8 := HX2.out.lq.cl 8 _ rfl
                have q8x := HXy.out.lq.cl 8 _ rfl
                have hb4 : w9.heap.size ≤ (wz.alloc (.cells #[.string t1, .string t2, .int .i64 n1, .int .i64 n2] 290)).heap.size := by have := HXy.out.rk.size; rw [World.size_alloc]; omega
                have HXz : Hid (FX b w9 w9.heap.size [.string ⟨#[115, 101, 108, 101, 99, 116]⟩, .bool false, .int .i64 ta, .int .i64 0, .int .i64 0, .bool al, .int .i64 st, vi, .slice o j cp, .int .i64 (-1), .int .i64 0] [(290, 4, .slice o j cp, j)] (wz.alloc (.cells #[.string t1, .string t2, .int .i64 n1, .int .i64 n2] 290))) := HXy.out.alloc _
                obtain ⟨xs4, hx4⟩ := (HXz.out.ll 0 _ rfl).own
                have HX4' : Hid ((wz.alloc (.cells #[.string t1, .string t2, .int .i64 n1, .int .i64 n2] 290)).ownsRow w9.heap.size 290 4 (.slice o j cp) j xs4) := hx4
                have hb63 : j + 1 ≤ maxLen := by unfold maxLen; omega
                have hb64 : (j + 1) * 48 ≤ 140737488355328 := by omega
                clear hx4
                go_wp2_with (first | (rw [← hwz]) | (at_builtin; refine wpList_append_lies _ rfl (.tmp 76) (.tmp 78) 217 rfl w9.heap.size 290 i0 (.agg #[.string ⟨#[]⟩, .string ⟨#[]⟩, .int .i64 0, .int .i64 0]) 4 48 Tryz.underlying217 hi hz0 hz1 hz2 rfl (by decide) (.slice o j cp) j xs4 rfl HX4'.out ⟨w2.heap.size, 0, none⟩ 1 1 [.string t1, .string t2, .int .i64 n1, .int .i64 n2] rfl rfl (news1' _ _ _ _ hwsz) (one4 _ _ _ _) (by decide) hb63 hb64 hb4 _ rfl ?_; intro g5 cap5 wu hown5 hgrow5 hat5 hlt5; have HG5 : Hid (FX b w9 w9.heap.size [.string ⟨#[115, 101, 108, 101, 99, 116]⟩, .bool false, .int .i64 ta, .int .i64 0, .int .i64 0, .bool al, .int .i64 st, vi, .slice o j cp, .int .i64 (-1), .int .i64 0] [(290, 4, .slice (some ⟨g5, 0, none⟩) (j + 1) cap5, j + 1)] wu ∧ RS b s d (k + 1) c (((Sp.St.live e').nameT s.data.toList).step s.data.toList) wu) := HXz.out.grow (HPy.out.alloc _) 0 rfl hown5 hgrow5 hat5; clear hown5 hgrow5 hat5 hlt5; clear q8 q8x z0 z1 z2 z3 x0 x1 x2 x3; have q8 := HG5.out.1.lq.cl 8 _ rfl; have g8 := HG5.out.1.lq.fz 8))
                have HPv : Hid (RS b s d (k + 1) c (((Sp.St.live e').nameT s.data.toList).step s.data.toList) (wu.setCell ⟨w9.heap.size, 8, none⟩ (.slice (some ⟨g5, 0, none⟩) (j + 1) cap5))) := HG5.out.2.other _ 8 HG5.out.1.lq.nf _
                have HXv : Hid (FX b w9 w9.heap.size [.string ⟨#[115, 101, 108, 101, 99, 116]⟩, .bool false, .int .i64 ta, .int .i64 0, .int .i64 0, .bool al, .int .i64 st, vi, .slice (some ⟨g5, 0, none⟩) (j + 1) cap5, .int .i64 (-1), .int .i64 0] [(290, 4, .slice (some ⟨g5, 0, none⟩) (j + 1) cap5, j + 1)] (wu.setCell ⟨w9.heap.size, 8, none⟩ (.slice (some ⟨g5, 0, none⟩) (j + 1) cap5))) := HG5.out.1.setq lb 8 (by simp) _
                refine (rtake_any HPv.out [44]).mono ?_
                rintro r wt ⟨rfl, hpt, hkt⟩
                have HPt : Hid (RS b s d (k + 1) c (((((Sp.St.live e').nameT s.data.toList).step s.data.toList)).take s.data.toList [44]) wt) := hpt
                have HXt : Hid (FX b w9 w9.heap.size [.string ⟨#[115, 101, 108, 101, 99, 116]⟩, .bool false, .int .i64 ta, .int .i64 0, .int .i64 0, .bool al, .int .i64 st, vi, .slice (some ⟨g5, 0, none⟩) (j + 1) cap5, .int .i64 (-1), .int .i64 0] [(290, 4, .slice (some ⟨g5, 0, none⟩) (j + 1) cap5, j + 1)] wt) := HXv.out.keep hkt
                clear hpt hkt q8 g8
                have hfin : Sp.St.is s.data.toList [44] ((((Sp.St.live e').nameT s.data.toList).step s.data.toList)) = true → 32 * Sp.rem s.data.toList (((((Sp.St.live e').nameT s.data.toList).step s.data.toList)).take s.data.toList [44]) + 2 ≤ m := by
                  intro hc
                  have h1 := Sp.rem_step_lt hc
                  rw [take_yes hc]
                  omega
                have HEn : Hid (σ3 = if Sp.St.is s.data.toList [44] ((((Sp.St.live e').nameT s.data.toList).step s.data.toList)) = true then Sp.run s.data.toList m .fromL d (((((Sp.St.live e').nameT s.data.toList).step s.data.toList)).take s.data.toList [44]) else ((((Sp.St.live e').nameT s.data.toList).step s.data.toList)).take s.data.toList [44]) := by
                  show _ = _
                  rw [HR.out, Sp.St.take]
                  split <;> rfl
                go_wp2_with fail
                go_roundg m
                case measure => omega
                case rel => exact ⟨_, _, _, _, _, rfl, by omega, by omega, hfin, HEn.out, HXt.out, HPt.out⟩
      · have hv2 : σ2 = σ1.step s.data.toList := by rw [← HS2.out, hst]; rfl
        obtain ⟨tb, d2⟩ := HP4.out.tat
        have q6 := HX4.out.lq.cl 6 _ rfl
        have g6 := HX4.out.lq.fz 6
        go_wp2_with fail
        refine (rstep_is (HP4.out.other _ 6 HX4.out.lq.nf _) hst).mono ?_
        rintro r wa ⟨rfl, hpa, hka⟩
        rw [← hv2] at hpa
        have HPa : Hid (RS b s d (k + 1) c σ2 wa) := hpa.weak (by omega)
        have HXa : Hid (FX b w9 w9.heap.size [.string ⟨#[115, 101, 108, 101, 99, 116]⟩, .bool false, .int .i64 ta, .int .i64 0, .int .i64 0, .bool al, .int .i64 tb, .slice none 0 0, .slice none 0 0, .int .i64 (-1), .int .i64 0] [(290, 4, .slice none 0 0, 0)] wa) := (HX4.out.setq lb 6 (by simp) _).keep hka
        clear hpa hka q6 g6 d2
        obtain ⟨st, hst'⟩ : ∃ st : Int, st = tb := ⟨_, rfl⟩
        obtain ⟨vi, hvi0⟩ : ∃ vi : Value, vi = .slice none 0 0 := ⟨_, rfl⟩
        have hvi : vi.oneCell' = true := by rw [hvi0]; rfl
        rw [← hst'] at HXa
        have HXb : Hid (FX b w9 w9.heap.size [.string ⟨#[115, 101, 108, 101, 99, 116]⟩, .bool false, .int .i64 ta, .int .i64 0, .int .i64 0, .bool al, .int .i64 st, vi, .slice none 0 0, .int .i64 (-1), .int .i64 0] [(290, 4, .slice none 0 0, 0)] wa) := by rw [hvi0]; exact HXa.out
        clear HP4 HX4
        go_wp2_with fail
        clear hv2 hst' hvi0
        refine (rtake_any HPa.out [102, 114, 111, 109]).mono ?_
        rintro r wb ⟨rfl, hpb, hkb⟩
        have HPb : Hid (RS b s d (k + 1) c (σ2.take s.data.toList [102, 114, 111, 109]) wb) := hpb
        have HXc : Hid (FX b w9 w9.heap.size [.string ⟨#[115, 101, 108, 101, 99, 116]⟩, .bool false, .int .i64 ta, .int .i64 0, .int .i64 0, .bool al, .int .i64 st, vi, .slice none 0 0, .int .i64 (-1), .int .i64 0] [(290, 4, .slice none 0 0, 0)] wb) := HXb.out.keep hkb
        clear hpb hkb
        have HE0 : Hid (σ3 = if Sp.St.is s.data.toList [102, 114, 111, 109] σ2 = true then Sp.run s.data.toList n .fromL d (σ2.take s.data.toList [102, 114, 111, 109]) else σ2.take s.data.toList [102, 114, 111, 109]) := by
          show _ = _
          rw [← HS3.out, Sp.St.take]; split <;> rfl
        have hf0 : Sp.St.is s.data.toList [102, 114, 111, 109] σ2 = true → 32 * Sp.rem s.data.toList (σ2.take s.data.toList [102, 114, 111, 109]) + 2 ≤ n := by
          intro hc
          have := Sp.rem_take s.data.toList [102, 114, 111, 109] σ2
          omega
        go_wp2_with fail
        go_loopg [4] n (fun m u wr => ∃ (f : Bool) (σ' : Sp.St) (o : Option Addr) (j cp : Nat), u = .bool f ∧ m ≤ n ∧ j + m ≤ n ∧ (f = true → 32 * Sp.rem s.data.toList σ' + 2 ≤ m) ∧ Hid (σ3 = if f = true then Sp.run s.data.toList m .fromL d σ' else σ') ∧ Hid (FX b w9 w9.heap.size [.string ⟨#[115, 101, 108, 101, 99, 116]⟩, .bool false, .int .i64 ta, .int .i64 0, .int .i64 0, .bool al, .int .i64 st, vi, .slice o j cp, .int .i64 (-1), .int .i64 0] [(290, 4, .slice o j cp, j)] wr) ∧ Hid (RS b s d (k + 1) c σ' wr))
        case atStart => exact ⟨_, _, _, _, _, rfl, Nat.le_refl _, by omega, hf0, HE0.out, HXc.out, HPb.out⟩
        case round =>
          obtain ⟨f, σ', o, j, cp, rfl, hmn, hjm, hms, HR, HXr, HPr⟩ := hrel
          have c7 := HPr.out.err
          cases f
          · have HE : Hid (σ3 = σ') := by show _ = _; rw [HR.out]; rfl
            have q9 := HXr.out.lq.cl 9 _ rfl
            have q10 := HXr.out.lq.cl 10 _ rfl
            have g9 := HXr.out.lq.fz 9
            have g10 := HXr.out.lq.fz 10
            go_wp2_with fail
            refine ((IH.out n (Nat.le_refl _)).where_ d (k + 1) c _ _ (by omega) (by rw [HE.out] at r3; omega) HPr.out).mono ?_
            rintro r w6 ⟨p6, a6, rfl, hp6, hk6⟩
            have HP6 : Hid (RS b s d (k + 1) c (Sp.run s.data.toList n .where_ d σ') w6) := hp6
            have HX6 : Hid (FX b w9 w9.heap.size [.string ⟨#[115, 101, 108, 101, 99, 116]⟩, .bool false, .int .i64 ta, .int .i64 0, .int .i64 0, .bool al, .int .i64 st, vi, .slice o j cp, .int .i64 (-1), .int .i64 0] [(290, 4, .slice o j cp, j)] w6) := HXr.out.keep hk6
            clear hp6 hk6 q9 q10 g9 g10
            have HX7 : Hid (FX b w9 w9.heap.size [.string ⟨#[115, 101, 108, 101, 99, 116]⟩, .bool false, .int .i64 ta, .int .i64 0, .int .i64 0, .bool al, .int .i64 st, vi, .slice o j cp, .int .i64 p6, .int .i64 a6] [(290, 4, .slice o j cp, j)] ((w6.setCell ⟨w9.heap.size, 9, none⟩ (.int .i64 p6)).setCell ⟨w9.heap.size, 10, none⟩ (.int .i64 a6))) := (HX6.out.setq lb 9 (by simp) _).setq lb 10 (by simp) _
            have HP7 : Hid (RS b s d (k + 1) c (Sp.run s.data.toList n .where_ d σ') ((w6.setCell ⟨w9.heap.size, 9, none⟩ (.int .i64 p6)).setCell ⟨w9.heap.size, 10, none⟩ (.int .i64 a6))) := (HP6.out.other _ 9 HX6.out.lq.nf _).other _ 10 (HX6.out.setq lb 9 (by simp) _).lq.nf _
            have q0 := HX6.out.lq.cl 0 _ rfl
            have q1 := HX6.out.lq.cl 1 _ rfl
            have q2 := HX6.out.lq.cl 2 _ rfl
            have q3 := HX6.out.lq.cl 3 _ rfl
            have q4 := HX6.out.lq.cl 4 _ rfl
            have q5 := HX6.out.lq.cl 5 _ rfl
            have q6 := HX6.out.lq.cl 6 _ rfl
            have q7 := HX6.out.lq.cl 7 _ rfl
            have q8 := HX6.out.lq.cl 8 _ rfl
            have q9 := HX6.out.lq.cl 9 _ rfl
            have q10 := HX6.out.lq.cl 10 _ rfl
            have g9 := HX6.out.lq.fz 9
            have g10 := HX6.out.lq.fz 10
            have o7 := hvi
            go_wp2_with fail
            refine (radd_any HP7.out _ _ _ _ _ _ _ _ _ _ _ (one11 _ _ _ _ _ _ _ _ _ _ _ hvi rfl)).mono ?_
            rintro r w8 ⟨q8', rfl, hp8, hk8⟩
            have HP8 : Hid (RS b s d k c (Sp.run s.data.toList n .where_ d σ') w8) := hp8
            have HK8 : Hid (RK b w9 w8) := HX7.out.rk.trans hk8
            clear hp8 hk8 q0 q1 q2 q3 q4 q5 q6 q7 q8 q9 q10
            go_wp2_with fail
            go_ret
            exact ⟨_, rfl, by rw [HV.out, HE.out]; exact HP8.out, HK8.out⟩
          · have hms' := hms rfl
            clear hms
            cases σ' with
            | dead y a =>
              have HE : Hid (σ3 = .dead y a) := by show _ = _; rw [HR.out, if_pos rfl, run_dead]
              have hz := er_dead HPr.out
              have q9 := HXr.out.lq.cl 9 _ rfl
              have q10 := HXr.out.lq.cl 10 _ rfl
              have g9 := HXr.out.lq.fz 9
              have g10 := HXr.out.lq.fz 10
              go_wp2_with fail
              refine ((IH.out n (Nat.le_refl _)).where_ d (k + 1) c _ _ (by omega) (by rw [HE.out] at r3; omega) HPr.out).mono ?_
              rintro r w6 ⟨p6, a6, rfl, hp6, hk6⟩
              have HP6 : Hid (RS b s d (k + 1) c (Sp.run s.data.toList n .where_ d (.dead y a)) w6) := hp6
              have HX6 : Hid (FX b w9 w9.heap.size [.string ⟨#[115, 101, 108, 101, 99, 116]⟩, .bool false, .int .i64 ta, .int .i64 0, .int .i64 0, .bool al, .int .i64 st, vi, .slice o j cp, .int .i64 (-1), .int .i64 0] [(290, 4, .slice o j cp, j)] w6) := HXr.out.keep hk6
              clear hp6 hk6 q9 q10 g9 g10
              have HX7 : Hid (FX b w9 w9.heap.size [.string ⟨#[115, 101, 108, 101, 99, 116]⟩, .bool false, .int .i64 ta, .int .i64 0, .int .i64 0, .bool al, .int .i64 st, vi, .slice o j cp, .int .i64 p6, .int .i64 a6] [(290, 4, .slice o j cp, j)] ((w6.setCell ⟨w9.heap.size, 9, none⟩ (.int .i64 p6)).setCell ⟨w9.heap.size, 10, none⟩ (.int .i64 a6))) := (HX6.out.setq lb 9 (by simp) _).setq lb 10 (by simp) _
              have HP7 : Hid (RS b s d (k + 1) c (Sp.run s.data.toList n .where_ d (.dead y a)) ((w6.setCell ⟨w9.heap.size, 9, none⟩ (.int .i64 p6)).setCell ⟨w9.heap.size, 10, none⟩ (.int .i64 a6))) := (HP6.out.other _ 9 HX6.out.lq.nf _).other _ 10 (HX6.out.setq lb 9 (by simp) _).lq.nf _
              have q0 := HX6.out.lq.cl 0 _ rfl
              have q1 := HX6.out.lq.cl 1 _ rfl
              have q2 := HX6.out.lq.cl 2 _ rfl
              have q3 := HX6.out.lq.cl 3 _ rfl
              have q4 := HX6.out.lq.cl 4 _ rfl
              have q5 := HX6.out.lq.cl 5 _ rfl
              have q6 := HX6.out.lq.cl 6 _ rfl
              have q7 := HX6.out.lq.cl 7 _ rfl
              have q8 := HX6.out.lq.cl 8 _ rfl
              have q9 := HX6.out.lq.cl 9 _ rfl
              have q10 := HX6.out.lq.cl 10 _ rfl
              have g9 := HX6.out.lq.fz 9
              have g10 := HX6.out.lq.fz 10
              have o7 := hvi
              go_wp2_with fail
              refine (radd_any HP7.out _ _ _ _ _ _ _ _ _ _ _ (one11 _ _ _ _ _ _ _ _ _ _ _ hvi rfl)).mono ?_
              rintro r w8 ⟨q8', rfl, hp8, hk8⟩
              have HP8 : Hid (RS b s d k c (Sp.run s.data.toList n .where_ d (.dead y a)) w8) := hp8
              have HK8 : Hid (RK b w9 w8) := HX7.out.rk.trans hk8
              clear hp8 hk8 q0 q1 q2 q3 q4 q5 q6 q7 q8 q9 q10
              go_wp2_with fail
              go_ret
              exact ⟨_, rfl, by rw [HV.out, HE.out]; exact HP8.out, HK8.out⟩
            | live e' =>
              have HRl : Hid (σ3 = Sp.run s.data.toList gk .fromL d (.live e')) := by show _ = _; rw [HR.out, if_pos rfl]
              clear HR
              have hz : (((er (.live e') : Nat) : Int) == 0) = true := rfl
              obtain ⟨m, rfl⟩ : ∃ m, gk = m + 1 := ⟨gk - 1, by omega⟩
              have lr := HXr.out.lb
              have HJ : Hid (∀ (i : Nat) l, [(290, 4, Value.slice o j cp, j)][i]? = some l → ∀ g, l.2.2.1.ownBlock = some g → g ≠ wr.heap.size) := HXr.out.lt
              have hjq : wr.heap.size ≠ w9.heap.size := by have := HXr.out.lq.hi; omega
              have HXs : Hid (FX b w9 w9.heap.size [.string ⟨#[115, 101, 108, 101, 99, 116]⟩, .bool false, .int .i64 ta, .int .i64 0, .int .i64 0, .bool al, .int .i64 st, vi, .slice o j cp, .int .i64 (-1), .int .i64 0] [(290, 4, .slice o j cp, j)] (wr.alloc (.cells #[.string ⟨#[]⟩, .string ⟨#[]⟩, .int .i64 0, .int .i64 0] 290))) := HXr.out.alloc _
              have HLs : Hid (LB b w9 wr.heap.size [.string ⟨#[]⟩, .string ⟨#[]⟩, .int .i64 0, .int .i64 0] (wr.alloc (.cells #[.string ⟨#[]⟩, .string ⟨#[]⟩, .int .i64 0, .int .i64 0] 290))) := LB.new HPr.out HXr.out.rk.size _ _
              go_wp2_with fail
              refine (rname_any (HPr.out.alloc _) (k + 1) (by omega) (by have := far_nameT s.data.toList (.live e'); omega)).mono ?_
              rintro r w1 ⟨t1, n1, rfl, hp1, hk1⟩
              have HX1 : Hid (FX b w9 w9.heap.size [.string ⟨#[115, 101, 108, 101, 99, 116]⟩, .bool false, .int .i64 ta, .int .i64 0, .int .i64 0, .bool al, .int .i64 st, vi, .slice o j cp, .int .i64 (-1), .int .i64 0] [(290, 4, .slice o j cp, j)] w1) := HXs.out.keep hk1
              have HL1 : Hid (LB b w9 wr.heap.size [.string ⟨#[]⟩, .string ⟨#[]⟩, .int .i64 0, .int .i64 0] w1) := HLs.out.keep hk1
              have HP1 : Hid (RS b s d (k + 1) c ((Sp.St.live e').nameT s.data.toList) w1) := hp1
              clear hp1 hk1 c7
              have rn := Sp.rem_nameT s.data.toList (.live e')
              have z0 := HL1.out.cl 0 _ rfl
              have z1 := HL1.out.cl 1 _ rfl
              have z2 := HL1.out.cl 2 _ rfl
              have z3 := HL1.out.cl 3 _ rfl
              have y0 := HL1.out.fz 0
              have y1 := HL1.out.fz 1
              have y2 := HL1.out.fz 2
              have y3 := HL1.out.fz 3
              have hbr : b ≠ wr.heap.size := by omega
              obtain ⟨wx, hwx⟩ : ∃ wx, wx = ((((w1.setCell ⟨wr.heap.size, 0, none⟩ (.string t1)).setCell ⟨wr.heap.size, 2, none⟩ (.int .i64 n1)).setCell ⟨wr.heap.size, 1, none⟩ (.string t1)).setCell ⟨wr.heap.size, 3, none⟩ (.int .i64 n1)) := ⟨_, rfl⟩
              have HLx : Hid (LB b w9 wr.heap.size [.string t1, .string t1, .int .i64 n1, .int .i64 n1] wx) := by
                rw [hwx]
                exact (((HL1.out.set 0 (by simp) _).set 2 (by simp) _).set 1 (by simp) _).set 3 (by simp) _
              have HXx : Hid (FX b w9 w9.heap.size [.string ⟨#[115, 101, 108, 101, 99, 116]⟩, .bool false, .int .i64 ta, .int .i64 0, .int .i64 0, .bool al, .int .i64 st, vi, .slice o j cp, .int .i64 (-1), .int .i64 0] [(290, 4, .slice o j cp, j)] wx) := by
                rw [hwx]
                exact (((HX1.out.other lb HL1.out hjq HJ.out 0 _).other lb (HL1.out.set 0 (by simp) _) hjq HJ.out 2 _).other lb ((HL1.out.set 0 (by simp) _).set 2 (by simp) _) hjq HJ.out 1 _).other lb (((HL1.out.set 0 (by simp) _).set 2 (by simp) _).set 1 (by simp) _) hjq HJ.out 3 _
              have HPx : Hid (RS b s d (k + 1) c ((Sp.St.live e').nameT s.data.toList) wx) := by
                rw [hwx]
                refine RX.rs (js := [wr.heap.size]) ?_
                iterate 4 refine RX.set ?_ _ (by simp) _ _
                exact ⟨HP1.out, fun j hj => by simp only [List.mem_singleton] at hj; subst hj; exact HL1.out.nf⟩
              clear HXs HLs
              obtain ⟨kd, c1, hkd⟩ := HP1.out.kd .name (by decide)
              cases hn : ((Sp.St.live e').nameT s.data.toList).isCl s.data.toList .name
              · rw [hn] at hkd
                have hkd' : (kd.toList == [110, 97, 109, 101]) = false := hkd
                have HR : Hid (σ3 = if Sp.St.is s.data.toList [44] ((Sp.St.live e').nameT s.data.toList) = true then Sp.run s.data.toList m .fromL d (((Sp.St.live e').nameT s.data.toList).step s.data.toList) else (Sp.St.live e').nameT s.data.toList) := by
                  show _ = _
                  rw [HRl.out, Sp.run, hn]; rfl
                clear hkd HRl
                have q8 := HX1.out.lq.cl 8 _ rfl
                have q8x := HXx.out.lq.cl 8 _ rfl
                have x0 := HLx.out.cl 0 _ rfl
                have x1 := HLx.out.cl 1 _ rfl
                have x2 := HLx.out.cl 2 _ rfl
                have x3 := HLx.out.cl 3 _ rfl
                have hwsz : wx.heap.size = w1.heap.size := by rw [hwx]; simp
                have HXy := HXx
                have HPy := HPx
                have hb4 : w9.heap.size ≤ (wx.alloc (.cells #[.string t1, .string t1, .int .i64 n1, .int .i64 n1] 290)).heap.size := by have := HXy.out.rk.size; rw [World.size_alloc]; omega
                have HXz : Hid (FX b w9 w9.heap.size [.string ⟨#[115, 101, 108, 101, 99, 116]⟩, .bool false, .int .i64 ta, .int .i64 0, .int .i64 0, .bool al, .int .i64 st, vi, .slice o j cp, .int .i64 (-1), .int .i64 0] [(290, 4, .slice o j cp, j)] (wx.alloc (.cells #[.string t1, .string t1, .int .i64 n1, .int .i64 n1] 290))) := HXy.out.alloc _
                obtain ⟨xs4, hx4⟩ := (HXz.out.ll 0 _ rfl).own
                have HX4' : Hid ((wx.alloc (.cells #[.string t1, .string t1, .int .i64 n1, .int .i64 n1] 290)).ownsRow w9.heap.size 290 4 (.slice o j cp) j xs4) := hx4
                have hb63 : j + 1 ≤ maxLen := by unfold maxLen; omega
                have hb64 : (j + 1) * 48 ≤ 140737488355328 := by omega
                clear hx4
                go_wp2_with (first | (rw [← hwx]) | (at_builtin; refine wpList_append_lies _ rfl (.tmp 76) (.tmp 78) 217 rfl w9.heap.size 290 i0 (.agg #[.string ⟨#[]⟩, .string ⟨#[]⟩, .int .i64 0, .int .i64 0]) 4 48 Tryz.underlying217 hi hz0 hz1 hz2 rfl (by decide) (.slice o j cp) j xs4 rfl HX4'.out ⟨w1.heap.size, 0, none⟩ 1 1 [.string t1, .string t1, .int .i64 n1, .int .i64 n1] rfl rfl (news1' _ _ _ _ hwsz) (one4 _ _ _ _) (by decide) hb63 hb64 hb4 _ rfl ?_; intro g5 cap5 wu hown5 hgrow5 hat5 hlt5; have HG5 : Hid (FX b w9 w9.heap.size [.string ⟨#[115, 101, 108, 101, 99, 116]⟩, .bool false, .int .i64 ta, .int .i64 0, .int .i64 0, .bool al, .int .i64 st, vi, .slice o j cp, .int .i64 (-1), .int .i64 0] [(290, 4, .slice (some ⟨g5, 0, none⟩) (j + 1) cap5, j + 1)] wu ∧ RS b s d (k + 1) c ((Sp.St.live e').nameT s.data.toList) wu) := HXz.out.grow (HPy.out.alloc _) 0 rfl hown5 hgrow5 hat5; clear hown5 hgrow5 hat5 hlt5; clear q8 q8x z0 z1 z2 z3 x0 x1 x2 x3; have q8 := HG5.out.1.lq.cl 8 _ rfl; have g8 := HG5.out.1.lq.fz 8))
                have HPv : Hid (RS b s d (k + 1) c ((Sp.St.live e').nameT s.data.toList) (wu.setCell ⟨w9.heap.size, 8, none⟩ (.slice (some ⟨g5, 0, none⟩) (j + 1) cap5))) := HG5.out.2.other _ 8 HG5.out.1.lq.nf _
                have HXv : Hid (FX b w9 w9.heap.size [.string ⟨#[115, 101, 108, 101, 99, 116]⟩, .bool false, .int .i64 ta, .int .i64 0, .int .i64 0, .bool al, .int .i64 st, vi, .slice (some ⟨g5, 0, none⟩) (j + 1) cap5, .int .i64 (-1), .int .i64 0] [(290, 4, .slice (some ⟨g5, 0, none⟩) (j + 1) cap5, j + 1)] (wu.setCell ⟨w9.heap.size, 8, none⟩ (.slice (some ⟨g5, 0, none⟩) (j + 1) cap5))) := HG5.out.1.setq lb 8 (by simp) _
                refine (rtake_any HPv.out [44]).mono ?_
                rintro r wt ⟨rfl, hpt, hkt⟩
                have HPt : Hid (RS b s d (k + 1) c ((((Sp.St.live e').nameT s.data.toList)).take s.data.toList [44]) wt) := hpt
                have HXt : Hid (FX b w9 w9.heap.size [.string ⟨#[115, 101, 108, 101, 99, 116]⟩, .bool false, .int .i64 ta, .int .i64 0, .int .i64 0, .bool al, .int .i64 st, vi, .slice (some ⟨g5, 0, none⟩) (j + 1) cap5, .int .i64 (-1), .int .i64 0] [(290, 4, .slice (some ⟨g5, 0, none⟩) (j + 1) cap5, j + 1)] wt) := HXv.out.keep hkt
                clear hpt hkt q8 g8
                have hfin : Sp.St.is s.data.toList [44] (((Sp.St.live e').nameT s.data.toList)) = true → 32 * Sp.rem s.data.toList ((((Sp.St.live e').nameT s.data.toList)).take s.data.toList [44]) + 2 ≤ m := by
                  intro hc
                  have h1 := Sp.rem_step_lt hc
                  rw [take_yes hc]
                  omega
                have HEn : Hid (σ3 = if Sp.St.is s.data.toList [44] (((Sp.St.live e').nameT s.data.toList)) = true then Sp.run s.data.toList m .fromL d ((((Sp.St.live e').nameT s.data.toList)).take s.data.toList [44]) else (((Sp.St.live e').nameT s.data.toList)).take s.data.toList [44]) := by
                  show _ = _
                  rw [HR.out, Sp.St.take]
                  split <;> rfl
                go_wp2_with fail
                go_roundg m
                case measure => omega
                case rel => exact ⟨_, _, _, _, _, rfl, by omega, by omega, hfin, HEn.out, HXt.out, HPt.out⟩
              · rw [hn] at hkd
                have hkd' : (kd.toList == [110, 97, 109, 101]) = true := hkd
                have HR : Hid (σ3 = if Sp.St.is s.data.toList [44] (((Sp.St.live e').nameT s.data.toList).step s.data.toList) = true then Sp.run s.data.toList m .fromL d ((((Sp.St.live e').nameT s.data.toList).step s.data.toList).step s.data.toList) else ((Sp.St.live e').nameT s.data.toList).step s.data.toList) := by
                  show _ = _
                  rw [HRl.out, Sp.run, hn]; rfl
                clear hkd
                go_wp2_with (rw [← hwx])
                refine (rname_any HPx.out (k + 1) (by omega) (by have := far_nameT s.data.toList ((Sp.St.live e').nameT s.data.toList); omega)).mono ?_
                rintro r w2 ⟨t2, n2, rfl, hp2, hk2⟩
                rw [nameT_yes hn] at hp2
                have HX2 : Hid (FX b w9 w9.heap.size [.string ⟨#[115, 101, 108, 101, 99, 116]⟩, .bool false, .int .i64 ta, .int .i64 0, .int .i64 0, .bool al, .int .i64 st, vi, .slice o j cp, .int .i64 (-1), .int .i64 0] [(290, 4, .slice o j cp, j)] w2) := HXx.out.keep hk2
                have HL2 : Hid (LB b w9 wr.heap.size [.string t1, .string t1, .int .i64 n1, .int .i64 n1] w2) := HLx.out.keep hk2
                have HP2 : Hid (RS b s d (k + 1) c (((Sp.St.live e').nameT s.data.toList).step s.data.toList) w2) := hp2
                have rn2 := Sp.rem_step_le s.data.toList ((Sp.St.live e').nameT s.data.toList)
                clear hp2 hk2 c1 z0 z1 z2 z3 y0 y1 y2 y3 hwx
                have z0 := HL2.out.cl 0 _ rfl
                have z1 := HL2.out.cl 1 _ rfl
                have z2 := HL2.out.cl 2 _ rfl
                have z3 := HL2.out.cl 3 _ rfl
                have y1 := HL2.out.fz 1
                have y3 := HL2.out.fz 3
                obtain ⟨wz, hwz⟩ : ∃ wz, wz = ((w2.setCell ⟨wr.heap.size, 1, none⟩ (.string t2)).setCell ⟨wr.heap.size, 3, none⟩ (.int .i64 n2)) := ⟨_, rfl⟩
                have HXy : Hid (FX b w9 w9.heap.size [.string ⟨#[115, 101, 108, 101, 99, 116]⟩, .bool false, .int .i64 ta, .int .i64 0, .int .i64 0, .bool al, .int .i64 st, vi, .slice o j cp, .int .i64 (-1), .int .i64 0] [(290, 4, .slice o j cp, j)] wz) := by
                  rw [hwz]
                  exact (HX2.out.other lb HL2.out hjq HJ.out 1 _).other lb (HL2.out.set 1 (by simp) _) hjq HJ.out 3 _
                have HPy : Hid (RS b s d (k + 1) c (((Sp.St.live e').nameT s.data.toList).step s.data.toList) wz) := by
                  rw [hwz]
                  refine RX.rs (js := [wr.heap.size]) ?_
                  iterate 2 refine RX.set ?_ _ (by simp) _ _
                  exact ⟨HP2.out, fun j hj => by simp only [List.mem_singleton] at hj; subst hj; exact HL2.out.nf⟩
                have HLy : Hid (LB b w9 wr.heap.size [.string t1, .string t2, .int .i64 n1, .int .i64 n2] wz) := by
                  rw [hwz]
                  exact (HL2.out.set 1 (by simp) _).set 3 (by simp) _
                have hwsz : wz.heap.size = w2.heap.size := by rw [hwz]; simp
                clear hkd' HRl
                have x0 := HLy.out.cl 0 _ rfl
                have x1 := HLy.out.cl 1 _ rfl
                have x2 := HLy.out.cl 2 _ rfl
                have x3 := HLy.out.cl 3 _ rfl
                have q8 := HX2.out.lq.cl 8 _ rfl
                have q8x := HXy.out.lq.cl 8 _ rfl
                have hb4 : w9.heap.size ≤ (wz.alloc (.cells #[.string t1, .string t2, .int .i64 n1, .int .i64 n2] 290)).heap.size := by have := HXy.out.rk.size; rw [World.size_alloc]; omega
                have HXz : Hid (FX b w9 w9.heap.size [.string ⟨#[115, 101, 108, 101, 99, 116]⟩, .bool false, .int .i64 ta, .int .i64 0, .int .i64 0, .bool al, .int .i64 st, vi, .slice o j cp, .int .i64 (-1), .int .i64 0] [(290, 4, .slice o j cp, j)] (wz.alloc (.cells #[.string t1, .string t2, .int .i64 n1, .int .i64 n2] 290))) := HXy.out.alloc _
                obtain ⟨xs4, hx4⟩ := (HXz.out.ll 0 _ rfl).own
                have HX4' : Hid ((wz.alloc (.cells #[.string t1, .string t2, .int .i64 n1, .int .i64 n2] 290)).ownsRow w9.heap.size 290 4 (.slice o j cp) j xs4) := hx4
                have hb63 : j + 1 ≤ maxLen := by unfold maxLen; omega
                have hb64 : (j + 1) * 48 ≤ 140737488355328 := by omega
                clear hx4
                go_wp2_with (first | (rw [← hwz]) | (at_builtin; refine wpList_append_lies _ rfl (.tmp 76) (.tmp 78) 217 rfl w9.heap.size 290 i0 (.agg #[.string ⟨#[]⟩, .string ⟨#[]⟩, .int .i64 0, .int .i64 0]) 4 48 Tryz.underlying217 hi hz0 hz1 hz2 rfl (by decide) (.slice o j cp) j xs4 rfl HX4'.out ⟨w2.heap.size, 0, none⟩ 1 1 [.string t1, .string t2, .int .i64 n1, .int .i64 n2] rfl rfl (news1' _ _ _ _ hwsz) (one4 _ _ _ _) (by decide) hb63 hb64 hb4 _ rfl ?_; intro g5 cap5 wu hown5 hgrow5 hat5 hlt5; have HG5 : Hid (FX b w9 w9.heap.size [.string ⟨#[115, 101, 108, 101, 99, 116]⟩, .bool false, .int .i64 ta, .int .i64 0, .int .i64 0, .bool al, .int .i64 st, vi, .slice o j cp, .int .i64 (-1), .int .i64 0] [(290, 4, .slice (some ⟨g5, 0, none⟩) (j + 1) cap5, j + 1)] wu ∧ RS b s d (k + 1) c (((Sp.St.live e').nameT s.data.toList).step s.data.toList) wu) := HXz.out.grow (HPy.out.alloc _) 0 rfl hown5 hgrow5 hat5; clear hown5 hgrow5 hat5 hlt5; clear q8 q8x z0 z1 z2 z3 x0 x1 x2 x3; have q8 := HG5.out.1.lq.cl 8 _ rfl; have g8 := HG5.out.1.lq.fz 8))
                have HPv : Hid (RS b s d (k + 1) c (((Sp.St.live e').nameT s.data.toList).step s.data.toList) (wu.setCell ⟨w9.heap.size, 8, none⟩ (.slice (some ⟨g5, 0, none⟩) (j + 1) cap5))) := HG5.out.2.other _ 8 HG5.out.1.lq.nf _
                have HXv : Hid (FX b w9 w9.heap.size [.string ⟨#[115, 101, 108, 101, 99, 116]⟩, .bool false, .int .i64 ta, .int .i64 0, .int .i64 0, .bool al, .int .i64 st, vi, .slice (some ⟨g5, 0, none⟩) (j + 1) cap5, .int .i64 (-1), .int .i64 0] [(290, 4, .slice (some ⟨g5, 0, none⟩) (j + 1) cap5, j + 1)] (wu.setCell ⟨w9.heap.size, 8, none⟩ (.slice (some ⟨g5, 0, none⟩) (j + 1) cap5))) := HG5.out.1.setq lb 8 (by simp) _
                refine (rtake_any HPv.out [44]).mono ?_
                rintro r wt ⟨rfl, hpt, hkt⟩
                have HPt : Hid (RS b s d (k + 1) c (((((Sp.St.live e').nameT s.data.toList).step s.data.toList)).take s.data.toList [44]) wt) := hpt
                have HXt : Hid (FX b w9 w9.heap.size [.string ⟨#[115, 101, 108, 101, 99, 116]⟩, .bool false, .int .i64 ta, .int .i64 0, .int .i64 0, .bool al, .int .i64 st, vi, .slice (some ⟨g5, 0, none⟩) (j + 1) cap5, .int .i64 (-1), .int .i64 0] [(290, 4, .slice (some ⟨g5, 0, none⟩) (j + 1) cap5, j + 1)] wt) := HXv.out.keep hkt
                clear hpt hkt q8 g8
                have hfin : Sp.St.is s.data.toList [44] ((((Sp.St.live e').nameT s.data.toList).step s.data.toList)) = true → 32 * Sp.rem s.data.toList (((((Sp.St.live e').nameT s.data.toList).step s.data.toList)).take s.data.toList [44]) + 2 ≤ m := by
                  intro hc
                  have h1 := Sp.rem_step_lt hc
                  rw [take_yes hc]
                  omega
                have HEn : Hid (σ3 = if Sp.St.is s.data.toList [44] ((((Sp.St.live e').nameT s.data.toList).step s.data.toList)) = true then Sp.run s.data.toList m .fromL d (((((Sp.St.live e').nameT s.data.toList).step s.data.toList)).take s.data.toList [44]) else ((((Sp.St.live e').nameT s.data.toList).step s.data.toList)).take s.data.toList [44]) := by
                  show _ = _
                  rw [HR.out, Sp.St.take]
                  split <;> rfl
                go_wp2_with fail
                go_roundg m
                case measure => omega
                case rel => exact ⟨_, _, _, _, _, rfl, by omega, by omega, hfin, HEn.out, HXt.out, HPt.out⟩
    · have HV : Hid (Sp.run s.data.toList (n + 1) .factor d (.live e) = (Sp.run s.data.toList n .query (d + 1) ((Sp.St.live e).openT s.data.toList d)).must s.data.toList [41]) := by show _ = _; rw [Sp.run, hs]; rfl
      have ho : (Sp.St.live e).opened s.data.toList [40] d = (Sp.St.live e).openT s.data.toList d := opened_is hs
      have h1 := Sp.rem_openT_lt (d := d) hs
      have IA : Hid (RAll b s n) := IH.out n (Nat.le_refl _)
      go_enter Tryz.func168, Tryz.ntmps168
      go_wp2_with fail
      refine (ris_any HP.out [40]).mono ?_
      rintro r w9 ⟨rfl, rfl⟩
      go_wp2_with fail
      refine (rinside_any (n := n) (d := d) (k := k) (c := c) IA (by omega) (by rw [ho]; omega) HP).mono ?_
      rintro r w2 ⟨q2, rfl, hp2, hk2⟩
      rw [ho] at hp2
      have HP2 : Hid (RS b s d k c ((Sp.run s.data.toList n .query (d + 1) ((Sp.St.live e).openT s.data.toList d)).must s.data.toList [41]) w2) := hp2
      have HK2 : Hid (RK b w9 w2) := hk2
      clear hp2 hk2
      go_wp2_with fail
      go_ret
      exact ⟨_, rfl, by rw [HV.out]; exact HP2.out, HK2.out⟩
end Go.Proofs.YtgnncnhkgmhngaaGreatDoor
