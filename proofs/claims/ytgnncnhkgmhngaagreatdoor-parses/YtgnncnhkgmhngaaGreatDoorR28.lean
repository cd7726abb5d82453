import Derived.Test.YtgnncnhkgmhngaaGreatDoorR27
import Derived.Test.YtgnncnhkgmhngaaGreatDoorRx
namespace Go.Proofs.YtgnncnhkgmhngaaGreatDoor
open Go.RowKit

set_option maxHeartbeats 2000000 in
theorem rstep_first {b : Nat} {s : ByteArray} {d k : Nat} {c : Ct} {σ : Sp.St} {x : RD} {w : World} (hs : s.size ≤ 2000) (hc : RC b s x d 0 0 w) (ho : RO b s.data.toList k c σ x w) (a : Nat) (hen : x.en = (a : Int)) (ha : a ≤ s.size) (k' : Nat) (hf : far s.data.toList σ + k' ≤ far s.data.toList (.live a) + k) :
    Calls Tryz.prog 44 #[.pointer (some ⟨b, 0, none⟩)] w fun r w' => RP b s d k' c (.live a) w r w' ∧ w'.cell? ⟨b, 9, none⟩ = some (.string x.does) := by
  have HC : Hid (RC b s x d 0 0 w) := hc
  have HO : Hid (RO b s.data.toList k' c (.live a) x w) := ho.far hf
  have c0 := hc.c0
  have c5 : w.cell? ⟨b, 5, none⟩ = some (.int .i64 a) := by rw [← hen]; exact hc.c5
  have HT : Hid (∀ w, Calls Tryz.prog 62 #[.string s, .int .i64 a] w (TR s a w)) := fun w => token_any s a w hs ha
  clear ho hc hen hf
  go_enter Tryz.func44, Tryz.ntmps44
  go_region_with (go_at_call 62; refine (HT.out _).mono ?_; rintro e w1 ⟨kd, ts, tn, en, rfl, hk, hw, hn, hb⟩; have k1 : RC b s x d 0 0 w1 := HC.out.kept (hb.block b HC.out.lb) hb.size; have HK : Hid (RC b s x d 0 0 w1 ∧ Below w.heap.size w w1 ∧ kd.toList = kname (Sp.tokCl s.data.toList a) ∧ (Sp.tokCl s.data.toList a = .key → ts.toList = Sp.tokWord s.data.toList a) ∧ (Sp.tokCl s.data.toList a ≠ .bad → en = (Sp.tokEnd s.data.toList a : Nat))) := ⟨k1, (Below.refl w.heap.size w).drew.trans hb, hk, hw, hn⟩; have q1 := k1.c1; have q2 := k1.c2; have q3 := k1.c3; have q4 := k1.c4; have q5 := k1.c5; have g1 := k1.fz 1; have g2 := k1.fz 2; have g3 := k1.fz 3; have g4 := k1.fz 4; have g5 := k1.fz 5; clear k1 hk hw hn hb)
  all_goals go_wp2_with fail
  all_goals go_end0
  all_goals
    obtain ⟨k1, hb, hk, hw, hn⟩ := HK.out
    refine ⟨⟨rfl, ⟨hs, _, ((((k1.s1 kd).s2 (Sp.tokAt s.data.toList a : Nat)).s3 ts).s4 tn).s5 en, ?_, ?_⟩, ?_⟩, (((((k1.s1 kd).s2 (Sp.tokAt s.data.toList a : Nat)).s3 ts).s4 tn).s5 en).c9⟩
    · refine RO.cast (x := x) ⟨rfl, rfl, rfl, rfl, rfl⟩ ?_
      exact (((((HO.out.below hb).set 1 _).set 2 _).set 3 _).set 4 _).set 5 _
    · exact ⟨by rw [size_data]; exact ha, hk, rfl, hw, hn⟩
    · exact (((((RK.below hb HC.out.lb).set 1 (by decide) _).set 2 (by decide) _).set 3 (by decide) _).set 4 (by decide) _).set 5 (by decide) _

/-- The reader, as he is made. -/
def xd0 : RD := { kd := ⟨#[]⟩, ts := ⟨#[]⟩, does := ⟨#[]⟩, table := ⟨#[]⟩, ta := 0, tn := 0, en := 0, at_ := 0, wh := 0, wa := 0, q := 0, ia := 0, vc := .slice none 0 0, vr := .slice none 0 0, vg := .slice none 0 0, vn := .slice none 0 0, vq := .slice none 0 0 }
theorem rc_start (s : ByteArray) (v : World) (b : Nat) (hb : v.heap.size = b) : RC b s xd0 0 0 0 (v.alloc (.cells #[.string s, .string ⟨#[]⟩, .int .i64 0, .string ⟨#[]⟩, .int .i64 0, .int .i64 0, .int .i64 0, .int .i64 0, .int .i64 0, .string ⟨#[]⟩, .string ⟨#[]⟩, .int .i64 0, .slice none 0 0, .slice none 0 0, .slice none 0 0, .int .i64 0, .int .i64 0, .int .i64 0, .int .i64 0, .slice none 0 0, .slice none 0 0] 110)) := by
  subst hb
  have hc : ∀ o, (v.alloc (.cells #[.string s, .string ⟨#[]⟩, .int .i64 0, .string ⟨#[]⟩, .int .i64 0, .int .i64 0, .int .i64 0, .int .i64 0, .int .i64 0, .string ⟨#[]⟩, .string ⟨#[]⟩, .int .i64 0, .slice none 0 0, .slice none 0 0, .slice none 0 0, .int .i64 0, .int .i64 0, .int .i64 0, .int .i64 0, .slice none 0 0, .slice none 0 0] 110)).cell? ⟨v.heap.size, o, none⟩ = #[Value.string s, .string ⟨#[]⟩, .int .i64 0, .string ⟨#[]⟩, .int .i64 0, .int .i64 0, .int .i64 0, .int .i64 0, .int .i64 0, .string ⟨#[]⟩, .string ⟨#[]⟩, .int .i64 0, .slice none 0 0, .slice none 0 0, .slice none 0 0, .int .i64 0, .int .i64 0, .int .i64 0, .int .i64 0, .slice none 0 0, .slice none 0 0][o]? := fun o => World.cell?_alloc_new _ _ _ _
  exact ⟨by simp, hc 0, hc 1, hc 2, hc 3, hc 4, hc 5, hc 6, hc 7, hc 8, hc 9, hc 10, hc 11, hc 12, hc 13, hc 14, hc 15, hc 16, hc 17, hc 18, hc 19, hc 20, fun o => fz_new _ _ _ _⟩
theorem ro_start (s : ByteArray) (v : World) (b : Nat) : RO b s.data.toList 0 ⟨0, 0, 0⟩ (.live 0) xd0 v :=
  ⟨⟨[], World.ownsRow_nil _ _ _ _⟩, ⟨[], World.ownsRow_nil _ _ _ _⟩, ⟨[], World.ownsRow_nil _ _ _ _⟩, ⟨0, ⟨[], World.ownsRow_nil _ _ _ _⟩, Nat.zero_le _⟩, ⟨0, ⟨[], World.ownsRow_nil _ _ _ _⟩, Nat.zero_le _⟩⟩
theorem fp_start (s : ByteArray) (v : World) (b : Nat) (hb : v.heap.size = b) : ∀ k, FP b (v.alloc (.cells #[.string s, .string ⟨#[]⟩, .int .i64 0, .string ⟨#[]⟩, .int .i64 0, .int .i64 0, .int .i64 0, .int .i64 0, .int .i64 0, .string ⟨#[]⟩, .string ⟨#[]⟩, .int .i64 0, .slice none 0 0, .slice none 0 0, .slice none 0 0, .int .i64 0, .int .i64 0, .int .i64 0, .int .i64 0, .slice none 0 0, .slice none 0 0] 110)) k → k = b := by
  have hc := rc_start s v b hb
  intro k h
  rcases h with rfl | ⟨o, u, ho, hv, hk⟩
  · rfl
  · rcases ho with rfl | rfl | rfl | rfl | rfl
    · rw [hc.c12] at hv; injection hv with hv; subst hv; cases hk
    · rw [hc.c13] at hv; injection hv with hv; subst hv; cases hk
    · rw [hc.c14] at hv; injection hv with hv; subst hv; cases hk
    · rw [hc.c19] at hv; injection hv with hv; subst hv; cases hk
    · rw [hc.c20] at hv; injection hv with hv; subst hv; cases hk
theorem rstep_start (s : ByteArray) (v : World) (b : Nat) (hb : v.heap.size = b) (hs : s.size ≤ 2000) :
    Calls Tryz.prog 44 #[.pointer (some ⟨b, 0, none⟩)] (v.alloc (.cells #[.string s, .string ⟨#[]⟩, .int .i64 0, .string ⟨#[]⟩, .int .i64 0, .int .i64 0, .int .i64 0, .int .i64 0, .int .i64 0, .string ⟨#[]⟩, .string ⟨#[]⟩, .int .i64 0, .slice none 0 0, .slice none 0 0, .slice none 0 0, .int .i64 0, .int .i64 0, .int .i64 0, .int .i64 0, .slice none 0 0, .slice none 0 0] 110)) fun r w' => RP b s 0 0 ⟨0, 0, 0⟩ (.live 0) (v.alloc (.cells #[.string s, .string ⟨#[]⟩, .int .i64 0, .string ⟨#[]⟩, .int .i64 0, .int .i64 0, .int .i64 0, .int .i64 0, .int .i64 0, .string ⟨#[]⟩, .string ⟨#[]⟩, .int .i64 0, .slice none 0 0, .slice none 0 0, .slice none 0 0, .int .i64 0, .int .i64 0, .int .i64 0, .int .i64 0, .slice none 0 0, .slice none 0 0] 110)) r w' ∧ w'.cell? ⟨b, 9, none⟩ = some (.string ⟨#[]⟩) :=
  rstep_first (b := b) (s := s) (d := 0) (k := 0) (c := ⟨0, 0, 0⟩) (σ := .live 0) (x := xd0) (w := (v.alloc (.cells #[.string s, .string ⟨#[]⟩, .int .i64 0, .string ⟨#[]⟩, .int .i64 0, .int .i64 0, .int .i64 0, .int .i64 0, .int .i64 0, .string ⟨#[]⟩, .string ⟨#[]⟩, .int .i64 0, .slice none 0 0, .slice none 0 0, .slice none 0 0, .int .i64 0, .int .i64 0, .int .i64 0, .int .i64 0, .slice none 0 0, .slice none 0 0] 110))) hs (rc_start s v b hb) (ro_start s _ b) 0 rfl (Nat.zero_le _) 0 (Nat.le_refl _)

/-- What the reader makes is his own: all that was there ahead of him stands. -/
theorem RK.made {s : ByteArray} {v w2 : World} {b : Nat} (hb : v.heap.size = b) (h : RK b (v.alloc (.cells #[.string s, .string ⟨#[]⟩, .int .i64 0, .string ⟨#[]⟩, .int .i64 0, .int .i64 0, .int .i64 0, .int .i64 0, .int .i64 0, .string ⟨#[]⟩, .string ⟨#[]⟩, .int .i64 0, .slice none 0 0, .slice none 0 0, .slice none 0 0, .int .i64 0, .int .i64 0, .int .i64 0, .int .i64 0, .slice none 0 0, .slice none 0 0] 110)) w2) : ∀ k, k < v.heap.size → w2.heap[k]? = v.heap[k]? := fun k hk =>
  (h.block k (by simp; omega) (fun x => by have := fp_start s v b hb k x; omega)).trans (Below.heap_alloc _ _ _ hk)

theorem RS.all {b : Nat} {s : ByteArray} {d k : Nat} {c : Ct} {σ : Sp.St} {w : World} (h : RS b s d k c σ w) : ∃ (kd v9 v10 : ByteArray) (v11 v15 v16 v17 v18 : Int) (o1 o2 o3 o4 o5 : Option Addr) (m1 m2 m3 m4 m5 p1 p2 p3 p4 p5 : Nat), w.cell? ⟨b, 1, none⟩ = some (.string kd) ∧ w.cell? ⟨b, 7, none⟩ = some (.int .i64 (er σ)) ∧ w.cell? ⟨b, 8, none⟩ = some (.int .i64 (ea σ)) ∧ w.cell? ⟨b, 9, none⟩ = some (.string v9) ∧ w.cell? ⟨b, 10, none⟩ = some (.string v10) ∧ w.cell? ⟨b, 11, none⟩ = some (.int .i64 v11) ∧ w.cell? ⟨b, 12, none⟩ = some (.slice o1 m1 p1) ∧ w.cell? ⟨b, 13, none⟩ = some (.slice o2 m2 p2) ∧ w.cell? ⟨b, 14, none⟩ = some (.slice o3 m3 p3) ∧ w.cell? ⟨b, 15, none⟩ = some (.int .i64 v15) ∧ w.cell? ⟨b, 16, none⟩ = some (.int .i64 v16) ∧ w.cell? ⟨b, 17, none⟩ = some (.int .i64 v17) ∧ w.cell? ⟨b, 18, none⟩ = some (.int .i64 v18) ∧ w.cell? ⟨b, 19, none⟩ = some (.slice o4 m4 p4) ∧ w.cell? ⟨b, 20, none⟩ = some (.slice o5 m5 p5) ∧ ∀ cl, cl ≠ .bad → (kd.toList == kname cl) = σ.isCl s.data.toList cl := by
  obtain ⟨_, x, hc, ho, ht⟩ := h
  obtain ⟨o1, p1, h1⟩ := ho.oc.slice
  obtain ⟨o2, p2, h2⟩ := ho.or.slice
  obtain ⟨o3, p3, h3⟩ := ho.og.slice
  obtain ⟨m4, hm4, _⟩ := ho.on
  obtain ⟨o4, p4, h4⟩ := hm4.slice
  obtain ⟨m5, hm5, _⟩ := ho.oq
  obtain ⟨o5, p5, h5⟩ := hm5.slice
  exact ⟨_, _, _, _, _, _, _, _, o1, o2, o3, o4, o5, _, _, _, m4, m5, p1, p2, p3, p4, p5, hc.c1, hc.c7, hc.c8, hc.c9, hc.c10, hc.c11, by rw [hc.c12, h1], by rw [hc.c13, h2], by rw [hc.c14, h3], hc.c15, hc.c16, hc.c17, hc.c18, by rw [hc.c19, h4], by rw [hc.c20, h5], fun cl hcl => (rt_cl ht cl hcl).symm⟩
theorem Below.chain {b : Nat} {a w : World} (h : Below b a w) (p : Addr) (hp : b ≤ p.block) (u : Value) : Below b a (w.setCell p u) :=
  ⟨h.os, h.tape, h.output, by simpa [World.setCell] using h.size, fun k hk => (Below.heap_setCell _ _ _ _ (by omega)).trans (h.block k hk)⟩
/-- A statement's twelve parts. -/
def IsSte (st : Value) : Prop := ∃ (v9 v10 : ByteArray) (v11 v15 v16 v17 v18 : Int) (o1 o2 o3 o4 o5 : Option Addr) (m1 m2 m3 m4 m5 p1 p2 p3 p4 p5 : Nat), st = .agg #[.string v9, .string v10, .int .i64 v11, .slice o1 m1 p1, .slice o2 m2 p2, .slice o3 m3 p3, .int .i64 v15, .int .i64 v16, .int .i64 v17, .int .i64 v18, .slice o4 m4 p4, .slice o5 m5 p5]

set_option maxRecDepth 100000 in
set_option maxHeartbeats 1000000 in
theorem rread_any (s : ByteArray) (w : World) (hs : s.size ≤ maxLen) :
    Calls Tryz.prog 31 #[.string s] w fun e w' => ∃ st, IsSte st ∧ e = .returned (.tuple #[st, .int .i64 ((Sp.parse s.data.toList).1 : Nat), .int .i64 ((Sp.parse s.data.toList).2 : Nat)]) ∧ Below w.heap.size w w' := by
  unfold maxLen at hs
  by_cases hl : 2000 < s.size
  · have HV : Hid (Sp.parse s.data.toList = (1, 0)) := by show _ = _; unfold Sp.parse; rw [if_pos (by rw [size_data]; exact hl)]
    go_enter Tryz.func31, Tryz.ntmps31
    go_wp2_with fail
    refine bodyPost_ret (v := .tuple #[.agg #[.string ⟨#[]⟩, .string ⟨#[]⟩, .int .i64 0, .slice none 0 0, .slice none 0 0, .slice none 0 0, .int .i64 0, .int .i64 0, .int .i64 0, .int .i64 0, .slice none 0 0, .slice none 0 0], .int .i64 1, .int .i64 0]) (by simp [results, Tryz.results31, go_sem]) rfl ⟨_, ⟨_, _, _, _, _, _, _, _, _, _, _, _, _, _, _, _, _, _, _, _, _, _, rfl⟩, by rw [HV.out]; rfl, (Below.refl _ _).alloc (Nat.le_refl _) _⟩
  · have HV : Hid (Sp.parse s.data.toList = (if (Sp.stmt s.data.toList (Sp.fuel s.data.toList) (.live 0)).isCl s.data.toList .fin then Sp.stmt s.data.toList (Sp.fuel s.data.toList) (.live 0) else (Sp.stmt s.data.toList (Sp.fuel s.data.toList) (.live 0)).fail s.data.toList 2).out) := parse_eq _ (by rw [size_data]; exact hl)
    have hfu : Sp.fuel s.data.toList = 32 * (s.size + 4) := by unfold Sp.fuel; rw [size_data]
    have hfu1 : Sp.fuel s.data.toList ≤ 900000 := by omega
    have hfu2 : 32 * Sp.rem s.data.toList (.live 0) + 20 ≤ Sp.fuel s.data.toList := by
      have : Sp.rem s.data.toList (.live 0) = s.size + 1 := by simp [Sp.rem]
      rw [this]; omega
    have HF : Hid (Sp.fuel s.data.toList ≤ 900000 ∧ 32 * Sp.rem s.data.toList (.live 0) + 20 ≤ Sp.fuel s.data.toList) := ⟨hfu1, hfu2⟩
    clear hfu hfu1 hfu2
    go_enter Tryz.func31, Tryz.ntmps31
    go_wp2_with fail
    refine (rstep_start s (w.alloc (.cells #[.string ⟨#[]⟩, .string ⟨#[]⟩, .int .i64 0, .slice none 0 0, .slice none 0 0, .slice none 0 0, .int .i64 0, .int .i64 0, .int .i64 0, .int .i64 0, .slice none 0 0, .slice none 0 0] 82)) (w.heap.size + 1) (by simp) (by omega)).mono ?_
    rintro r w1 ⟨⟨rfl, hp1, hk1⟩, h9⟩
    have HP1 : Hid (RS (w.heap.size + 1) s 0 0 ⟨0, 0, 0⟩ (.live 0) w1) := hp1
    have HK1 : Hid (RK (w.heap.size + 1) ((w.alloc (.cells #[.string ⟨#[]⟩, .string ⟨#[]⟩, .int .i64 0, .slice none 0 0, .slice none 0 0, .slice none 0 0, .int .i64 0, .int .i64 0, .int .i64 0, .int .i64 0, .slice none 0 0, .slice none 0 0] 82)).alloc (.cells #[.string s, .string ⟨#[]⟩, .int .i64 0, .string ⟨#[]⟩, .int .i64 0, .int .i64 0, .int .i64 0, .int .i64 0, .int .i64 0, .string ⟨#[]⟩, .string ⟨#[]⟩, .int .i64 0, .slice none 0 0, .slice none 0 0, .slice none 0 0, .int .i64 0, .int .i64 0, .int .i64 0, .int .i64 0, .slice none 0 0, .slice none 0 0] 110)) w1) := hk1
    have H9 : Hid (w1.cell? ⟨(w.heap.size + 1), 9, none⟩ = some (.string ⟨#[]⟩)) := h9
    clear hp1 hk1 h9
    go_wp2_with fail
    refine (rstatement_any HF.out.1 HF.out.2 HP1 H9.out).mono ?_
    rintro r w2 ⟨rfl, c, hp2, hk2⟩
    generalize hσ : Sp.stmt s.data.toList (Sp.fuel s.data.toList) (.live 0) = σ at *
    clear hσ
    have HP2 : Hid (RS (w.heap.size + 1) s 0 0 c σ w2) := hp2
    have HK2 : Hid (RK (w.heap.size + 1) ((w.alloc (.cells #[.string ⟨#[]⟩, .string ⟨#[]⟩, .int .i64 0, .slice none 0 0, .slice none 0 0, .slice none 0 0, .int .i64 0, .int .i64 0, .int .i64 0, .int .i64 0, .slice none 0 0, .slice none 0 0] 82)).alloc (.cells #[.string s, .string ⟨#[]⟩, .int .i64 0, .string ⟨#[]⟩, .int .i64 0, .int .i64 0, .int .i64 0, .int .i64 0, .int .i64 0, .string ⟨#[]⟩, .string ⟨#[]⟩, .int .i64 0, .slice none 0 0, .slice none 0 0, .slice none 0 0, .int .i64 0, .int .i64 0, .int .i64 0, .int .i64 0, .slice none 0 0, .slice none 0 0] 110)) w2) := HK1.out.trans hk2
    clear hp2 hk2 HP1 HK1 H9 HF
    obtain ⟨kd, v9, v10, v11, v15, v16, v17, v18, o1, o2, o3, o4, o5, m1, m2, m3, m4, m5, p1, p2, p3, p4, p5, q1, q7, q8, q9, q10, q11, q12, q13, q14, q15, q16, q17, q18, q19, q20, hcl⟩ := HP2.out.all
    cases σ with
    | dead y a =>
      have hz := er_dead HP2.out
      have HV' : Hid (Sp.parse s.data.toList = (Sp.St.dead y a).out) := by show _ = _; rw [HV.out]; rfl
      clear hcl HV
      have HM : Hid (∀ k, k < (w.alloc (.cells #[.string ⟨#[]⟩, .string ⟨#[]⟩, .int .i64 0, .slice none 0 0, .slice none 0 0, .slice none 0 0, .int .i64 0, .int .i64 0, .int .i64 0, .int .i64 0, .slice none 0 0, .slice none 0 0] 82)).heap.size → w2.heap[k]? = (w.alloc (.cells #[.string ⟨#[]⟩, .string ⟨#[]⟩, .int .i64 0, .slice none 0 0, .slice none 0 0, .slice none 0 0, .int .i64 0, .int .i64 0, .int .i64 0, .int .i64 0, .slice none 0 0, .slice none 0 0] 82)).heap[k]?) := RK.made (s := s) (by simp) HK2.out
      have hM := HM.out w.heap.size (by simp)
      have hcl0 : ∀ o, w2.cell? ⟨w.heap.size, o, none⟩ = #[Value.string ⟨#[]⟩, .string ⟨#[]⟩, .int .i64 0, .slice none 0 0, .slice none 0 0, .slice none 0 0, .int .i64 0, .int .i64 0, .int .i64 0, .int .i64 0, .slice none 0 0, .slice none 0 0][o]? := fun o => (World.cell?_of_block (w := (w.alloc (.cells #[.string ⟨#[]⟩, .string ⟨#[]⟩, .int .i64 0, .slice none 0 0, .slice none 0 0, .slice none 0 0, .int .i64 0, .int .i64 0, .int .i64 0, .int .i64 0, .slice none 0 0, .slice none 0 0] 82))) (a := ⟨w.heap.size, o, none⟩) hM).trans (World.cell?_alloc_new _ _ _ _)
      have hfz0 : ∀ o, w2.frozen? ⟨w.heap.size, o, none⟩ = false := fun o => (World.frozen?_of_block (w := (w.alloc (.cells #[.string ⟨#[]⟩, .string ⟨#[]⟩, .int .i64 0, .slice none 0 0, .slice none 0 0, .slice none 0 0, .int .i64 0, .int .i64 0, .int .i64 0, .int .i64 0, .slice none 0 0, .slice none 0 0] 82))) (a := ⟨w.heap.size, o, none⟩) hM).trans (fz_new _ _ _ _)
      have HBl : Hid (Below w.heap.size w w2) := ⟨HK2.out.os, HK2.out.tape, HK2.out.output, by have := HK2.out.size; simp at this; omega, fun k hk => (HM.out k (by simp; omega)).trans (Below.heap_alloc _ _ _ hk)⟩
      have r0 := hcl0 0
      have r1 := hcl0 1
      have r2 := hcl0 2
      have r3 := hcl0 3
      have r4 := hcl0 4
      have r5 := hcl0 5
      have r6 := hcl0 6
      have r7 := hcl0 7
      have r8 := hcl0 8
      have r9 := hcl0 9
      have r10 := hcl0 10
      have r11 := hcl0 11
      have g0 := hfz0 0
      have g1 := hfz0 1
      have g2 := hfz0 2
      have g3 := hfz0 3
      have g4 := hfz0 4
      have g5 := hfz0 5
      have g6 := hfz0 6
      have g7 := hfz0 7
      have g8 := hfz0 8
      have g9 := hfz0 9
      have g10 := hfz0 10
      have g11 := hfz0 11
      clear hM hcl0 hfz0
      go_wp2_with fail
      go_region
      go_wp2_with fail
      refine bodyPost_ret (v := .tuple #[.agg #[.string v9, .string v10, .int .i64 v11, .slice o1 m1 p1, .slice o2 m2 p2, .slice o3 m3 p3, .int .i64 v15, .int .i64 v16, .int .i64 v17, .int .i64 v18, .slice o4 m4 p4, .slice o5 m5 p5], .int .i64 ((er (Sp.St.dead y a) : Nat)), .int .i64 ((ea (Sp.St.dead y a) : Nat))]) (by simp [results, Tryz.results31, go_sem, r0, r1, r2, r3, r4, r5, r6, r7, r8, r9, r10, r11]) rfl ⟨_, ⟨_, _, _, _, _, _, _, _, _, _, _, _, _, _, _, _, _, _, _, _, _, _, rfl⟩, by rw [HV'.out, out_eq], ?_⟩
      refine Below.drew ?_
      iterate 12 refine Below.chain ?_ _ (by exact Nat.le_refl _) _
      exact HBl.out
    | live e =>
      have hz : (((er (.live e) : Nat) : Int) == 0) = true := rfl
      have hfin : (kd.toList == [101, 110, 100]) = (Sp.St.live e).isCl s.data.toList .fin := hcl .fin (by decide)
      cases hff : (Sp.St.live e).isCl s.data.toList .fin
      · rw [hff] at hfin
        have hfn : (kd.toList != [101, 110, 100]) = true := by rw [bne, hfin]; rfl
        have HV' : Hid (Sp.parse s.data.toList = ((Sp.St.live e).fail s.data.toList 2).out) := by show _ = _; rw [HV.out, hff]; rfl
        clear hcl HV hff
        go_wp2_with fail
        refine (rfail_any HP2.out 2 (by decide) 0 (by have := far_fail s.data.toList 2 (Sp.St.live e); omega)).mono ?_
        rintro r w3 ⟨rfl, hp3, hk3⟩
        have HP3 : Hid (RS (w.heap.size + 1) s 0 0 c ((Sp.St.live e).fail s.data.toList 2) w3) := hp3
        have HK3 : Hid (RK (w.heap.size + 1) ((w.alloc (.cells #[.string ⟨#[]⟩, .string ⟨#[]⟩, .int .i64 0, .slice none 0 0, .slice none 0 0, .slice none 0 0, .int .i64 0, .int .i64 0, .int .i64 0, .int .i64 0, .slice none 0 0, .slice none 0 0] 82)).alloc (.cells #[.string s, .string ⟨#[]⟩, .int .i64 0, .string ⟨#[]⟩, .int .i64 0, .int .i64 0, .int .i64 0, .int .i64 0, .int .i64 0, .string ⟨#[]⟩, .string ⟨#[]⟩, .int .i64 0, .slice none 0 0, .slice none 0 0, .slice none 0 0, .int .i64 0, .int .i64 0, .int .i64 0, .int .i64 0, .slice none 0 0, .slice none 0 0] 110)) w3) := HK2.out.trans hk3
        clear hp3 hk3 HP2 HK2 hfin hfn hz q1 q7 q8 q9 q10 q11 q12 q13 q14 q15 q16 q17 q18 q19 q20
        clear v9 v10 v11 v15 v16 v17 v18 o1 o2 o3 o4 o5 m1 m2 m3 m4 m5 p1 p2 p3 p4 p5
        obtain ⟨kd, v9, v10, v11, v15, v16, v17, v18, o1, o2, o3, o4, o5, m1, m2, m3, m4, m5, p1, p2, p3, p4, p5, q1, q7, q8, q9, q10, q11, q12, q13, q14, q15, q16, q17, q18, q19, q20, hcl⟩ := HP3.out.all
        clear hcl
        have HM : Hid (∀ k, k < (w.alloc (.cells #[.string ⟨#[]⟩, .string ⟨#[]⟩, .int .i64 0, .slice none 0 0, .slice none 0 0, .slice none 0 0, .int .i64 0, .int .i64 0, .int .i64 0, .int .i64 0, .slice none 0 0, .slice none 0 0] 82)).heap.size → w3.heap[k]? = (w.alloc (.cells #[.string ⟨#[]⟩, .string ⟨#[]⟩, .int .i64 0, .slice none 0 0, .slice none 0 0, .slice none 0 0, .int .i64 0, .int .i64 0, .int .i64 0, .int .i64 0, .slice none 0 0, .slice none 0 0] 82)).heap[k]?) := RK.made (s := s) (by simp) HK3.out
        have hM := HM.out w.heap.size (by simp)
        have hcl0 : ∀ o, w3.cell? ⟨w.heap.size, o, none⟩ = #[Value.string ⟨#[]⟩, .string ⟨#[]⟩, .int .i64 0, .slice none 0 0, .slice none 0 0, .slice none 0 0, .int .i64 0, .int .i64 0, .int .i64 0, .int .i64 0, .slice none 0 0, .slice none 0 0][o]? := fun o => (World.cell?_of_block (w := (w.alloc (.cells #[.string ⟨#[]⟩, .string ⟨#[]⟩, .int .i64 0, .slice none 0 0, .slice none 0 0, .slice none 0 0, .int .i64 0, .int .i64 0, .int .i64 0, .int .i64 0, .slice none 0 0, .slice none 0 0] 82))) (a := ⟨w.heap.size, o, none⟩) hM).trans (World.cell?_alloc_new _ _ _ _)
        have hfz0 : ∀ o, w3.frozen? ⟨w.heap.size, o, none⟩ = false := fun o => (World.frozen?_of_block (w := (w.alloc (.cells #[.string ⟨#[]⟩, .string ⟨#[]⟩, .int .i64 0, .slice none 0 0, .slice none 0 0, .slice none 0 0, .int .i64 0, .int .i64 0, .int .i64 0, .int .i64 0, .slice none 0 0, .slice none 0 0] 82))) (a := ⟨w.heap.size, o, none⟩) hM).trans (fz_new _ _ _ _)
        have HBl : Hid (Below w.heap.size w w3) := ⟨HK3.out.os, HK3.out.tape, HK3.out.output, by have := HK3.out.size; simp at this; omega, fun k hk => (HM.out k (by simp; omega)).trans (Below.heap_alloc _ _ _ hk)⟩
        have r0 := hcl0 0
        have r1 := hcl0 1
        have r2 := hcl0 2
        have r3 := hcl0 3
        have r4 := hcl0 4
        have r5 := hcl0 5
        have r6 := hcl0 6
        have r7 := hcl0 7
        have r8 := hcl0 8
        have r9 := hcl0 9
        have r10 := hcl0 10
        have r11 := hcl0 11
        have g0 := hfz0 0
        have g1 := hfz0 1
        have g2 := hfz0 2
        have g3 := hfz0 3
        have g4 := hfz0 4
        have g5 := hfz0 5
        have g6 := hfz0 6
        have g7 := hfz0 7
        have g8 := hfz0 8
        have g9 := hfz0 9
        have g10 := hfz0 10
        have g11 := hfz0 11
        clear hM hcl0 hfz0
        go_wp2_with fail
        go_region
        go_wp2_with fail
        refine bodyPost_ret (v := .tuple #[.agg #[.string v9, .string v10, .int .i64 v11, .slice o1 m1 p1, .slice o2 m2 p2, .slice o3 m3 p3, .int .i64 v15, .int .i64 v16, .int .i64 v17, .int .i64 v18, .slice o4 m4 p4, .slice o5 m5 p5], .int .i64 ((er ((Sp.St.live e).fail s.data.toList 2) : Nat)), .int .i64 ((ea ((Sp.St.live e).fail s.data.toList 2) : Nat))]) (by simp [results, Tryz.results31, go_sem, r0, r1, r2, r3, r4, r5, r6, r7, r8, r9, r10, r11]) rfl ⟨_, ⟨_, _, _, _, _, _, _, _, _, _, _, _, _, _, _, _, _, _, _, _, _, _, rfl⟩, by rw [HV'.out, out_eq], ?_⟩
        refine Below.drew ?_
        iterate 12 refine Below.chain ?_ _ (by exact Nat.le_refl _) _
        exact HBl.out
      · rw [hff] at hfin
        have hfn : (kd.toList != [101, 110, 100]) = false := by rw [bne, hfin]; rfl
        have HV' : Hid (Sp.parse s.data.toList = (Sp.St.live e).out) := by show _ = _; rw [HV.out, hff]; rfl
        clear hcl HV hff
        have HM : Hid (∀ k, k < (w.alloc (.cells #[.string ⟨#[]⟩, .string ⟨#[]⟩, .int .i64 0, .slice none 0 0, .slice none 0 0, .slice none 0 0, .int .i64 0, .int .i64 0, .int .i64 0, .int .i64 0, .slice none 0 0, .slice none 0 0] 82)).heap.size → w2.heap[k]? = (w.alloc (.cells #[.string ⟨#[]⟩, .string ⟨#[]⟩, .int .i64 0, .slice none 0 0, .slice none 0 0, .slice none 0 0, .int .i64 0, .int .i64 0, .int .i64 0, .int .i64 0, .slice none 0 0, .slice none 0 0] 82)).heap[k]?) := RK.made (s := s) (by simp) HK2.out
        have hM := HM.out w.heap.size (by simp)
        have hcl0 : ∀ o, w2.cell? ⟨w.heap.size, o, none⟩ = #[Value.string ⟨#[]⟩, .string ⟨#[]⟩, .int .i64 0, .slice none 0 0, .slice none 0 0, .slice none 0 0, .int .i64 0, .int .i64 0, .int .i64 0, .int .i64 0, .slice none 0 0, .slice none 0 0][o]? := fun o => (World.cell?_of_block (w := (w.alloc (.cells #[.string ⟨#[]⟩, .string ⟨#[]⟩, .int .i64 0, .slice none 0 0, .slice none 0 0, .slice none 0 0, .int .i64 0, .int .i64 0, .int .i64 0, .int .i64 0, .slice none 0 0, .slice none 0 0] 82))) (a := ⟨w.heap.size, o, none⟩) hM).trans (World.cell?_alloc_new _ _ _ _)
        have hfz0 : ∀ o, w2.frozen? ⟨w.heap.size, o, none⟩ = false := fun o => (World.frozen?_of_block (w := (w.alloc (.cells #[.string ⟨#[]⟩, .string ⟨#[]⟩, .int .i64 0, .slice none 0 0, .slice none 0 0, .slice none 0 0, .int .i64 0, .int .i64 0, .int .i64 0, .int .i64 0, .slice none 0 0, .slice none 0 0] 82))) (a := ⟨w.heap.size, o, none⟩) hM).trans (fz_new _ _ _ _)
        have HBl : Hid (Below w.heap.size w w2) := ⟨HK2.out.os, HK2.out.tape, HK2.out.output, by have := HK2.out.size; simp at this; omega, fun k hk => (HM.out k (by simp; omega)).trans (Below.heap_alloc _ _ _ hk)⟩
        have r0 := hcl0 0
        have r1 := hcl0 1
        have r2 := hcl0 2
        have r3 := hcl0 3
        have r4 := hcl0 4
        have r5 := hcl0 5
        have r6 := hcl0 6
        have r7 := hcl0 7
        have r8 := hcl0 8
        have r9 := hcl0 9
        have r10 := hcl0 10
        have r11 := hcl0 11
        have g0 := hfz0 0
        have g1 := hfz0 1
        have g2 := hfz0 2
        have g3 := hfz0 3
        have g4 := hfz0 4
        have g5 := hfz0 5
        have g6 := hfz0 6
        have g7 := hfz0 7
        have g8 := hfz0 8
        have g9 := hfz0 9
        have g10 := hfz0 10
        have g11 := hfz0 11
        clear hM hcl0 hfz0
        go_wp2_with fail
        go_region
        go_wp2_with fail
        refine bodyPost_ret (v := .tuple #[.agg #[.string v9, .string v10, .int .i64 v11, .slice o1 m1 p1, .slice o2 m2 p2, .slice o3 m3 p3, .int .i64 v15, .int .i64 v16, .int .i64 v17, .int .i64 v18, .slice o4 m4 p4, .slice o5 m5 p5], .int .i64 ((er (Sp.St.live e) : Nat)), .int .i64 ((ea (Sp.St.live e) : Nat))]) (by simp [results, Tryz.results31, go_sem, r0, r1, r2, r3, r4, r5, r6, r7, r8, r9, r10, r11]) rfl ⟨_, ⟨_, _, _, _, _, _, _, _, _, _, _, _, _, _, _, _, _, _, _, _, _, _, rfl⟩, by rw [HV'.out, out_eq], ?_⟩
        refine Below.drew ?_
        iterate 12 refine Below.chain ?_ _ (by exact Nat.le_refl _) _
        exact HBl.out
end Go.Proofs.YtgnncnhkgmhngaaGreatDoor
