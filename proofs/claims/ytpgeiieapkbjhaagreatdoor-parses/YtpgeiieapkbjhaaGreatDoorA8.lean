import Derived.Test.YtpgeiieapkbjhaaGreatDoorA7
namespace Go.Proofs.YtpgeiieapkbjhaaGreatDoor
open Go.RowKit

theorem fz_new (w : World) (c : Array Value) (t : TypeId) (o : Nat) : (w.alloc (.cells c t)).frozen? ⟨w.heap.size, o, none⟩ = false := by go_simp

/-- The parser, as it is made. -/
theorem ps_start {s : ByteArray} {w w1 : World} {g len cap : Nat} {xs : List Value} {wds : List ByteArray} (tk : TK s.data.toList len) (hown : w1.ownsRow w.heap.size 128 3 (.slice (some ⟨g, 0, none⟩) len cap) len xs) (tc : TokCells s.data.toList len xs wds) :
    PS w1.heap.size g cap len s.data.toList 0 (.live 0) (w1.alloc (.cells #[.slice (some ⟨g, 0, none⟩) len cap, .int .i64 0, .int .i64 0, .int .i64 0, .int .i64 0] 93)) := by
  have hg := (owns_block hown g rfl).2
  have hc : ∀ o, (w1.alloc (.cells #[.slice (some ⟨g, 0, none⟩) len cap, .int .i64 0, .int .i64 0, .int .i64 0, .int .i64 0] 93)).cell? ⟨w1.heap.size, o, none⟩ = #[Value.slice (some ⟨g, 0, none⟩) len cap, .int .i64 0, .int .i64 0, .int .i64 0, .int .i64 0][o]? := fun o => World.cell?_alloc_new _ _ _ _
  have hcell : ∀ i, i < len * 3 → (w1.alloc (.cells #[.slice (some ⟨g, 0, none⟩) len cap, .int .i64 0, .int .i64 0, .int .i64 0, .int .i64 0] 93)).cell? ⟨g, i, none⟩ = xs[i]? := by
    intro i hi
    rw [World.cell?_alloc_lt _ _ _ hg]
    rcases hown.2 with ⟨h, _⟩ | ⟨g', cap', cur, hv, _, hb, hn, _, hsz, htk⟩
    · cases h
    · injection hv with h1 h2 h3
      injection h1 with h1
      injection h1 with h1
      subst h1
      rw [← htk, List.getElem?_take_of_lt hi]
      simp [World.cell?, hb]
  refine ⟨by simp, by simp; omega, by omega, tk, hc 0, ⟨0, ⟨tk.one, rfl⟩, hc 1⟩, hc 2, hc 3, hc 4, fun o => ?_, fun j hj => ?_⟩
  · exact fz_new _ _ _ _
  · have hj' : j < wds.length := by rw [tc.len]; exact hj
    obtain ⟨a, b, c, d⟩ := tc.at0 j hj'
    exact ⟨wds[j], (hcell _ (by omega)).trans a, (hcell _ (by omega)).trans b, (hcell _ (by omega)).trans c, d⟩

theorem parse_eq (s : Sp.Bs) (h : ¬ 2000 < s.length) : Sp.parse s = (if (Sp.stmt s (Sp.fuel s) (.live 0)).isCl s .fin then Sp.stmt s (Sp.fuel s) (.live 0) else (Sp.stmt s (Sp.fuel s) (.live 0)).fail s 2).out := by
  unfold Sp.parse; rw [if_neg h]

theorem out_eq (σ : Sp.St) : σ.out = (er σ, ea σ) := by cases σ <;> rfl

set_option maxHeartbeats 2000000 in
theorem check_any (s : ByteArray) (w : World) (hs : s.size ≤ maxLen) (hr : VR w) :
    Calls Tryz.prog 17 #[.string s] w fun e w' => e = .returned (.tuple #[.int .i64 ((Sp.parse s.data.toList).1 : Nat), .int .i64 ((Sp.parse s.data.toList).2 : Nat)]) ∧ Below w.heap.size w w' := by
  unfold maxLen at hs
  by_cases hl : 2000 < s.size
  · have HV : Hid (Sp.parse s.data.toList = (1, 0)) := by show _ = _; unfold Sp.parse; rw [if_pos (by rw [size_data]; exact hl)]
    go_enter Tryz.func17, Tryz.ntmps17
    go_wp2_with fail
    go_ret2
    exact ⟨by rw [HV.out]; rfl, Below.refl _ _⟩
  · have HV : Hid (Sp.parse s.data.toList = (if (Sp.stmt s.data.toList (Sp.fuel s.data.toList) (.live 0)).isCl s.data.toList .fin then Sp.stmt s.data.toList (Sp.fuel s.data.toList) (.live 0) else (Sp.stmt s.data.toList (Sp.fuel s.data.toList) (.live 0)).fail s.data.toList 2).out) := parse_eq _ (by rw [size_data]; exact hl)
    have hfu : Sp.fuel s.data.toList = 32 * (s.size + 4) := by unfold Sp.fuel; rw [size_data]
    have hfu1 : Sp.fuel s.data.toList ≤ 900000 := by omega
    have hfu2 : 32 * Sp.rem s.data.toList (.live 0) + 20 ≤ Sp.fuel s.data.toList := by
      have : Sp.rem s.data.toList (.live 0) = s.size + 1 := by simp [Sp.rem]
      rw [this]; omega
    have HF : Hid (Sp.fuel s.data.toList ≤ 900000 ∧ 32 * Sp.rem s.data.toList (.live 0) + 20 ≤ Sp.fuel s.data.toList) := ⟨hfu1, hfu2⟩
    clear hfu hfu1 hfu2
    go_enter Tryz.func17, Tryz.ntmps17
    go_wp2_with fail
    refine (split_any _ _ (by omega) hr).mono ?_
    rintro r w1 ⟨g, len, cap, xs, wds, rfl, tk, hg, hown, tc, hb⟩
    have HP : Hid (PS w1.heap.size g cap len s.data.toList 0 (.live 0) (w1.alloc (.cells #[.slice (some ⟨g, 0, none⟩) len cap, .int .i64 0, .int .i64 0, .int .i64 0, .int .i64 0] 93))) := ps_start tk hown tc
    have HB : Hid (Below w.heap.size w w1) := hb
    clear tk hown tc hb
    go_wp2_with fail
    refine (statement_any HF.out.1 HF.out.2 HP.out).mono ?_
    rintro r w2 ⟨rfl, hp2, hk2⟩
    generalize hσ : Sp.stmt s.data.toList (Sp.fuel s.data.toList) (.live 0) = σ at *
    clear hσ
    have HP2 : Hid (PS w1.heap.size g cap len s.data.toList 0 σ w2) := hp2
    have HK2 : Hid (Kept w1.heap.size w1 w2) := ((Kept.refl _ _).alloc _).trans hk2
    clear hp2 hk2 HP
    go_wp2_with fail
    refine (expectEnd_any HP2.out).mono ?_
    rintro r w3 ⟨rfl, hp3, hk3⟩
    generalize (if σ.isCl s.data.toList .fin then σ else σ.fail s.data.toList 2) = τ at *
    have HP3 : Hid (PS w1.heap.size g cap len s.data.toList 0 τ w3) := hp3
    have HK3 : Hid (Kept w1.heap.size w1 w3) := HK2.out.trans hk3
    have c3 := hp3.h3
    have c4 := hp3.h4
    clear hp3 hk3 HP2 HK2
    go_wp2_with fail
    go_quiet (fail)
    go_wp2_with fail
    go_ret2
    have hbl : Below w.heap.size w w3 := ⟨HK3.out.os.trans HB.out.os, HK3.out.tape.trans HB.out.tape, HK3.out.output.trans HB.out.output, Nat.le_trans HB.out.size HK3.out.size, fun k hk => (HK3.out.block k (Nat.lt_of_lt_of_le hk HB.out.size) (by have := HB.out.size; omega)).trans (HB.out.block k hk)⟩
    exact ⟨by rw [HV.out, out_eq]; rfl, below_drewN hbl _⟩

set_option maxHeartbeats 1000000 in
theorem parse_any (s : ByteArray) (w : World) (hs : s.size ≤ maxLen) (hr : VR w) :
    Calls Tryz.prog 8 #[.string s] w fun e w' => e = .returned (.tuple #[.int .i64 ((Sp.parse s.data.toList).1 : Nat), .int .i64 ((Sp.parse s.data.toList).2 : Nat)]) ∧ Below w.heap.size w w' := by
  have HR : Hid (VR w) := hr
  clear hr
  go_enter Tryz.func8, Tryz.ntmps8
  go_wp2_with fail
  refine (check_any _ _ hs HR.out).mono ?_
  rintro r w1 ⟨rfl, hb⟩
  have HB : Hid (Below w.heap.size w w1) := hb
  clear hb
  go_wp2_with fail
  go_ret2
  exact ⟨rfl, HB.out⟩
end Go.Proofs.YtpgeiieapkbjhaaGreatDoor
