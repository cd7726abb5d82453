import Derived.Test.YtpgeiieapkbjhaaGreatDoorR9
namespace Go.Proofs.YtpgeiieapkbjhaaGreatDoor
open Go.RowKit

theorem far_top (s : ByteArray) (σ : Sp.St) : far s.data.toList σ ≤ s.size + 1 := by
  cases σ with
  | live e => simp only [far]; rw [size_data]; omega
  | dead x a => simp only [far]; rw [size_data]; exact Nat.le_refl _

theorem rnode_any {b : Nat} {s : ByteArray} {d k : Nat} {c : Ct} {σ : Sp.St} {w : World} (h : RS b s d (k + 1) c σ w) (v0 v1 v2 v3 v4 v5 v6 v7 v8 : Value) (h1 : ∀ u ∈ [v0, v1, v2, v3, v4, v5, v6, v7, v8], u.oneCell' = true) :
    Calls Tryz.prog 120 #[.pointer (some ⟨b, 0, none⟩), .agg #[v0, v1, v2, v3, v4, v5, v6, v7, v8]] w (RI b s d k c σ w) := by
  obtain ⟨hs, x, hc, ho, ht⟩ := h
  obtain ⟨m, ⟨xs, hown⟩, hm⟩ := ho.on
  obtain ⟨m2, hm2, hb2⟩ := ho.oq
  have hft := far_top s σ
  refine (rnode_raw hc m xs hown (by omega) v0 v1 v2 v3 v4 v5 v6 v7 v8 h1).mono ?_
  rintro r w' ⟨q, g, cap, w1, rfl, rfl, hG, hO1⟩
  refine ⟨q, rfl, ⟨hs, _, (hc.kept hG.own hG.size).s19 _, ?_, ?_⟩, RK.grew (by decide) hc.c19 hG⟩
  · exact ⟨(ho.oc.grew ⟨xs, hown⟩ (by decide) hG).set 19 _, (ho.or.grew ⟨xs, hown⟩ (by decide) hG).set 19 _, (ho.og.grew ⟨xs, hown⟩ (by decide) hG).set 19 _, ⟨m + 1, Ow.set hO1 19 _, by omega⟩, ⟨m2, ((hm2.grew ⟨xs, hown⟩ (by decide) hG)).set 19 _, by omega⟩⟩
  · cases σ with
    | live e => exact ht
    | dead y z => exact ht

theorem radd_any {b : Nat} {s : ByteArray} {d k : Nat} {c : Ct} {σ : Sp.St} {w : World} (h : RS b s d (k + 1) c σ w) (v0 v1 v2 v3 v4 v5 v6 v7 v8 v9 v10 : Value) (h1 : ∀ u ∈ [v0, v1, v2, v3, v4, v5, v6, v7, v8, v9, v10], u.oneCell' = true) :
    Calls Tryz.prog 71 #[.pointer (some ⟨b, 0, none⟩), .agg #[v0, v1, v2, v3, v4, v5, v6, v7, v8, v9, v10]] w (RI b s d k c σ w) := by
  obtain ⟨hs, x, hc, ho, ht⟩ := h
  obtain ⟨m, ⟨xs, hown⟩, hm⟩ := ho.oq
  obtain ⟨m2, hm2, hb2⟩ := ho.on
  have hft := far_top s σ
  refine (radd_raw hc m xs hown (by omega) v0 v1 v2 v3 v4 v5 v6 v7 v8 v9 v10 h1).mono ?_
  rintro r w' ⟨q, g, cap, w1, rfl, rfl, hG, hO1⟩
  refine ⟨q, rfl, ⟨hs, _, (hc.kept hG.own hG.size).s20 _, ?_, ?_⟩, RK.grew (by decide) hc.c20 hG⟩
  · exact ⟨(ho.oc.grew ⟨xs, hown⟩ (by decide) hG).set 20 _, (ho.or.grew ⟨xs, hown⟩ (by decide) hG).set 20 _, (ho.og.grew ⟨xs, hown⟩ (by decide) hG).set 20 _, ⟨m2, ((hm2.grew ⟨xs, hown⟩ (by decide) hG)).set 20 _, by omega⟩, ⟨m + 1, Ow.set hO1 20 _, by omega⟩⟩
  · cases σ with
    | live e => exact ht
    | dead y z => exact ht

theorem one9 (a0 a4 a5 : ByteArray) (a1 a3 a6 : Int) (a2 a7 a8 : Value) (h2 : a2.oneCell' = true) (h7 : a7.oneCell' = true) (h8 : a8.oneCell' = true) : ∀ u ∈ [Value.string a0, .int .i64 a1, a2, .int .i64 a3, .string a4, .string a5, .int .i64 a6, a7, a8], u.oneCell' = true := by
  intro u hu
  simp only [List.mem_cons, List.not_mem_nil, or_false] at hu
  rcases hu with rfl | rfl | rfl | rfl | rfl | rfl | rfl | rfl | rfl
  · rfl
  · rfl
  · exact h2
  · rfl
  · rfl
  · rfl
  · rfl
  · exact h7
  · exact h8

set_option maxHeartbeats 1000000 in
theorem rpair_any {b : Nat} {s : ByteArray} {d k : Nat} {c : Ct} {σ : Sp.St} {w : World} (h : RS b s d (k + 1) c σ w) (op : ByteArray) (at_ x y : Int) :
    Calls Tryz.prog 106 #[.pointer (some ⟨b, 0, none⟩), .string op, .int .i64 at_, .int .i64 x, .int .i64 y] w (RI b s d k c σ w) := by
  have HP : Hid (RS b s d (k + 1) c σ w) := h
  have lb := h.lb
  clear h
  go_enter Tryz.func106, Tryz.ntmps106
  go_wp2_with fail
  refine (rnode_any (HP.out.alloc _) _ _ _ _ _ _ _ _ _ (one9 _ _ _ _ _ _ _ _ _ rfl rfl rfl)).mono ?_
  rintro r w1 ⟨q, rfl, hp, hk⟩
  have HP1 : Hid (RS b s d k c σ w1) := hp
  have HK1 : Hid (RK b w w1) := ((RK.refl b w).alloc lb _).trans hk
  clear hp hk
  go_wp2_with fail
  go_ret
  exact ⟨_, rfl, HP1.out, HK1.out⟩
end Go.Proofs.YtpgeiieapkbjhaaGreatDoor
