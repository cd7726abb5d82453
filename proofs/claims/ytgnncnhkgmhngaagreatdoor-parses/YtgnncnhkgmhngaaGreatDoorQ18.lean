import Derived.Test.YtgnncnhkgmhngaaGreatDoorQ18A
import Derived.Test.YtgnncnhkgmhngaaGreatDoorQ18B
namespace Go.Proofs.YtgnncnhkgmhngaaGreatDoor
open Go.RowKit
attribute [local go_sem ↓] Go.wp_at_zero Go.wp_at_succ

set_option maxHeartbeats 4000000 in
theorem atom_cas {b c cap len : Nat} {s : Sp.Bs} {n d : Nat} {σ : Sp.St} {w : World} (IH : Hid (∀ m, m ≤ n → All b c cap len s m)) (hd : d + (n + 1) ≤ 1000000) (hm : 32 * Sp.rem s σ + 2 ≤ n + 1) (hp : PS b c cap len s d σ w) (h_num : σ.isCl s .num = false) (h_txt : σ.isCl s .txt = false) (h_tru : σ.is s [116, 114, 117, 101] = false) (h_fls : σ.is s [102, 97, 108, 115, 101] = false) (h_nul : σ.is s [110, 117, 108, 108] = false) (h_nam : σ.isCl s .name = false) (h_opn : σ.is s [40] = false) (h_exi : σ.is s [101, 120, 105, 115, 116, 115] = false) (h_coa : σ.is s [99, 111, 97, 108, 101, 115, 99, 101] = false) (h_cas : σ.is s [99, 97, 115, 101] = true) :
    Calls Tryz.prog 337 #[.pointer (some ⟨b, 0, none⟩)] w (PostV b c cap len s d (Sp.run s (n + 1) .atom d σ) w IsIf fun w' v => Rp w' (Sp.tr s (n + 1) .atom d .nil σ) w.heap.size w'.heap.size v) := by
  have hbw := hp.lb
  have hcw := hp.lc
  have h1 := Sp.rem_openT_lt (d := d) h_cas
  have HV : Hid (Sp.run s (n + 1) .atom d σ = Sp.St.must s [101, 110, 100] (Sp.run s n .caseW (d + 1) (Sp.St.openT s d σ))) := by show _ = _; rw [Sp.run]; simp [h_num, h_txt, h_tru, h_fls, h_nul, h_nam, h_opn, h_exi, h_coa, h_cas]
  have HVT : Hid (Sp.tr s (n + 1) .atom d .nil σ = Sp.tr s n .caseW (d + 1) .nil (σ.openT s d)) := by show _ = _; rw [Sp.tr]; simp [h_num, h_txt, h_tru, h_fls, h_nul, h_nam, h_opn, h_exi, h_coa]
  rw [← opened_is h_cas] at h1 HV HVT
  obtain ⟨n', rfl⟩ : ∃ n', n = n' + 2 := ⟨n - 2, by omega⟩
  obtain ⟨i, wd, hi, tc, PK⟩ := peek_any hp
  have hk3 := kind_name hp.tk hi tc
  have HTK : Hid (σ.isLive = true → Sp.tokAt s (pos s i) = σ.at_ s ∧ ((∀ e, σ = .live e → Sp.tokCl s e ≠ .bad) → wd = bz (σ.word s))) := fun hl => tok_live hi tc hl
  have HPA : Hid (PS b c cap len s d σ w) := hp
  have HPK : Hid (∀ w', w' = w → Calls Tryz.prog 75 #[.pointer (some ⟨b, 0, none⟩)] w' fun r w'' => r = .returned (.agg #[.int .i64 (kn (Sp.tokCl s (pos s i))), .int .i64 (Sp.tokAt s (pos s i) : Nat), .string wd]) ∧ Below w.heap.size w w'') := fun w' e => by subst e; exact PK
  clear hp hi tc PK
  generalize kn (Sp.tokCl s (pos s i)) = kk at *
  generalize Sp.tokAt s (pos s i) = aa at *
  have hmf : ∀ (fn : Fn) (first cap : Array Value) (w : World), (Instr.makeFunc fn first cap).run Tryz.prog w = .ok (.func fn first cap) w := fun _ _ _ _ => rfl
  go_enter Tryz.func337, Tryz.ntmps337
  go_wp2_with fail
  refine (HPK.out _ rfl).mono ?_
  rintro r w0 ⟨rfl, hb0⟩
  have hz0 := hb0.size
  have HP0 : Hid (PS b c cap len s d σ (w0.alloc (.cells #[.int .i64 kk, .int .i64 (aa : Int), .string wd] 155))) := (HPA.out.below hb0).alloc _
  have HK0 : Hid (Kept b w (w0.alloc (.cells #[.int .i64 kk, .int .i64 (aa : Int), .string wd] 155))) := (Kept.below hb0).alloc _
  have HX0 : Hid (Bk (w0.alloc (.cells #[.int .i64 kk, .int .i64 (aa : Int), .string wd] 155)) w0.heap.size [.int .i64 kk, .int .i64 (aa : Int), .string wd]) := Bk.new _ _ _
  clear hb0 HPK HPA
  go_wp2_with fail
  refine (acceptKind_any HP0.out .num (by decide) (by decide) _ rfl).mono ?_
  rintro r w1 ⟨rfl, hp, hk⟩
  rw [h_num] at hp
  rw [h_num]
  have HP1 : Hid (PS b c cap len s d σ w1) := hp
  have HK1 : Hid (Kept b w w1) := HK0.out.trans hk
  have HX1 : Hid (Bk w1 w0.heap.size [.int .i64 kk, .int .i64 (aa : Int), .string wd]) := HX0.out.kept hk (by omega)
  clear hp hk HP0 HK0 HX0
  go_wp2_with fail
  refine (acceptKind_any HP1.out .txt (by decide) (by decide) _ rfl).mono ?_
  rintro r w2 ⟨rfl, hp, hk⟩
  rw [h_txt] at hp
  rw [h_txt]
  have HP2 : Hid (PS b c cap len s d σ w2) := hp
  have HK2 : Hid (Kept b w w2) := HK1.out.trans hk
  have HX2 : Hid (Bk w2 w0.heap.size [.int .i64 kk, .int .i64 (aa : Int), .string wd]) := HX1.out.kept hk (by omega)
  clear hp hk HP1 HK1 HX1
  go_wp2_with fail
  refine (accept1q HP2.out [116, 114, 117, 101] (by decide) _ (by simp)).mono ?_
  rintro r w3 ⟨rfl, hp, hk⟩
  rw [take_no h_tru] at hp
  rw [h_tru]
  have HP3 : Hid (PS b c cap len s d σ w3) := hp
  have HK3 : Hid (Kept b w w3) := HK2.out.trans hk
  have HX3 : Hid (Bk w3 w0.heap.size [.int .i64 kk, .int .i64 (aa : Int), .string wd]) := HX2.out.kept hk (by omega)
  clear hp hk HP2 HK2 HX2
  go_wp2_with fail
  refine (accept1q HP3.out [102, 97, 108, 115, 101] (by decide) _ (by simp)).mono ?_
  rintro r w4 ⟨rfl, hp, hk⟩
  rw [take_no h_fls] at hp
  rw [h_fls]
  have HP4 : Hid (PS b c cap len s d σ w4) := hp
  have HK4 : Hid (Kept b w w4) := HK3.out.trans hk
  have HX4 : Hid (Bk w4 w0.heap.size [.int .i64 kk, .int .i64 (aa : Int), .string wd]) := HX3.out.kept hk (by omega)
  clear hp hk HP3 HK3 HX3
  go_wp2_with fail
  refine (accept1q HP4.out [110, 117, 108, 108] (by decide) _ (by simp)).mono ?_
  rintro r w5 ⟨rfl, hp, hk⟩
  rw [take_no h_nul] at hp
  rw [h_nul]
  have HP5 : Hid (PS b c cap len s d σ w5) := hp
  have HK5 : Hid (Kept b w w5) := HK4.out.trans hk
  have HX5 : Hid (Bk w5 w0.heap.size [.int .i64 kk, .int .i64 (aa : Int), .string wd]) := HX4.out.kept hk (by omega)
  clear hp hk HP4 HK4 HX4
  have hx := HX5.out.lt
  have x0 := HX5.out.c 0 (by simp)
  have x1 := HX5.out.c 1 (by simp)
  have x2 := HX5.out.c 2 (by simp)
  simp only [List.getElem_cons_zero, List.getElem_cons_succ] at x0 x1 x2
  rw [h_nam] at hk3
  go_wp2_with fail
  clear x0 x1 x2 hx
  refine (isQuery_no HP5.out h_opn).mono ?_
  rintro r w6 ⟨rfl, hp, hk⟩
  have HP6 : Hid (PS b c cap len s d σ w6) := hp
  have HK6 : Hid (Kept b w w6) := HK5.out.trans hk
  have HX6 : Hid (Bk w6 w0.heap.size [.int .i64 kk, .int .i64 (aa : Int), .string wd]) := HX5.out.kept hk (by omega)
  clear hp hk HP5 HK5 HX5
  go_wp2_with fail
  refine (accept1q HP6.out [101, 120, 105, 115, 116, 115] (by decide) _ (by simp)).mono ?_
  rintro r w7 ⟨rfl, hp, hk⟩
  rw [take_no h_exi] at hp
  rw [h_exi]
  have HP7 : Hid (PS b c cap len s d σ w7) := hp
  have HK7 : Hid (Kept b w w7) := HK6.out.trans hk
  have HX7 : Hid (Bk w7 w0.heap.size [.int .i64 kk, .int .i64 (aa : Int), .string wd]) := HX6.out.kept hk (by omega)
  clear hp hk HP6 HK6 HX6
  go_wp2_with fail
  refine (sees1q HP7.out [40] (by decide) _ (by simp)).mono ?_
  rintro r w8 ⟨rfl, hp, hk⟩
  rw [h_opn]
  have HP8 : Hid (PS b c cap len s d σ w8) := hp
  have HK8 : Hid (Kept b w w8) := HK7.out.trans hk
  have HX8 : Hid (Bk w8 w0.heap.size [.int .i64 kk, .int .i64 (aa : Int), .string wd]) := HX7.out.kept hk (by omega)
  clear hp hk HP7 HK7 HX7
  go_wp2_with fail
  refine (accept1q HP8.out [99, 111, 97, 108, 101, 115, 99, 101] (by decide) _ (by simp)).mono ?_
  rintro r w9 ⟨rfl, hp, hk⟩
  rw [take_no h_coa] at hp
  rw [h_coa]
  have HP9 : Hid (PS b c cap len s d σ w9) := hp
  have HK9 : Hid (Kept b w w9) := HK8.out.trans hk
  have HX9 : Hid (Bk w9 w0.heap.size [.int .i64 kk, .int .i64 (aa : Int), .string wd]) := HX8.out.kept hk (by omega)
  clear hp hk HP8 HK8 HX8
  go_wp2_with fail
  refine (sees1q HP9.out [99, 97, 115, 101] (by decide) _ (by simp)).mono ?_
  rintro r w10 ⟨rfl, hp, hk⟩
  rw [h_cas]
  have HP10 : Hid (PS b c cap len s d σ w10) := hp
  have HK10 : Hid (Kept b w w10) := HK9.out.trans hk
  have HX10 : Hid (Bk w10 w0.heap.size [.int .i64 kk, .int .i64 (aa : Int), .string wd]) := HX9.out.kept hk (by omega)
  clear hp hk HP9 HK9 HX9
  go_wp2_with fail
  refine (opened_arms HP10.out [99, 97, 115, 101] (by decide) (by omega) (Sp.St.must s [101, 110, 100] (Sp.run s (n' + 2) .caseW (d + 1) (Sp.St.opened s [99, 97, 115, 101] d σ))) (Sp.tr s (n' + 2) .caseW (d + 1) .nil (Sp.St.opened s [99, 97, 115, 101] d σ)) (fun w' _ hp' => (arms_any IH (by omega) (by omega) hp').mono fun _ _ h => h.rq)).mono ?_
  rintro r wz ⟨vz, rfl, hpz, hkz, hiz, hrz⟩
  have HX : Hid (PS b c cap len s d (Sp.St.must s [101, 110, 100] (Sp.run s (n' + 2) .caseW (d + 1) (Sp.St.opened s [99, 97, 115, 101] d σ))) wz ∧ Kept b w wz ∧ IsIf vz ∧ ((Sp.St.must s [101, 110, 100] (Sp.run s (n' + 2) .caseW (d + 1) (Sp.St.opened s [99, 97, 115, 101] d σ))).isLive = true → Rp wz (Sp.tr s (n' + 2) .caseW (d + 1) .nil (Sp.St.opened s [99, 97, 115, 101] d σ)) w.heap.size wz.heap.size vz)) := ⟨hpz, HK10.out.trans hkz, hiz, fun hl => Rp.wide _ _ _ _ _ _ (hrz hl).1 HK10.out.size (Nat.le_refl _)⟩
  clear hpz hkz hiz hrz
  go_wp2_with fail
  go_ret
  exact ⟨_, rfl, by rw [HV.out]; exact HX.out.1, HX.out.2.1, HX.out.2.2.1, by rw [HV.out, HVT.out]; exact HX.out.2.2.2⟩

set_option maxHeartbeats 4000000 in
theorem atom_non {b c cap len : Nat} {s : Sp.Bs} {n d : Nat} {σ : Sp.St} {w : World} (_IH : Hid (∀ m, m ≤ n → All b c cap len s m)) (_hd : d + (n + 1) ≤ 1000000) (_hm : 32 * Sp.rem s σ + 2 ≤ n + 1) (hp : PS b c cap len s d σ w) (h_num : σ.isCl s .num = false) (h_txt : σ.isCl s .txt = false) (h_tru : σ.is s [116, 114, 117, 101] = false) (h_fls : σ.is s [102, 97, 108, 115, 101] = false) (h_nul : σ.is s [110, 117, 108, 108] = false) (h_nam : σ.isCl s .name = false) (h_opn : σ.is s [40] = false) (h_exi : σ.is s [101, 120, 105, 115, 116, 115] = false) (h_coa : σ.is s [99, 111, 97, 108, 101, 115, 99, 101] = false) (h_cas : σ.is s [99, 97, 115, 101] = false) :
    Calls Tryz.prog 337 #[.pointer (some ⟨b, 0, none⟩)] w (PostV b c cap len s d (Sp.run s (n + 1) .atom d σ) w IsIf fun w' v => Rp w' (Sp.tr s (n + 1) .atom d .nil σ) w.heap.size w'.heap.size v) := by
  have hbw := hp.lb
  have hcw := hp.lc
  have HV : Hid (Sp.run s (n + 1) .atom d σ = σ.fail s 2) := by show _ = _; rw [Sp.run]; simp [h_num, h_txt, h_tru, h_fls, h_nul, h_nam, h_opn, h_exi, h_coa, h_cas]
  have HVT : Hid (Sp.tr s (n + 1) .atom d .nil σ = Sp.tr s n .caseW (d + 1) .nil (σ.openT s d)) := by show _ = _; rw [Sp.tr]; simp [h_num, h_txt, h_tru, h_fls, h_nul, h_nam, h_opn, h_exi, h_coa]
  obtain ⟨i, wd, hi, tc, PK⟩ := peek_any hp
  have hk3 := kind_name hp.tk hi tc
  have HTK : Hid (σ.isLive = true → Sp.tokAt s (pos s i) = σ.at_ s ∧ ((∀ e, σ = .live e → Sp.tokCl s e ≠ .bad) → wd = bz (σ.word s))) := fun hl => tok_live hi tc hl
  have HPA : Hid (PS b c cap len s d σ w) := hp
  have HPK : Hid (∀ w', w' = w → Calls Tryz.prog 75 #[.pointer (some ⟨b, 0, none⟩)] w' fun r w'' => r = .returned (.agg #[.int .i64 (kn (Sp.tokCl s (pos s i))), .int .i64 (Sp.tokAt s (pos s i) : Nat), .string wd]) ∧ Below w.heap.size w w'') := fun w' e => by subst e; exact PK
  clear hp hi tc PK
  generalize kn (Sp.tokCl s (pos s i)) = kk at *
  generalize Sp.tokAt s (pos s i) = aa at *
  have hmf : ∀ (fn : Fn) (first cap : Array Value) (w : World), (Instr.makeFunc fn first cap).run Tryz.prog w = .ok (.func fn first cap) w := fun _ _ _ _ => rfl
  go_enter Tryz.func337, Tryz.ntmps337
  go_wp2_with fail
  refine (HPK.out _ rfl).mono ?_
  rintro r w0 ⟨rfl, hb0⟩
  have hz0 := hb0.size
  have HP0 : Hid (PS b c cap len s d σ (w0.alloc (.cells #[.int .i64 kk, .int .i64 (aa : Int), .string wd] 155))) := (HPA.out.below hb0).alloc _
  have HK0 : Hid (Kept b w (w0.alloc (.cells #[.int .i64 kk, .int .i64 (aa : Int), .string wd] 155))) := (Kept.below hb0).alloc _
  have HX0 : Hid (Bk (w0.alloc (.cells #[.int .i64 kk, .int .i64 (aa : Int), .string wd] 155)) w0.heap.size [.int .i64 kk, .int .i64 (aa : Int), .string wd]) := Bk.new _ _ _
  clear hb0 HPK HPA
  go_wp2_with fail
  refine (acceptKind_any HP0.out .num (by decide) (by decide) _ rfl).mono ?_
  rintro r w1 ⟨rfl, hp, hk⟩
  rw [h_num] at hp
  rw [h_num]
  have HP1 : Hid (PS b c cap len s d σ w1) := hp
  have HK1 : Hid (Kept b w w1) := HK0.out.trans hk
  have HX1 : Hid (Bk w1 w0.heap.size [.int .i64 kk, .int .i64 (aa : Int), .string wd]) := HX0.out.kept hk (by omega)
  clear hp hk HP0 HK0 HX0
  go_wp2_with fail
  refine (acceptKind_any HP1.out .txt (by decide) (by decide) _ rfl).mono ?_
  rintro r w2 ⟨rfl, hp, hk⟩
  rw [h_txt] at hp
  rw [h_txt]
  have HP2 : Hid (PS b c cap len s d σ w2) := hp
  have HK2 : Hid (Kept b w w2) := HK1.out.trans hk
  have HX2 : Hid (Bk w2 w0.heap.size [.int .i64 kk, .int .i64 (aa : Int), .string wd]) := HX1.out.kept hk (by omega)
  clear hp hk HP1 HK1 HX1
  go_wp2_with fail
  refine (accept1q HP2.out [116, 114, 117, 101] (by decide) _ (by simp)).mono ?_
  rintro r w3 ⟨rfl, hp, hk⟩
  rw [take_no h_tru] at hp
  rw [h_tru]
  have HP3 : Hid (PS b c cap len s d σ w3) := hp
  have HK3 : Hid (Kept b w w3) := HK2.out.trans hk
  have HX3 : Hid (Bk w3 w0.heap.size [.int .i64 kk, .int .i64 (aa : Int), .string wd]) := HX2.out.kept hk (by omega)
  clear hp hk HP2 HK2 HX2
  go_wp2_with fail
  refine (accept1q HP3.out [102, 97, 108, 115, 101] (by decide) _ (by simp)).mono ?_
  rintro r w4 ⟨rfl, hp, hk⟩
  rw [take_no h_fls] at hp
  rw [h_fls]
  have HP4 : Hid (PS b c cap len s d σ w4) := hp
  have HK4 : Hid (Kept b w w4) := HK3.out.trans hk
  have HX4 : Hid (Bk w4 w0.heap.size [.int .i64 kk, .int .i64 (aa : Int), .string wd]) := HX3.out.kept hk (by omega)
  clear hp hk HP3 HK3 HX3
  go_wp2_with fail
  refine (accept1q HP4.out [110, 117, 108, 108] (by decide) _ (by simp)).mono ?_
  rintro r w5 ⟨rfl, hp, hk⟩
  rw [take_no h_nul] at hp
  rw [h_nul]
  have HP5 : Hid (PS b c cap len s d σ w5) := hp
  have HK5 : Hid (Kept b w w5) := HK4.out.trans hk
  have HX5 : Hid (Bk w5 w0.heap.size [.int .i64 kk, .int .i64 (aa : Int), .string wd]) := HX4.out.kept hk (by omega)
  clear hp hk HP4 HK4 HX4
  have hx := HX5.out.lt
  have x0 := HX5.out.c 0 (by simp)
  have x1 := HX5.out.c 1 (by simp)
  have x2 := HX5.out.c 2 (by simp)
  simp only [List.getElem_cons_zero, List.getElem_cons_succ] at x0 x1 x2
  rw [h_nam] at hk3
  go_wp2_with fail
  clear x0 x1 x2 hx
  refine (isQuery_no HP5.out h_opn).mono ?_
  rintro r w6 ⟨rfl, hp, hk⟩
  have HP6 : Hid (PS b c cap len s d σ w6) := hp
  have HK6 : Hid (Kept b w w6) := HK5.out.trans hk
  have HX6 : Hid (Bk w6 w0.heap.size [.int .i64 kk, .int .i64 (aa : Int), .string wd]) := HX5.out.kept hk (by omega)
  clear hp hk HP5 HK5 HX5
  go_wp2_with fail
  refine (accept1q HP6.out [101, 120, 105, 115, 116, 115] (by decide) _ (by simp)).mono ?_
  rintro r w7 ⟨rfl, hp, hk⟩
  rw [take_no h_exi] at hp
  rw [h_exi]
  have HP7 : Hid (PS b c cap len s d σ w7) := hp
  have HK7 : Hid (Kept b w w7) := HK6.out.trans hk
  have HX7 : Hid (Bk w7 w0.heap.size [.int .i64 kk, .int .i64 (aa : Int), .string wd]) := HX6.out.kept hk (by omega)
  clear hp hk HP6 HK6 HX6
  go_wp2_with fail
  refine (sees1q HP7.out [40] (by decide) _ (by simp)).mono ?_
  rintro r w8 ⟨rfl, hp, hk⟩
  rw [h_opn]
  have HP8 : Hid (PS b c cap len s d σ w8) := hp
  have HK8 : Hid (Kept b w w8) := HK7.out.trans hk
  have HX8 : Hid (Bk w8 w0.heap.size [.int .i64 kk, .int .i64 (aa : Int), .string wd]) := HX7.out.kept hk (by omega)
  clear hp hk HP7 HK7 HX7
  go_wp2_with fail
  refine (accept1q HP8.out [99, 111, 97, 108, 101, 115, 99, 101] (by decide) _ (by simp)).mono ?_
  rintro r w9 ⟨rfl, hp, hk⟩
  rw [take_no h_coa] at hp
  rw [h_coa]
  have HP9 : Hid (PS b c cap len s d σ w9) := hp
  have HK9 : Hid (Kept b w w9) := HK8.out.trans hk
  have HX9 : Hid (Bk w9 w0.heap.size [.int .i64 kk, .int .i64 (aa : Int), .string wd]) := HX8.out.kept hk (by omega)
  clear hp hk HP8 HK8 HX8
  go_wp2_with fail
  refine (sees1q HP9.out [99, 97, 115, 101] (by decide) _ (by simp)).mono ?_
  rintro r w10 ⟨rfl, hp, hk⟩
  rw [h_cas]
  have HP10 : Hid (PS b c cap len s d σ w10) := hp
  have HK10 : Hid (Kept b w w10) := HK9.out.trans hk
  have HX10 : Hid (Bk w10 w0.heap.size [.int .i64 kk, .int .i64 (aa : Int), .string wd]) := HX9.out.kept hk (by omega)
  clear hp hk HP9 HK9 HX9
  go_wp2_with fail
  refine (refuse_any HP10.out).mono ?_
  rintro r w9 ⟨rfl, hp9, hk9⟩
  have HP9 : Hid (PS b c cap len s d (σ.fail s 2) w9) := hp9
  have HK9 : Hid (Kept b w w9) := HK10.out.trans hk9
  clear hp9 hk9
  go_wp2_with fail
  go_ret
  exact ⟨_, rfl, by rw [HV.out]; exact HP9.out, HK9.out, Or.inl rfl, fun hl => by rw [HV.out] at hl; exact (Sp.live_fail hl).elim⟩

end Go.Proofs.YtgnncnhkgmhngaaGreatDoor

namespace Go.Proofs.YtgnncnhkgmhngaaGreatDoor
open Go.RowKit

theorem atom_step {b c cap len : Nat} {s : Sp.Bs} {n : Nat} (hsl : s.length ≤ 100000) (IH : Hid (∀ m, m ≤ n → All b c cap len s m)) : Sd b c cap len s (n + 1) .atom IsIf 337 := by
  intro d σ w hd hm hp
  have hm' : 32 * Sp.rem s σ + 2 ≤ n + 1 := hm
  cases h_num : σ.isCl s .num
  case true => exact atom_num IH hd hm' hp h_num hsl
  cases h_txt : σ.isCl s .txt
  case true => exact atom_txt IH hd hm' hp h_num h_txt hsl
  cases h_tru : σ.is s [116, 114, 117, 101]
  case true => exact atom_tru IH hd hm' hp h_num h_txt h_tru
  cases h_fls : σ.is s [102, 97, 108, 115, 101]
  case true => exact atom_fls IH hd hm' hp h_num h_txt h_tru h_fls
  cases h_nul : σ.is s [110, 117, 108, 108]
  case true => exact atom_nul IH hd hm' hp h_num h_txt h_tru h_fls h_nul
  cases h_nam : σ.isCl s .name
  case true => exact atom_nam IH hd hm' hp h_num h_txt h_tru h_fls h_nul h_nam
  cases h_opn : σ.is s [40]
  case true =>
    cases h_ask : σ.asks s
    · exact atom_par IH hd hm' hp h_num h_txt h_tru h_fls h_nul h_nam h_opn h_ask (is_other h_opn (by decide))
    · exact atom_qry IH hd hm' hp h_num h_txt h_tru h_fls h_nul h_nam h_opn h_ask
  cases h_exi : σ.is s [101, 120, 105, 115, 116, 115]
  case true => exact atom_exi IH hd hm' hp h_num h_txt h_tru h_fls h_nul h_nam h_opn h_exi
  cases h_coa : σ.is s [99, 111, 97, 108, 101, 115, 99, 101]
  case true => exact atom_coa IH hd hm' hp h_num h_txt h_tru h_fls h_nul h_nam h_opn h_exi h_coa
  cases h_cas : σ.is s [99, 97, 115, 101]
  case true => exact atom_cas IH hd hm' hp h_num h_txt h_tru h_fls h_nul h_nam h_opn h_exi h_coa h_cas
  exact atom_non IH hd hm' hp h_num h_txt h_tru h_fls h_nul h_nam h_opn h_exi h_coa h_cas

end Go.Proofs.YtgnncnhkgmhngaaGreatDoor
