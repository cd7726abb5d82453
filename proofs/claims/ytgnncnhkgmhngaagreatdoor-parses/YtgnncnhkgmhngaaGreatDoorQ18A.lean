import Derived.Test.YtgnncnhkgmhngaaGreatDoorQ24
import Derived.Test.YtgnncnhkgmhngaaGreatDoorQ16
namespace Go.Proofs.YtgnncnhkgmhngaaGreatDoor
open Go.RowKit
attribute [local go_sem ↓] Go.wp_at_zero Go.wp_at_succ

theorem kind_name {c : Nat} {s : Sp.Bs} {len i : Nat} {σ : Sp.St} {w : World} {wd : ByteArray} (tk : TK s len) (hi : IX s len i σ) (_tc : TC c s w i wd) : (kn (Sp.tokCl s (pos s i)) == 3) = σ.isCl s .name := by
  cases σ with
  | live e =>
    rw [hi.2]
    show _ = (Sp.tokCl s e == .name)
    cases Sp.tokCl s e <;> rfl
  | dead x a =>
    rcases tk.last i hi.1 with h | h <;> rw [h] <;> rfl

/-- An operation of a list of operands. -/
theorem Rp.opL {W : World} {x : Sp.Nd} {lo l1 h1 bb hi : Nat} {v : Value} {wd : Sp.Bs} {a : Nat} (r1 : Rp W x l1 h1 v) (hI : SIn l1 h1 v) (e0 : lo ≤ l1) (e2 : h1 ≤ bb) (e4 : bb < hi) (kb : At W bb [.string (bz wd), .int .i64 (a : Int), v]) :
    Rp W (.op wd a x) lo hi (.iface 363 (.pointer (some ⟨bb, 0, none⟩))) := by
  have l1 := Rp.le _ _ _ _ r1
  exact ⟨bb, _, _, _, rfl, by omega, e4, by unfold Sub; omega, kb, hI.wide e0 (by omega), r1⟩

theorem sees1q {b c cap len : Nat} {s : Sp.Bs} {d : Nat} {σ : Sp.St} {w : World} (h : PS b c cap len s d σ w) (z : Sp.Bs) (hf : z ∈ fixd) (q : Nat) (hq : q = w.heap.size) :
    Calls Tryz.prog 122 #[.pointer (some ⟨b, 0, none⟩), .slice (some ⟨q, 0, none⟩) 1 1] (w.alloc (.cells #[.string ⟨z.toArray⟩] 9)) fun r w' => r = .returned (.bool (σ.is s z)) ∧ PS b c cap len s d σ w' ∧ Kept b w w' := by
  subst hq; exact sees1 h z hf

theorem is_other {s : Sp.Bs} {z y : Sp.Bs} {σ : Sp.St} (h : σ.is s z = true) (hn : (z == y) = false) : σ.is s y = false := by
  cases σ with
  | dead x a => rfl
  | live e =>
    simp only [Sp.St.is, Bool.and_eq_true, beq_iff_eq] at h
    simp only [Sp.St.is, h.2, hn, Bool.and_false]

theorem word_le {s : Sp.Bs} (e : Nat) (hl : s.length ≤ 100000) : (Sp.tokWord s e).length ≤ 100000 := by
  unfold Sp.tokWord
  rw [List.length_take, List.length_drop]
  omega

theorem num_bz {s : Sp.Bs} {σ : Sp.St} (h : σ.isCl s .num = true) (hsl : s.length ≤ 100000) : ∀ wd : ByteArray, wd = bz (σ.word s) → wd.data.toList = σ.word s ∧ wd.data.toList ≠ [] ∧ wd.data.toList.all Sp.isDg = true ∧ Sp.numVal wd.data.toList < 9223372036854775808 ∧ wd.size ≤ 100000 := by
  intro wd hw
  subst hw
  cases σ with
  | dead x a => cases h
  | live e =>
    have hc : Sp.tokCl s e = .num := by simpa [Sp.St.isCl] using h
    obtain ⟨a, b, c⟩ := num_word hc
    have e1 : (bz (Sp.St.word s (.live e))).data.toList = Sp.tokWord s e := by simp [bz, Sp.St.word]
    refine ⟨e1, ?_, ?_, ?_, ?_⟩
    · rw [e1]; exact a
    · rw [e1]; exact b
    · rw [e1]; exact c
    · rw [← size_data, e1]; exact word_le e hsl

theorem txt_bz {s : Sp.Bs} {σ : Sp.St} (h : σ.isCl s .txt = true) (hsl : s.length ≤ 100000) : ∀ wd : ByteArray, wd = bz (σ.word s) → wd.data.toList = σ.word s ∧ 2 ≤ wd.size ∧ wd.size ≤ 100000 := by
  intro wd hw
  subst hw
  cases σ with
  | dead x a => cases h
  | live e =>
    have hc : Sp.tokCl s e = .txt := by simpa [Sp.St.isCl] using h
    have a := txt_word hc
    have e1 : (bz (Sp.St.word s (.live e))).data.toList = Sp.tokWord s e := by simp [bz, Sp.St.word]
    refine ⟨e1, ?_, ?_⟩
    · rw [← size_data, e1]; exact a
    · rw [← size_data, e1]; exact word_le e hsl

set_option maxHeartbeats 4000000 in
theorem atom_num {b c cap len : Nat} {s : Sp.Bs} {n d : Nat} {σ : Sp.St} {w : World} (_IH : Hid (∀ m, m ≤ n → All b c cap len s m)) (_hd : d + (n + 1) ≤ 1000000) (_hm : 32 * Sp.rem s σ + 2 ≤ n + 1) (hp : PS b c cap len s d σ w) (h_num : σ.isCl s .num = true) (hsl : s.length ≤ 100000) :
    Calls Tryz.prog 337 #[.pointer (some ⟨b, 0, none⟩)] w (PostV b c cap len s d (Sp.run s (n + 1) .atom d σ) w IsIf fun w' v => Rp w' (Sp.tr s (n + 1) .atom d .nil σ) w.heap.size w'.heap.size v) := by
  have hbw := hp.lb
  have hcw := hp.lc
  have HV : Hid (Sp.run s (n + 1) .atom d σ = σ.step s) := by show _ = _; rw [Sp.run]; simp [h_num]
  have HVT : Hid (Sp.tr s (n + 1) .atom d .nil σ = Sp.Nd.const (Sv.int (Sp.numVal (σ.word s) : Nat))) := by show _ = _; rw [Sp.tr]; simp [h_num]
  have HNW : Hid (∀ wd : ByteArray, wd = bz (σ.word s) → wd.data.toList = σ.word s ∧ wd.data.toList ≠ [] ∧ wd.data.toList.all Sp.isDg = true ∧ Sp.numVal wd.data.toList < 9223372036854775808 ∧ wd.size ≤ 100000) := num_bz h_num hsl
  obtain ⟨i, wd, hi, tc, PK⟩ := peek_any hp
  have hk3 := kind_name hp.tk hi tc
  have HTK : Hid (σ.isLive = true → Sp.tokAt s (pos s i) = σ.at_ s ∧ ((∀ e, σ = .live e → Sp.tokCl s e ≠ .bad) → wd = bz (σ.word s))) := fun hl => tok_live hi tc hl
  have HPA : Hid (PS b c cap len s d σ w) := hp
  have HPK : Hid (∀ w', w' = w → Calls Tryz.prog 75 #[.pointer (some ⟨b, 0, none⟩)] w' fun r w'' => r = .returned (.agg #[.int .i64 (kn (Sp.tokCl s (pos s i))), .int .i64 (Sp.tokAt s (pos s i) : Nat), .string wd]) ∧ Below w.heap.size w w'') := fun w' e => by subst e; exact PK
  clear hp hi tc PK
  generalize kn (Sp.tokCl s (pos s i)) = kk at *
  generalize Sp.tokAt s (pos s i) = aa at *
  have HT : Hid (aa = σ.at_ s ∧ wd = bz (σ.word s)) := ⟨(HTK.out (Sp.live_isCl h_num)).1, (HTK.out (Sp.live_isCl h_num)).2 (not_bad h_num (by decide))⟩
  have hmf : ∀ (fn : Fn) (first cap : Array Value) (w : World), (Instr.makeFunc fn first cap).run Tryz.prog w = .ok (.func fn first cap) w := fun _ _ _ _ => rfl
  go_enter Tryz.func337, Tryz.ntmps337
  go_wp2_with fail
  refine (HPK.out _ rfl).mono ?_
  rintro r w0 ⟨rfl, hb0⟩
  have hz0 := hb0.size
  have HP0 : Hid (PS b c cap len s d σ (w0.alloc (.cells #[.int .i64 kk, .int .i64 (aa : Int), .string wd] 155))) := (HPA.out.below hb0).alloc _
  have HK0 : Hid (Kept b w (w0.alloc (.cells #[.int .i64 kk, .int .i64 (aa : Int), .string wd] 155))) := (Kept.below hb0).alloc _
  have HX0 : Hid (Bk (w0.alloc (.cells #[.int .i64 kk, .int .i64 (aa : Int), .string wd] 155)) w0.heap.size [.int .i64 kk, .int .i64 (aa : Int), .string wd]) := Bk.new _ _ _
  clear hb0 HPK HPA
  go_wp2_with fail
  refine (acceptKind_any HP0.out .num (by decide) (by decide) _ rfl).mono ?_
  rintro r w1 ⟨rfl, hp, hk⟩
  rw [h_num] at hp
  rw [h_num]
  have HP1 : Hid (PS b c cap len s d (σ.step s) w1) := hp
  have HK1 : Hid (Kept b w w1) := HK0.out.trans hk
  have HX1 : Hid (Bk w1 w0.heap.size [.int .i64 kk, .int .i64 (aa : Int), .string wd]) := HX0.out.kept hk (by omega)
  clear hp hk HP0 HK0 HX0
  have hx := HX1.out.lt
  have x0 := HX1.out.c 0 (by simp)
  have x1 := HX1.out.c 1 (by simp)
  have x2 := HX1.out.c 2 (by simp)
  simp only [List.getElem_cons_zero, List.getElem_cons_succ] at x0 x1 x2
  obtain ⟨n1, n2, n3, n4, n5⟩ := HNW.out wd HT.out.2
  have HN1 : Hid (wd.data.toList = σ.word s) := n1
  clear n1
  go_wp2_with fail
  refine (numberOf_any _ _ n2 n3 n5 n4).mono ?_
  rintro e w2 ⟨rfl, hb⟩
  have HPc : Hid (PS b c cap len s d (σ.step s) w2) := HP1.out.below hb
  have HKc : Hid (Kept b w w2) := HK1.out.trans (Kept.below hb)
  clear hb
  go_wp2_with fail
  go_ret
  refine ⟨_, rfl, by rw [HV.out]; exact HPc.out.alloc _, HKc.out.alloc _, Or.inr ⟨_, _, rfl⟩, fun _ => ?_⟩
  rw [HVT.out, ← HN1.out]
  exact constRp (Bk.new w2 _ _).at_ HKc.out.size (by simp)

set_option maxHeartbeats 4000000 in
theorem atom_txt {b c cap len : Nat} {s : Sp.Bs} {n d : Nat} {σ : Sp.St} {w : World} (_IH : Hid (∀ m, m ≤ n → All b c cap len s m)) (_hd : d + (n + 1) ≤ 1000000) (_hm : 32 * Sp.rem s σ + 2 ≤ n + 1) (hp : PS b c cap len s d σ w) (h_num : σ.isCl s .num = false) (h_txt : σ.isCl s .txt = true) (hsl : s.length ≤ 100000) :
    Calls Tryz.prog 337 #[.pointer (some ⟨b, 0, none⟩)] w (PostV b c cap len s d (Sp.run s (n + 1) .atom d σ) w IsIf fun w' v => Rp w' (Sp.tr s (n + 1) .atom d .nil σ) w.heap.size w'.heap.size v) := by
  have hbw := hp.lb
  have hcw := hp.lc
  have HV : Hid (Sp.run s (n + 1) .atom d σ = σ.step s) := by show _ = _; rw [Sp.run]; simp [h_num, h_txt]
  have HVT : Hid (Sp.tr s (n + 1) .atom d .nil σ = Sp.Nd.const (Sv.text ⟨(Sp.txtVal (σ.word s)).toArray⟩)) := by show _ = _; rw [Sp.tr]; simp [h_num, h_txt]
  have HNW : Hid (∀ wd : ByteArray, wd = bz (σ.word s) → wd.data.toList = σ.word s ∧ 2 ≤ wd.size ∧ wd.size ≤ 100000) := txt_bz h_txt hsl
  obtain ⟨i, wd, hi, tc, PK⟩ := peek_any hp
  have hk3 := kind_name hp.tk hi tc
  have HTK : Hid (σ.isLive = true → Sp.tokAt s (pos s i) = σ.at_ s ∧ ((∀ e, σ = .live e → Sp.tokCl s e ≠ .bad) → wd = bz (σ.word s))) := fun hl => tok_live hi tc hl
  have HPA : Hid (PS b c cap len s d σ w) := hp
  have HPK : Hid (∀ w', w' = w → Calls Tryz.prog 75 #[.pointer (some ⟨b, 0, none⟩)] w' fun r w'' => r = .returned (.agg #[.int .i64 (kn (Sp.tokCl s (pos s i))), .int .i64 (Sp.tokAt s (pos s i) : Nat), .string wd]) ∧ Below w.heap.size w w'') := fun w' e => by subst e; exact PK
  clear hp hi tc PK
  generalize kn (Sp.tokCl s (pos s i)) = kk at *
  generalize Sp.tokAt s (pos s i) = aa at *
  have HT : Hid (aa = σ.at_ s ∧ wd = bz (σ.word s)) := ⟨(HTK.out (Sp.live_isCl h_txt)).1, (HTK.out (Sp.live_isCl h_txt)).2 (not_bad h_txt (by decide))⟩
  have hmf : ∀ (fn : Fn) (first cap : Array Value) (w : World), (Instr.makeFunc fn first cap).run Tryz.prog w = .ok (.func fn first cap) w := fun _ _ _ _ => rfl
  go_enter Tryz.func337, Tryz.ntmps337
  go_wp2_with fail
  refine (HPK.out _ rfl).mono ?_
  rintro r w0 ⟨rfl, hb0⟩
  have hz0 := hb0.size
  have HP0 : Hid (PS b c cap len s d σ (w0.alloc (.cells #[.int .i64 kk, .int .i64 (aa : Int), .string wd] 155))) := (HPA.out.below hb0).alloc _
  have HK0 : Hid (Kept b w (w0.alloc (.cells #[.int .i64 kk, .int .i64 (aa : Int), .string wd] 155))) := (Kept.below hb0).alloc _
  have HX0 : Hid (Bk (w0.alloc (.cells #[.int .i64 kk, .int .i64 (aa : Int), .string wd] 155)) w0.heap.size [.int .i64 kk, .int .i64 (aa : Int), .string wd]) := Bk.new _ _ _
  clear hb0 HPK HPA
  go_wp2_with fail
  refine (acceptKind_any HP0.out .num (by decide) (by decide) _ rfl).mono ?_
  rintro r w1 ⟨rfl, hp, hk⟩
  rw [h_num] at hp
  rw [h_num]
  have HP1 : Hid (PS b c cap len s d σ w1) := hp
  have HK1 : Hid (Kept b w w1) := HK0.out.trans hk
  have HX1 : Hid (Bk w1 w0.heap.size [.int .i64 kk, .int .i64 (aa : Int), .string wd]) := HX0.out.kept hk (by omega)
  clear hp hk HP0 HK0 HX0
  go_wp2_with fail
  refine (acceptKind_any HP1.out .txt (by decide) (by decide) _ rfl).mono ?_
  rintro r w2 ⟨rfl, hp, hk⟩
  rw [h_txt] at hp
  rw [h_txt]
  have HP2 : Hid (PS b c cap len s d (σ.step s) w2) := hp
  have HK2 : Hid (Kept b w w2) := HK1.out.trans hk
  have HX2 : Hid (Bk w2 w0.heap.size [.int .i64 kk, .int .i64 (aa : Int), .string wd]) := HX1.out.kept hk (by omega)
  clear hp hk HP1 HK1 HX1
  have hx := HX2.out.lt
  have x0 := HX2.out.c 0 (by simp)
  have x1 := HX2.out.c 1 (by simp)
  have x2 := HX2.out.c 2 (by simp)
  simp only [List.getElem_cons_zero, List.getElem_cons_succ] at x0 x1 x2
  obtain ⟨n1, n2, n3⟩ := HNW.out wd HT.out.2
  have HN1 : Hid (wd.data.toList = σ.word s) := n1
  clear n1
  go_wp2_with fail
  refine (textOf_any _ _ n2 n3 HP2.out.vmv).mono ?_
  rintro e w3 ⟨rfl, hb⟩
  have HPc : Hid (PS b c cap len s d (σ.step s) w3) := HP2.out.below hb
  have HKc : Hid (Kept b w w3) := HK2.out.trans (Kept.below hb)
  clear hb
  go_wp2_with fail
  go_ret
  refine ⟨_, rfl, by rw [HV.out]; exact HPc.out.alloc _, HKc.out.alloc _, Or.inr ⟨_, _, rfl⟩, fun _ => ?_⟩
  rw [HVT.out, ← HN1.out]
  exact constRp (Bk.new w3 _ _).at_ HKc.out.size (by simp)

set_option maxHeartbeats 4000000 in
theorem atom_tru {b c cap len : Nat} {s : Sp.Bs} {n d : Nat} {σ : Sp.St} {w : World} (_IH : Hid (∀ m, m ≤ n → All b c cap len s m)) (_hd : d + (n + 1) ≤ 1000000) (_hm : 32 * Sp.rem s σ + 2 ≤ n + 1) (hp : PS b c cap len s d σ w) (h_num : σ.isCl s .num = false) (h_txt : σ.isCl s .txt = false) (h_tru : σ.is s [116, 114, 117, 101] = true) :
    Calls Tryz.prog 337 #[.pointer (some ⟨b, 0, none⟩)] w (PostV b c cap len s d (Sp.run s (n + 1) .atom d σ) w IsIf fun w' v => Rp w' (Sp.tr s (n + 1) .atom d .nil σ) w.heap.size w'.heap.size v) := by
  have hbw := hp.lb
  have hcw := hp.lc
  have HV : Hid (Sp.run s (n + 1) .atom d σ = σ.step s) := by show _ = _; rw [Sp.run]; simp [h_num, h_txt, h_tru]
  have HVT : Hid (Sp.tr s (n + 1) .atom d .nil σ = Sp.Nd.const (Sv.bool true)) := by show _ = _; rw [Sp.tr]; simp [h_num, h_txt, h_tru]
  obtain ⟨i, wd, hi, tc, PK⟩ := peek_any hp
  have hk3 := kind_name hp.tk hi tc
  have HTK : Hid (σ.isLive = true → Sp.tokAt s (pos s i) = σ.at_ s ∧ ((∀ e, σ = .live e → Sp.tokCl s e ≠ .bad) → wd = bz (σ.word s))) := fun hl => tok_live hi tc hl
  have HPA : Hid (PS b c cap len s d σ w) := hp
  have HPK : Hid (∀ w', w' = w → Calls Tryz.prog 75 #[.pointer (some ⟨b, 0, none⟩)] w' fun r w'' => r = .returned (.agg #[.int .i64 (kn (Sp.tokCl s (pos s i))), .int .i64 (Sp.tokAt s (pos s i) : Nat), .string wd]) ∧ Below w.heap.size w w'') := fun w' e => by subst e; exact PK
  clear hp hi tc PK
  generalize kn (Sp.tokCl s (pos s i)) = kk at *
  generalize Sp.tokAt s (pos s i) = aa at *
  have hmf : ∀ (fn : Fn) (first cap : Array Value) (w : World), (Instr.makeFunc fn first cap).run Tryz.prog w = .ok (.func fn first cap) w := fun _ _ _ _ => rfl
  go_enter Tryz.func337, Tryz.ntmps337
  go_wp2_with fail
  refine (HPK.out _ rfl).mono ?_
  rintro r w0 ⟨rfl, hb0⟩
  have hz0 := hb0.size
  have HP0 : Hid (PS b c cap len s d σ (w0.alloc (.cells #[.int .i64 kk, .int .i64 (aa : Int), .string wd] 155))) := (HPA.out.below hb0).alloc _
  have HK0 : Hid (Kept b w (w0.alloc (.cells #[.int .i64 kk, .int .i64 (aa : Int), .string wd] 155))) := (Kept.below hb0).alloc _
  have HX0 : Hid (Bk (w0.alloc (.cells #[.int .i64 kk, .int .i64 (aa : Int), .string wd] 155)) w0.heap.size [.int .i64 kk, .int .i64 (aa : Int), .string wd]) := Bk.new _ _ _
  clear hb0 HPK HPA
  go_wp2_with fail
  refine (acceptKind_any HP0.out .num (by decide) (by decide) _ rfl).mono ?_
  rintro r w1 ⟨rfl, hp, hk⟩
  rw [h_num] at hp
  rw [h_num]
  have HP1 : Hid (PS b c cap len s d σ w1) := hp
  have HK1 : Hid (Kept b w w1) := HK0.out.trans hk
  have HX1 : Hid (Bk w1 w0.heap.size [.int .i64 kk, .int .i64 (aa : Int), .string wd]) := HX0.out.kept hk (by omega)
  clear hp hk HP0 HK0 HX0
  go_wp2_with fail
  refine (acceptKind_any HP1.out .txt (by decide) (by decide) _ rfl).mono ?_
  rintro r w2 ⟨rfl, hp, hk⟩
  rw [h_txt] at hp
  rw [h_txt]
  have HP2 : Hid (PS b c cap len s d σ w2) := hp
  have HK2 : Hid (Kept b w w2) := HK1.out.trans hk
  have HX2 : Hid (Bk w2 w0.heap.size [.int .i64 kk, .int .i64 (aa : Int), .string wd]) := HX1.out.kept hk (by omega)
  clear hp hk HP1 HK1 HX1
  go_wp2_with fail
  refine (accept1q HP2.out [116, 114, 117, 101] (by decide) _ (by simp)).mono ?_
  rintro r w3 ⟨rfl, hp, hk⟩
  rw [take_yes h_tru] at hp
  rw [h_tru]
  have HP3 : Hid (PS b c cap len s d (σ.step s) w3) := hp
  have HK3 : Hid (Kept b w w3) := HK2.out.trans hk
  have HX3 : Hid (Bk w3 w0.heap.size [.int .i64 kk, .int .i64 (aa : Int), .string wd]) := HX2.out.kept hk (by omega)
  clear hp hk HP2 HK2 HX2
  go_wp2_with fail
  refine (vbool_b true _).mono ?_
  rintro e w4 ⟨rfl, hb⟩
  have HPc : Hid (PS b c cap len s d (σ.step s) w4) := HP3.out.below hb
  have HKc : Hid (Kept b w w4) := HK3.out.trans (Kept.below hb)
  clear hb
  go_wp2_with fail
  go_ret
  refine ⟨_, rfl, by rw [HV.out]; exact HPc.out.alloc _, HKc.out.alloc _, Or.inr ⟨_, _, rfl⟩, fun _ => ?_⟩
  rw [HVT.out]
  exact constRp (Bk.new w4 _ _).at_ HKc.out.size (by simp)

set_option maxHeartbeats 4000000 in
theorem atom_fls {b c cap len : Nat} {s : Sp.Bs} {n d : Nat} {σ : Sp.St} {w : World} (_IH : Hid (∀ m, m ≤ n → All b c cap len s m)) (_hd : d + (n + 1) ≤ 1000000) (_hm : 32 * Sp.rem s σ + 2 ≤ n + 1) (hp : PS b c cap len s d σ w) (h_num : σ.isCl s .num = false) (h_txt : σ.isCl s .txt = false) (h_tru : σ.is s [116, 114, 117, 101] = false) (h_fls : σ.is s [102, 97, 108, 115, 101] = true) :
    Calls Tryz.prog 337 #[.pointer (some ⟨b, 0, none⟩)] w (PostV b c cap len s d (Sp.run s (n + 1) .atom d σ) w IsIf fun w' v => Rp w' (Sp.tr s (n + 1) .atom d .nil σ) w.heap.size w'.heap.size v) := by
  have hbw := hp.lb
  have hcw := hp.lc
  have HV : Hid (Sp.run s (n + 1) .atom d σ = σ.step s) := by show _ = _; rw [Sp.run]; simp [h_num, h_txt, h_tru, h_fls]
  have HVT : Hid (Sp.tr s (n + 1) .atom d .nil σ = Sp.Nd.const (Sv.bool false)) := by show _ = _; rw [Sp.tr]; simp [h_num, h_txt, h_tru, h_fls]
  obtain ⟨i, wd, hi, tc, PK⟩ := peek_any hp
  have hk3 := kind_name hp.tk hi tc
  have HTK : Hid (σ.isLive = true → Sp.tokAt s (pos s i) = σ.at_ s ∧ ((∀ e, σ = .live e → Sp.tokCl s e ≠ .bad) → wd = bz (σ.word s))) := fun hl => tok_live hi tc hl
  have HPA : Hid (PS b c cap len s d σ w) := hp
  have HPK : Hid (∀ w', w' = w → Calls Tryz.prog 75 #[.pointer (some ⟨b, 0, none⟩)] w' fun r w'' => r = .returned (.agg #[.int .i64 (kn (Sp.tokCl s (pos s i))), .int .i64 (Sp.tokAt s (pos s i) : Nat), .string wd]) ∧ Below w.heap.size w w'') := fun w' e => by subst e; exact PK
  clear hp hi tc PK
  generalize kn (Sp.tokCl s (pos s i)) = kk at *
  generalize Sp.tokAt s (pos s i) = aa at *
  have hmf : ∀ (fn : Fn) (first cap : Array Value) (w : World), (Instr.makeFunc fn first cap).run Tryz.prog w = .ok (.func fn first cap) w := fun _ _ _ _ => rfl
  go_enter Tryz.func337, Tryz.ntmps337
  go_wp2_with fail
  refine (HPK.out _ rfl).mono ?_
  rintro r w0 ⟨rfl, hb0⟩
  have hz0 := hb0.size
  have HP0 : Hid (PS b c cap len s d σ (w0.alloc (.cells #[.int .i64 kk, .int .i64 (aa : Int), .string wd] 155))) := (HPA.out.below hb0).alloc _
  have HK0 : Hid (Kept b w (w0.alloc (.cells #[.int .i64 kk, .int .i64 (aa : Int), .string wd] 155))) := (Kept.below hb0).alloc _
  have HX0 : Hid (Bk (w0.alloc (.cells #[.int .i64 kk, .int .i64 (aa : Int), .string wd] 155)) w0.heap.size [.int .i64 kk, .int .i64 (aa : Int), .string wd]) := Bk.new _ _ _
  clear hb0 HPK HPA
  go_wp2_with fail
  refine (acceptKind_any HP0.out .num (by decide) (by decide) _ rfl).mono ?_
  rintro r w1 ⟨rfl, hp, hk⟩
  rw [h_num] at hp
  rw [h_num]
  have HP1 : Hid (PS b c cap len s d σ w1) := hp
  have HK1 : Hid (Kept b w w1) := HK0.out.trans hk
  have HX1 : Hid (Bk w1 w0.heap.size [.int .i64 kk, .int .i64 (aa : Int), .string wd]) := HX0.out.kept hk (by omega)
  clear hp hk HP0 HK0 HX0
  go_wp2_with fail
  refine (acceptKind_any HP1.out .txt (by decide) (by decide) _ rfl).mono ?_
  rintro r w2 ⟨rfl, hp, hk⟩
  rw [h_txt] at hp
  rw [h_txt]
  have HP2 : Hid (PS b c cap len s d σ w2) := hp
  have HK2 : Hid (Kept b w w2) := HK1.out.trans hk
  have HX2 : Hid (Bk w2 w0.heap.size [.int .i64 kk, .int .i64 (aa : Int), .string wd]) := HX1.out.kept hk (by omega)
  clear hp hk HP1 HK1 HX1
  go_wp2_with fail
  refine (accept1q HP2.out [116, 114, 117, 101] (by decide) _ (by simp)).mono ?_
  rintro r w3 ⟨rfl, hp, hk⟩
  rw [take_no h_tru] at hp
  rw [h_tru]
  have HP3 : Hid (PS b c cap len s d σ w3) := hp
  have HK3 : Hid (Kept b w w3) := HK2.out.trans hk
  have HX3 : Hid (Bk w3 w0.heap.size [.int .i64 kk, .int .i64 (aa : Int), .string wd]) := HX2.out.kept hk (by omega)
  clear hp hk HP2 HK2 HX2
  go_wp2_with fail
  refine (accept1q HP3.out [102, 97, 108, 115, 101] (by decide) _ (by simp)).mono ?_
  rintro r w4 ⟨rfl, hp, hk⟩
  rw [take_yes h_fls] at hp
  rw [h_fls]
  have HP4 : Hid (PS b c cap len s d (σ.step s) w4) := hp
  have HK4 : Hid (Kept b w w4) := HK3.out.trans hk
  have HX4 : Hid (Bk w4 w0.heap.size [.int .i64 kk, .int .i64 (aa : Int), .string wd]) := HX3.out.kept hk (by omega)
  clear hp hk HP3 HK3 HX3
  go_wp2_with fail
  refine (vbool_b false _).mono ?_
  rintro e w5 ⟨rfl, hb⟩
  have HPc : Hid (PS b c cap len s d (σ.step s) w5) := HP4.out.below hb
  have HKc : Hid (Kept b w w5) := HK4.out.trans (Kept.below hb)
  clear hb
  go_wp2_with fail
  go_ret
  refine ⟨_, rfl, by rw [HV.out]; exact HPc.out.alloc _, HKc.out.alloc _, Or.inr ⟨_, _, rfl⟩, fun _ => ?_⟩
  rw [HVT.out]
  exact constRp (Bk.new w5 _ _).at_ HKc.out.size (by simp)

set_option maxHeartbeats 4000000 in
theorem atom_nul {b c cap len : Nat} {s : Sp.Bs} {n d : Nat} {σ : Sp.St} {w : World} (_IH : Hid (∀ m, m ≤ n → All b c cap len s m)) (_hd : d + (n + 1) ≤ 1000000) (_hm : 32 * Sp.rem s σ + 2 ≤ n + 1) (hp : PS b c cap len s d σ w) (h_num : σ.isCl s .num = false) (h_txt : σ.isCl s .txt = false) (h_tru : σ.is s [116, 114, 117, 101] = false) (h_fls : σ.is s [102, 97, 108, 115, 101] = false) (h_nul : σ.is s [110, 117, 108, 108] = true) :
    Calls Tryz.prog 337 #[.pointer (some ⟨b, 0, none⟩)] w (PostV b c cap len s d (Sp.run s (n + 1) .atom d σ) w IsIf fun w' v => Rp w' (Sp.tr s (n + 1) .atom d .nil σ) w.heap.size w'.heap.size v) := by
  have hbw := hp.lb
  have hcw := hp.lc
  have HV : Hid (Sp.run s (n + 1) .atom d σ = σ.step s) := by show _ = _; rw [Sp.run]; simp [h_num, h_txt, h_tru, h_fls, h_nul]
  have HVT : Hid (Sp.tr s (n + 1) .atom d .nil σ = Sp.Nd.const (Sv.null)) := by show _ = _; rw [Sp.tr]; simp [h_num, h_txt, h_tru, h_fls, h_nul]
  obtain ⟨i, wd, hi, tc, PK⟩ := peek_any hp
  have hk3 := kind_name hp.tk hi tc
  have HTK : Hid (σ.isLive = true → Sp.tokAt s (pos s i) = σ.at_ s ∧ ((∀ e, σ = .live e → Sp.tokCl s e ≠ .bad) → wd = bz (σ.word s))) := fun hl => tok_live hi tc hl
  have HPA : Hid (PS b c cap len s d σ w) := hp
  have HPK : Hid (∀ w', w' = w → Calls Tryz.prog 75 #[.pointer (some ⟨b, 0, none⟩)] w' fun r w'' => r = .returned (.agg #[.int .i64 (kn (Sp.tokCl s (pos s i))), .int .i64 (Sp.tokAt s (pos s i) : Nat), .string wd]) ∧ Below w.heap.size w w'') := fun w' e => by subst e; exact PK
  clear hp hi tc PK
  generalize kn (Sp.tokCl s (pos s i)) = kk at *
  generalize Sp.tokAt s (pos s i) = aa at *
  have hmf : ∀ (fn : Fn) (first cap : Array Value) (w : World), (Instr.makeFunc fn first cap).run Tryz.prog w = .ok (.func fn first cap) w := fun _ _ _ _ => rfl
  go_enter Tryz.func337, Tryz.ntmps337
  go_wp2_with fail
  refine (HPK.out _ rfl).mono ?_
  rintro r w0 ⟨rfl, hb0⟩
  have hz0 := hb0.size
  have HP0 : Hid (PS b c cap len s d σ (w0.alloc (.cells #[.int .i64 kk, .int .i64 (aa : Int), .string wd] 155))) := (HPA.out.below hb0).alloc _
  have HK0 : Hid (Kept b w (w0.alloc (.cells #[.int .i64 kk, .int .i64 (aa : Int), .string wd] 155))) := (Kept.below hb0).alloc _
  have HX0 : Hid (Bk (w0.alloc (.cells #[.int .i64 kk, .int .i64 (aa : Int), .string wd] 155)) w0.heap.size [.int .i64 kk, .int .i64 (aa : Int), .string wd]) := Bk.new _ _ _
  clear hb0 HPK HPA
  go_wp2_with fail
  refine (acceptKind_any HP0.out .num (by decide) (by decide) _ rfl).mono ?_
  rintro r w1 ⟨rfl, hp, hk⟩
  rw [h_num] at hp
  rw [h_num]
  have HP1 : Hid (PS b c cap len s d σ w1) := hp
  have HK1 : Hid (Kept b w w1) := HK0.out.trans hk
  have HX1 : Hid (Bk w1 w0.heap.size [.int .i64 kk, .int .i64 (aa : Int), .string wd]) := HX0.out.kept hk (by omega)
  clear hp hk HP0 HK0 HX0
  go_wp2_with fail
  refine (acceptKind_any HP1.out .txt (by decide) (by decide) _ rfl).mono ?_
  rintro r w2 ⟨rfl, hp, hk⟩
  rw [h_txt] at hp
  rw [h_txt]
  have HP2 : Hid (PS b c cap len s d σ w2) := hp
  have HK2 : Hid (Kept b w w2) := HK1.out.trans hk
  have HX2 : Hid (Bk w2 w0.heap.size [.int .i64 kk, .int .i64 (aa : Int), .string wd]) := HX1.out.kept hk (by omega)
  clear hp hk HP1 HK1 HX1
  go_wp2_with fail
  refine (accept1q HP2.out [116, 114, 117, 101] (by decide) _ (by simp)).mono ?_
  rintro r w3 ⟨rfl, hp, hk⟩
  rw [take_no h_tru] at hp
  rw [h_tru]
  have HP3 : Hid (PS b c cap len s d σ w3) := hp
  have HK3 : Hid (Kept b w w3) := HK2.out.trans hk
  have HX3 : Hid (Bk w3 w0.heap.size [.int .i64 kk, .int .i64 (aa : Int), .string wd]) := HX2.out.kept hk (by omega)
  clear hp hk HP2 HK2 HX2
  go_wp2_with fail
  refine (accept1q HP3.out [102, 97, 108, 115, 101] (by decide) _ (by simp)).mono ?_
  rintro r w4 ⟨rfl, hp, hk⟩
  rw [take_no h_fls] at hp
  rw [h_fls]
  have HP4 : Hid (PS b c cap len s d σ w4) := hp
  have HK4 : Hid (Kept b w w4) := HK3.out.trans hk
  have HX4 : Hid (Bk w4 w0.heap.size [.int .i64 kk, .int .i64 (aa : Int), .string wd]) := HX3.out.kept hk (by omega)
  clear hp hk HP3 HK3 HX3
  go_wp2_with fail
  refine (accept1q HP4.out [110, 117, 108, 108] (by decide) _ (by simp)).mono ?_
  rintro r w5 ⟨rfl, hp, hk⟩
  rw [take_yes h_nul] at hp
  rw [h_nul]
  have HP5 : Hid (PS b c cap len s d (σ.step s) w5) := hp
  have HK5 : Hid (Kept b w w5) := HK4.out.trans hk
  have HX5 : Hid (Bk w5 w0.heap.size [.int .i64 kk, .int .i64 (aa : Int), .string wd]) := HX4.out.kept hk (by omega)
  clear hp hk HP4 HK4 HX4
  go_wp2_with fail
  refine (vnull_b _).mono ?_
  rintro e w6 ⟨rfl, hb⟩
  have HPc : Hid (PS b c cap len s d (σ.step s) w6) := HP5.out.below hb
  have HKc : Hid (Kept b w w6) := HK5.out.trans (Kept.below hb)
  clear hb
  go_wp2_with fail
  go_ret
  refine ⟨_, rfl, by rw [HV.out]; exact HPc.out.alloc _, HKc.out.alloc _, Or.inr ⟨_, _, rfl⟩, fun _ => ?_⟩
  rw [HVT.out]
  exact constRp (Bk.new w6 _ _).at_ HKc.out.size (by simp)

set_option maxHeartbeats 4000000 in
theorem atom_nam {b c cap len : Nat} {s : Sp.Bs} {n d : Nat} {σ : Sp.St} {w : World} (_IH : Hid (∀ m, m ≤ n → All b c cap len s m)) (_hd : d + (n + 1) ≤ 1000000) (_hm : 32 * Sp.rem s σ + 2 ≤ n + 1) (hp : PS b c cap len s d σ w) (h_num : σ.isCl s .num = false) (h_txt : σ.isCl s .txt = false) (h_tru : σ.is s [116, 114, 117, 101] = false) (h_fls : σ.is s [102, 97, 108, 115, 101] = false) (h_nul : σ.is s [110, 117, 108, 108] = false) (h_nam : σ.isCl s .name = true) :
    Calls Tryz.prog 337 #[.pointer (some ⟨b, 0, none⟩)] w (PostV b c cap len s d (Sp.run s (n + 1) .atom d σ) w IsIf fun w' v => Rp w' (Sp.tr s (n + 1) .atom d .nil σ) w.heap.size w'.heap.size v) := by
  have hbw := hp.lb
  have hcw := hp.lc
  have HV : Hid (Sp.run s (n + 1) .atom d σ = colS s σ) := by show _ = _; rw [Sp.run]; simp [h_num, h_txt, h_tru, h_fls, h_nul, h_nam, colS]
  have HVT : Hid (Sp.tr s (n + 1) .atom d .nil σ = colN s σ) := by show _ = _; rw [Sp.tr]; simp [h_num, h_txt, h_tru, h_fls, h_nul, h_nam, colN]
  obtain ⟨i, wd, hi, tc, PK⟩ := peek_any hp
  have hk3 := kind_name hp.tk hi tc
  have HTK : Hid (σ.isLive = true → Sp.tokAt s (pos s i) = σ.at_ s ∧ ((∀ e, σ = .live e → Sp.tokCl s e ≠ .bad) → wd = bz (σ.word s))) := fun hl => tok_live hi tc hl
  have HPA : Hid (PS b c cap len s d σ w) := hp
  have HPK : Hid (∀ w', w' = w → Calls Tryz.prog 75 #[.pointer (some ⟨b, 0, none⟩)] w' fun r w'' => r = .returned (.agg #[.int .i64 (kn (Sp.tokCl s (pos s i))), .int .i64 (Sp.tokAt s (pos s i) : Nat), .string wd]) ∧ Below w.heap.size w w'') := fun w' e => by subst e; exact PK
  clear hp hi tc PK
  generalize kn (Sp.tokCl s (pos s i)) = kk at *
  generalize Sp.tokAt s (pos s i) = aa at *
  have hmf : ∀ (fn : Fn) (first cap : Array Value) (w : World), (Instr.makeFunc fn first cap).run Tryz.prog w = .ok (.func fn first cap) w := fun _ _ _ _ => rfl
  go_enter Tryz.func337, Tryz.ntmps337
  go_wp2_with fail
  refine (HPK.out _ rfl).mono ?_
  rintro r w0 ⟨rfl, hb0⟩
  have hz0 := hb0.size
  have HP0 : Hid (PS b c cap len s d σ (w0.alloc (.cells #[.int .i64 kk, .int .i64 (aa : Int), .string wd] 155))) := (HPA.out.below hb0).alloc _
  have HK0 : Hid (Kept b w (w0.alloc (.cells #[.int .i64 kk, .int .i64 (aa : Int), .string wd] 155))) := (Kept.below hb0).alloc _
  have HX0 : Hid (Bk (w0.alloc (.cells #[.int .i64 kk, .int .i64 (aa : Int), .string wd] 155)) w0.heap.size [.int .i64 kk, .int .i64 (aa : Int), .string wd]) := Bk.new _ _ _
  clear hb0 HPK HPA
  go_wp2_with fail
  refine (acceptKind_any HP0.out .num (by decide) (by decide) _ rfl).mono ?_
  rintro r w1 ⟨rfl, hp, hk⟩
  rw [h_num] at hp
  rw [h_num]
  have HP1 : Hid (PS b c cap len s d σ w1) := hp
  have HK1 : Hid (Kept b w w1) := HK0.out.trans hk
  have HX1 : Hid (Bk w1 w0.heap.size [.int .i64 kk, .int .i64 (aa : Int), .string wd]) := HX0.out.kept hk (by omega)
  clear hp hk HP0 HK0 HX0
  go_wp2_with fail
  refine (acceptKind_any HP1.out .txt (by decide) (by decide) _ rfl).mono ?_
  rintro r w2 ⟨rfl, hp, hk⟩
  rw [h_txt] at hp
  rw [h_txt]
  have HP2 : Hid (PS b c cap len s d σ w2) := hp
  have HK2 : Hid (Kept b w w2) := HK1.out.trans hk
  have HX2 : Hid (Bk w2 w0.heap.size [.int .i64 kk, .int .i64 (aa : Int), .string wd]) := HX1.out.kept hk (by omega)
  clear hp hk HP1 HK1 HX1
  go_wp2_with fail
  refine (accept1q HP2.out [116, 114, 117, 101] (by decide) _ (by simp)).mono ?_
  rintro r w3 ⟨rfl, hp, hk⟩
  rw [take_no h_tru] at hp
  rw [h_tru]
  have HP3 : Hid (PS b c cap len s d σ w3) := hp
  have HK3 : Hid (Kept b w w3) := HK2.out.trans hk
  have HX3 : Hid (Bk w3 w0.heap.size [.int .i64 kk, .int .i64 (aa : Int), .string wd]) := HX2.out.kept hk (by omega)
  clear hp hk HP2 HK2 HX2
  go_wp2_with fail
  refine (accept1q HP3.out [102, 97, 108, 115, 101] (by decide) _ (by simp)).mono ?_
  rintro r w4 ⟨rfl, hp, hk⟩
  rw [take_no h_fls] at hp
  rw [h_fls]
  have HP4 : Hid (PS b c cap len s d σ w4) := hp
  have HK4 : Hid (Kept b w w4) := HK3.out.trans hk
  have HX4 : Hid (Bk w4 w0.heap.size [.int .i64 kk, .int .i64 (aa : Int), .string wd]) := HX3.out.kept hk (by omega)
  clear hp hk HP3 HK3 HX3
  go_wp2_with fail
  refine (accept1q HP4.out [110, 117, 108, 108] (by decide) _ (by simp)).mono ?_
  rintro r w5 ⟨rfl, hp, hk⟩
  rw [take_no h_nul] at hp
  rw [h_nul]
  have HP5 : Hid (PS b c cap len s d σ w5) := hp
  have HK5 : Hid (Kept b w w5) := HK4.out.trans hk
  have HX5 : Hid (Bk w5 w0.heap.size [.int .i64 kk, .int .i64 (aa : Int), .string wd]) := HX4.out.kept hk (by omega)
  clear hp hk HP4 HK4 HX4
  have hx := HX5.out.lt
  have x0 := HX5.out.c 0 (by simp)
  have x1 := HX5.out.c 1 (by simp)
  have x2 := HX5.out.c 2 (by simp)
  simp only [List.getElem_cons_zero, List.getElem_cons_succ] at x0 x1 x2
  rw [h_nam] at hk3
  go_wp2_with fail
  refine (column_any HP5.out h_nam).mono ?_
  rintro r w9 ⟨v9, rfl, hp9, hk9, hi9, hr9⟩
  have HX : Hid (PS b c cap len s d (colS s σ) w9 ∧ Kept b w w9 ∧ IsIf v9 ∧ ((colS s σ).isLive = true → Rp w9 (colN s σ) w.heap.size w9.heap.size v9)) := ⟨hp9, HK5.out.trans hk9, hi9, fun hl => Rp.wide _ _ _ _ _ _ (hr9 hl) HK5.out.size (Nat.le_refl _)⟩
  clear hp9 hk9 hi9 hr9
  go_wp2_with fail
  go_ret
  exact ⟨_, rfl, by rw [HV.out]; exact HX.out.1, HX.out.2.1, HX.out.2.2.1, by rw [HV.out, HVT.out]; exact HX.out.2.2.2⟩

end Go.Proofs.YtgnncnhkgmhngaaGreatDoor
