import Derived.Test.YtgnncnhkgmhngaaGreatDoorA6
import Derived.Test.YtgnncnhkgmhngaaGreatDoorQ1
import Derived.Test.YtgnncnhkgmhngaaGreatDoorT3
import Derived.Test.YtgnncnhkgmhngaaGreatDoorP4
import Derived.Deep.LoopGhost
namespace Go.Proofs.YtgnncnhkgmhngaaGreatDoor
open Go.RowKit


theorem num_word {s : Sp.Bs} {e : Nat} (h : Sp.tokCl s e = .num) : Sp.tokWord s e ≠ [] ∧ (Sp.tokWord s e).all Sp.isDg = true ∧ Sp.numVal (Sp.tokWord s e) < 9223372036854775808 := by
  unfold Sp.tokCl at h
  unfold Sp.tokWord Sp.tokLen
  generalize s.drop (Sp.tokAt s e) = l at *
  cases l with
  | nil => simp [Sp.first] at h
  | cons c r =>
    cases h1 : Sp.isLo c
    · cases h2 : Sp.isDg c
      · cases h3 : (c == 39)
        · rw [first_sign h1 h2 h3] at h; split at h <;> cases h
        · rw [first_txt h1 h2 h3] at h; split at h <;> cases h
      · rw [first_num h1 h2] at h ⊢
        simp only at h ⊢
        split at h
        · rename_i hv
          refine ⟨?_, many_all _ _, hv⟩
          have : 1 ≤ Sp.many Sp.isDg (c :: r) := Sp.many_pos h2
          intro hc
          have := congrArg List.length hc
          rw [List.length_take] at this
          simp at this
          omega
        · cases h
    · rw [first_word h1] at h
      simp only at h
      split at h
      · cases h
      · split at h <;> cases h

set_option maxHeartbeats 400000 in
theorem vint_b (n : Int) (w : World) : Calls Tryz.prog 290 #[.int .i64 n] w fun e w' => e = .returned (enV (Sv.int n)) ∧ Below w.heap.size w w' := by
  go_enter Tryz.func290, Tryz.ntmps290
  go_wp2
  exact bodyPost_ret (v := enV (Sv.int n)) (by simp [results, Tryz.results290, go_sem]; exact ⟨rfl, rfl, rfl⟩) rfl ⟨rfl, (Below.refl _ _).alloc (Nat.le_refl _) _⟩
set_option maxHeartbeats 400000 in
theorem vtext_b (s : ByteArray) (w : World) : Calls Tryz.prog 348 #[.string s] w fun e w' => e = .returned (enV (Sv.text s)) ∧ Below w.heap.size w w' := by
  go_enter Tryz.func348, Tryz.ntmps348
  go_wp2
  exact bodyPost_ret (v := enV (Sv.text s)) (by simp [results, Tryz.results348, go_sem]; exact ⟨rfl, rfl, rfl⟩) rfl ⟨rfl, (Below.refl _ _).alloc (Nat.le_refl _) _⟩
set_option maxHeartbeats 400000 in
theorem vnull_b (w : World) : Calls Tryz.prog 236 #[] w fun e w' => e = .returned (enV Sv.null) ∧ Below w.heap.size w w' := by
  go_enter Tryz.func236, Tryz.ntmps236
  go_wp2
  exact bodyPost_ret (v := enV Sv.null) (by simp [results, Tryz.results236, go_sem]; exact ⟨rfl, rfl, rfl⟩) rfl ⟨rfl, (Below.refl _ _).alloc (Nat.le_refl _) _⟩
set_option maxHeartbeats 400000 in
theorem vbool_b (t : Bool) (w : World) : Calls Tryz.prog 231 #[.bool t] w fun e w' => e = .returned (enV (Sv.bool t)) ∧ Below w.heap.size w w' := by
  cases t
  all_goals
    go_enter Tryz.func231, Tryz.ntmps231
    go_wp2
  · exact bodyPost_ret (v := enV (Sv.bool false)) (by simp [results, Tryz.results231, go_sem]; exact ⟨rfl, rfl, rfl⟩) rfl ⟨rfl, (Below.refl _ _).alloc (Nat.le_refl _) _⟩
  · exact bodyPost_ret (v := enV (Sv.bool true)) (by simp [results, Tryz.results231, go_sem]; exact ⟨rfl, rfl, rfl⟩) rfl ⟨rfl, (Below.refl _ _).alloc (Nat.le_refl _) _⟩

theorem Bk.belowN {w w' : World} {q : Nat} {vs : List Value} (h : Bk w q vs) {n : Nat} (k : Below n w w') (hq : q < n) (hs : w.heap.size ≤ w'.heap.size) : Bk w' q vs := h.same hs (k.block q hq)

set_option maxHeartbeats 1000000 in
theorem numberOf_any (s : ByteArray) (w : World) (hne : s.data.toList ≠ []) (hd : s.data.toList.all Sp.isDg = true) (hs : s.size ≤ 100000) (hv : Sp.numVal s.data.toList < 9223372036854775808) :
    Calls Tryz.prog 341 #[.string s] w fun e w' => e = .returned (enV (Sv.int (Sp.numVal s.data.toList : Nat))) ∧ Below w.heap.size w w' := by
  have H : Hid (Lib.parseIntB 64 s.data.toList = .ok (Sp.numVal s.data.toList : Int)) := intB_ok hne hd hv
  clear hne hd
  generalize hnv : (Sp.numVal s.data.toList) = nv at *
  clear hnv
  have HB0 : Hid (Bk (w.alloc (.cells #[.int .i64 0, .int .i64 0, .string ⟨#[]⟩] 40)) w.heap.size [.int .i64 0, .int .i64 0, .string ⟨#[]⟩]) := Bk.new _ _ _
  have HL0 : Hid (Below w.heap.size w (w.alloc (.cells #[.int .i64 0, .int .i64 0, .string ⟨#[]⟩] 40))) := (Below.refl _ _).alloc (Nat.le_refl _) _
  go_enter Tryz.func341, Tryz.ntmps341
  go_wp2_with fail
  refine (Tryz.strconv_ParseInt_10_at64_ok s (by omega) _ H.out _).mono ?_
  generalize (w.alloc (.cells #[.int .i64 0, .int .i64 0, .string ⟨#[]⟩] 40)) = w0 at *
  rintro e w' ⟨rfl, hw⟩
  have hb1 : Below w0.heap.size w0 w' := by
    rcases hw with rfl | ⟨t, rfl⟩
    · exact Below.refl _ _
    · exact Lib.bytesWorld_below _ _ _
  have HB1 : Hid (Bk w' w.heap.size [.int .i64 0, .int .i64 0, .string ⟨#[]⟩]) := HB0.out.below hb1
  have HL1 : Hid (Below w.heap.size w w') := HL0.out.trans (hb1.mono HL0.out.size)
  clear hw hb1 HB0 HL0
  go_wp2_with fail
  refine (vint_b _ _).mono ?_
  rintro e w2 ⟨rfl, hb2⟩
  have hB2 := HB1.out.below hb2
  have HL2 : Hid (Below w.heap.size w w2) := HL1.out.trans (hb2.mono HL1.out.size)
  have c0 := hB2.c 0 (by simp)
  have c1 := hB2.c 1 (by simp)
  have c2 := hB2.c 2 (by simp)
  have f0 := hB2.f 0
  have f1 := hB2.f 1
  have f2 := hB2.f 2
  simp only [List.getElem_cons_zero, List.getElem_cons_succ] at c0 c1 c2
  clear hB2 hb2
  go_wp2_with fail
  exact bodyPost_ret (v := enV (Sv.int (nv : Nat))) (by simp [results, Tryz.results341, go_sem, *]) rfl ⟨rfl, ((HL2.out.setCell (Nat.le_refl _) _).setCell (Nat.le_refl _) _).setCell (Nat.le_refl _) _⟩
end Go.Proofs.YtgnncnhkgmhngaaGreatDoor

namespace Go.Proofs.YtgnncnhkgmhngaaGreatDoor
open Go.RowKit

theorem txtLen_pos : ∀ {l : Sp.Bs} {n : Nat}, Sp.txtLen l = some n → 1 ≤ n := by
  intro l
  induction l using Sp.txtLen.induct with
  | case1 => intro n h; simp [Sp.txtLen] at h
  | case2 => intro n h; simp_all [Sp.txtLen]
  | case3 c h1 c' r' h2 ih =>
    intro n h
    simp only [Sp.txtLen, h1, h2, if_true] at h
    cases hx : Sp.txtLen r' with
    | none => rw [hx] at h; simp at h
    | some k => rw [hx] at h; simp at h; omega
  | case4 => intro n h; simp_all [Sp.txtLen]
  | case5 c r h1 ih =>
    intro n h
    rw [Sp.txtLen.eq_def] at h
    simp only [if_neg h1] at h
    cases hx : Sp.txtLen r with
    | none => rw [hx] at h; simp at h
    | some k => rw [hx] at h; simp at h; omega

theorem txt_word {s : Sp.Bs} {e : Nat} (h : Sp.tokCl s e = .txt) : 2 ≤ (Sp.tokWord s e).length := by
  unfold Sp.tokCl at h
  unfold Sp.tokWord Sp.tokLen
  generalize s.drop (Sp.tokAt s e) = l at *
  cases l with
  | nil => simp [Sp.first] at h
  | cons c r =>
    cases h1 : Sp.isLo c
    · cases h2 : Sp.isDg c
      · cases h3 : (c == 39)
        · rw [first_sign h1 h2 h3] at h; split at h <;> cases h
        · rw [first_txt h1 h2 h3] at h ⊢
          cases ht : Sp.txtLen r with
          | none => rw [ht] at h; cases h
          | some n =>
            simp only
            have a := txtLen_pos ht
            have b := txtLen_le r n ht
            rw [List.length_take]
            simp
            omega
      · rw [first_num h1 h2] at h
        simp only at h
        split at h <;> cases h
    · rw [first_word h1] at h
      simp only at h
      split at h
      · cases h
      · split at h <;> cases h

/-- The library's variable MaxLen holds some number. -/
def VM (w : World) : Prop := ∃ m : Int, w.cell? ⟨5, 0, none⟩ = some (.int .i64 m) ∧ 5 < w.heap.size
theorem VM.below {w w' : World} (h : VM w) (k : Below w.heap.size w w') : VM w' := by
  obtain ⟨m, h1, h2⟩ := h
  exact ⟨m, (k.cell (p := ⟨5, 0, none⟩) h2).trans h1, Nat.lt_of_lt_of_le h2 k.size⟩
theorem PS.vmv {b c cap len : Nat} {s : Sp.Bs} {d : Nat} {σ : Sp.St} {w : World} (h : PS b c cap len s d σ w) : VM w := by
  obtain ⟨m, hm⟩ := h.vm
  have h1 := h.h5
  have h2 := h.lc
  exact ⟨m, hm, by omega⟩
theorem VM.kept {b : Nat} {w w' : World} (h : VM w) (k : Kept b w w') (hb : b ≠ 5) : VM w' := by
  obtain ⟨m, h1, h2⟩ := h
  exact ⟨m, (k.cell (p := ⟨5, 0, none⟩) h2 (Ne.symm hb)).trans h1, Nat.lt_of_lt_of_le h2 k.size⟩

theorem countB_le (s sub : ByteArray) : Lib.countB s sub ≤ s.size + 1 := by
  have := Lib.count_le s.data.toList sub.data.toList
  rw [size_data] at this
  exact this

set_option maxHeartbeats 400000 in
theorem clone_any (s : ByteArray) (w : World) (hs : s.size ≤ 100000) : Calls Tryz.prog 142 #[.string s] w fun e w' => e = .returned (.string s) ∧ Below w.heap.size w w' := by
  go_enter Tryz.func142, Tryz.ntmps142
  go_wp2_with fail
  refine (Tryz.stringslite_Clone s _ (by omega)).mono ?_
  rintro e w1 ⟨rfl, hb⟩
  go_wp2_with fail
  go_ret
  exact ⟨rfl, hb⟩

theorem txt_inside (s : ByteArray) : (s.extract 1 (s.size - 1)).data.toList = (s.data.toList.drop 1).take (s.data.toList.length - 2) := by
  rw [Lib.extract_data, size_data]
  congr 1

theorem unq_le : ∀ l : Sp.Bs, (Sp.unq l).length ≤ l.length
  | [] => Nat.le_refl _
  | [c] => Nat.le_refl _
  | c :: c' :: r => by
    rw [Sp.unq]
    split
    · have := unq_le r; simp; omega
    · have := unq_le (c' :: r); simp at this ⊢; omega

set_option maxHeartbeats 1000000 in
theorem textOf_any (s : ByteArray) (w : World) (h2 : 2 ≤ s.size) (hs : s.size ≤ 100000) (hm : VM w) :
    Calls Tryz.prog 342 #[.string s] w fun e w' => e = .returned (enV (Sv.text ⟨(Sp.txtVal s.data.toList).toArray⟩)) ∧ Below w.heap.size w w' := by
  have HV : Hid (Sp.txtVal s.data.toList = Lib.replaceAll (s.extract 1 (s.size - 1)).data.toList [39, 39] [39]) := by
    show _ = _
    rw [Sp.replaceAll_unq, txt_inside s]; rfl
  have hsz : (s.extract 1 (s.size - 1)).size ≤ 100000 := by
    have := congrArg List.length (txt_inside s)
    rw [size_data, List.length_take, List.length_drop, size_data] at this
    omega
  have HC : Hid ((s.extract 1 (s.size - 1)).size + Lib.countB (s.extract 1 (s.size - 1)) ⟨#[39, 39]⟩ * (⟨#[39]⟩ : ByteArray).size ≤ 140737488355328) := by
    have := countB_le (s.extract 1 (s.size - 1)) ⟨#[39, 39]⟩
    have e1 : (⟨#[39]⟩ : ByteArray).size = 1 := rfl
    show _ ≤ _
    rw [e1]
    omega
  have HB0 : Hid (Bk (w.alloc (.cells #[.int .i64 0, .int .i64 0, .string ⟨#[]⟩] 40)) w.heap.size [.int .i64 0, .int .i64 0, .string ⟨#[]⟩]) := Bk.new _ _ _
  have HL0 : Hid (Below w.heap.size w (w.alloc (.cells #[.int .i64 0, .int .i64 0, .string ⟨#[]⟩] 40))) := (Below.refl _ _).alloc (Nat.le_refl _) _
  have HM0 : Hid (VM (w.alloc (.cells #[.int .i64 0, .int .i64 0, .string ⟨#[]⟩] 40))) := hm.below ((Below.refl _ _).alloc (Nat.le_refl _) _)
  have HSZ : Hid ((s.extract 1 (s.size - 1)).size ≤ 100000) := hsz
  clear hm hsz
  go_enter Tryz.func342, Tryz.ntmps342
  go_wp2_with fail
  obtain ⟨m, hm1, hm2⟩ := HM0.out
  refine (Tryz.strings_ReplaceAll (s.extract 1 (s.size - 1)) ⟨#[39, 39]⟩ ⟨#[39]⟩ m _ (by have := HSZ.out; omega) hm1 (by decide) HC.out).mono ?_
  clear hm1 hm2
  generalize (w.alloc (.cells #[.int .i64 0, .int .i64 0, .string ⟨#[]⟩] 40)) = w0 at *
  rintro e w1 ⟨rfl, hb1⟩
  have e0 : Lib.replaceAll (s.extract 1 (s.size - 1)).data.toList (⟨#[39, 39]⟩ : ByteArray).data.toList (⟨#[39]⟩ : ByteArray).data.toList = Sp.txtVal s.data.toList := HV.out.symm
  rw [e0]
  have hle : (⟨(Sp.txtVal s.data.toList).toArray⟩ : ByteArray).size ≤ 100000 := by
    show (Sp.txtVal s.data.toList).toArray.size ≤ 100000
    rw [List.size_toArray]
    have a : (Sp.txtVal s.data.toList).length ≤ ((s.data.toList.drop 1).take (s.data.toList.length - 2)).length := unq_le _
    rw [List.length_take, List.length_drop, size_data] at a
    omega
  have HLE : Hid ((⟨(Sp.txtVal s.data.toList).toArray⟩ : ByteArray).size ≤ 100000) := hle
  clear hle e0
  have HB1 : Hid (Bk w1 w.heap.size [.int .i64 0, .int .i64 0, .string ⟨#[]⟩]) := HB0.out.below hb1
  have HL1 : Hid (Below w.heap.size w w1) := HL0.out.trans (hb1.mono HL0.out.size)
  clear hb1 HB0 HL0 HV HC HSZ
  generalize htv : (⟨(Sp.txtVal s.data.toList).toArray⟩ : ByteArray) = tv at *
  have HTV : Hid ((⟨(Sp.txtVal s.data.toList).toArray⟩ : ByteArray) = tv) := htv
  clear htv
  go_wp2_with fail
  refine (clone_any _ _ HLE.out).mono ?_
  rintro e w2 ⟨rfl, hb2⟩
  have HB2 : Hid (Bk w2 w.heap.size [.int .i64 0, .int .i64 0, .string ⟨#[]⟩]) := HB1.out.below hb2
  have HL2 : Hid (Below w.heap.size w w2) := HL1.out.trans (hb2.mono HL1.out.size)
  clear hb2
  go_wp2_with fail
  refine (vtext_b _ _).mono ?_
  rintro e w3 ⟨rfl, hb3⟩
  have hB3 := HB2.out.below hb3
  have HL3 : Hid (Below w.heap.size w w3) := HL2.out.trans (hb3.mono HL2.out.size)
  have c0 := hB3.c 0 (by simp)
  have c1 := hB3.c 1 (by simp)
  have c2 := hB3.c 2 (by simp)
  have f0 := hB3.f 0
  have f1 := hB3.f 1
  have f2 := hB3.f 2
  simp only [List.getElem_cons_zero, List.getElem_cons_succ] at c0 c1 c2
  clear hB3 hb3
  go_wp2_with fail
  exact bodyPost_ret (v := enV (Sv.text tv)) (by simp [results, Tryz.results342, go_sem, *]) rfl ⟨by rw [HTV.out], ((HL3.out.setCell (Nat.le_refl _) _).setCell (Nat.le_refl _) _).setCell (Nat.le_refl _) _⟩
end Go.Proofs.YtgnncnhkgmhngaaGreatDoor

namespace Go.Proofs.YtgnncnhkgmhngaaGreatDoor
open Go.RowKit

/-- Is the token at place j this word? -/
def tokIs (s : Sp.Bs) (j : Nat) (z : Sp.Bs) : Bool := Sp.tokCl s (pos s j) == .key && Sp.tokWord s (pos s j) == z

theorem is_lit {b c cap len : Nat} {s : Sp.Bs} {d : Nat} {σ : Sp.St} {w : World} (h : PS b c cap len s d σ w) (j : Nat) {wd : ByteArray} (ok : WordOK s (pos s j) wd.toList) (k a : Int) (z : Sp.Bs) (hf : z ∈ fixd) :
    Calls Tryz.prog 173 #[.agg #[.int .i64 k, .int .i64 a, .string wd], .slice (some ⟨w.heap.size, 0, none⟩) 1 1] (w.alloc (.cells #[.string ⟨z.toArray⟩] 9)) fun r w' => r = .returned (.bool (tokIs s j z)) ∧ PS b c cap len s d σ w' ∧ Below w.heap.size w w' := by
  refine (is_prog w.heap.size 0 1 1 [bz z] wd k a (w.alloc (.cells #[.string ⟨z.toArray⟩] 9)) rfl (by decide) (by simp) ?_).mono ?_
  · intro j hj
    have : j = 0 := by simpa using hj
    subst this
    rw [World.cell?_alloc_new]; rfl
  · rintro r w' ⟨rfl, rfl⟩
    refine ⟨ret_bool ?_, (h.alloc _).alloc _, ((Below.refl _ _).alloc (Nat.le_refl _) _).alloc (by simp) _⟩
    rw [oneOf, tokIs, List.any_cons, List.any_nil, Bool.or_false, bz_toList, ok z hf]

theorem asks_round {s : Sp.Bs} {f e : Nat} (h : (Sp.tokCl s e == .key && Sp.tokWord s e == [40]) = true) : Sp.asksAt s (f + 1) e = Sp.asksAt s f (Sp.tokEnd s e) := by
  rw [Sp.asksAt, h]; rfl
theorem asks_stop {s : Sp.Bs} {f e : Nat} (h : (Sp.tokCl s e == .key && Sp.tokWord s e == [40]) = false) : Sp.asksAt s (f + 1) e = (Sp.tokCl s e == .key && Sp.tokWord s e == [115, 101, 108, 101, 99, 116]) := by
  rw [Sp.asksAt, h]; rfl

theorem tokIs_live {s : Sp.Bs} {j : Nat} {z : Sp.Bs} (h : tokIs s j z = true) : Sp.tokCl s (pos s j) = .key := by
  unfold tokIs at h; simp only [Bool.and_eq_true, beq_iff_eq] at h; exact h.1

theorem pos_up {s : Sp.Bs} {j : Nat} {z : Sp.Bs} (h : tokIs s j z = true) : pos s j < pos s (j + 1) ∧ pos s j < s.length := by
  have := tokIs_live h
  exact ⟨Sp.tokEnd_gt (by rw [this]; decide) (by rw [this]; decide), Sp.lt_of_tok (by rw [this]; decide)⟩

theorem next_lt {s : Sp.Bs} {len j : Nat} {z : Sp.Bs} (tk : TK s len) (hj : j < len) (h : tokIs s j z = true) : j + 1 < len := by
  have := tokIs_live h
  rcases Nat.lt_or_ge (j + 1) len with x | x
  · exact x
  · exfalso
    rcases tk.last j (by omega) with y | y <;> rw [this] at y <;> cases y

theorem tokIs_of {s : Sp.Bs} {len i : Nat} {σ : Sp.St} (tk : TK s len) (hi : IX s len i σ) (z : Sp.Bs) : tokIs s i z = σ.is s z := by
  cases σ with
  | live e => simp only [tokIs, Sp.St.is]; rw [hi.2]
  | dead x a =>
    rcases tk.last i hi.1 with h | h <;> simp [tokIs, Sp.St.is, h]

set_option maxHeartbeats 2000000 in
theorem isQuery_no {b c cap len : Nat} {s : Sp.Bs} {d : Nat} {σ : Sp.St} {w : World} (h : PS b c cap len s d σ w) (h0 : σ.is s [40] = false) :
    Calls Tryz.prog 344 #[.pointer (some ⟨b, 0, none⟩)] w fun r w' => r = .returned (.bool false) ∧ PS b c cap len s d σ w' ∧ Kept b w w' := by
  obtain ⟨i, hi, h1⟩ := h.h1
  have hil := hi.lt
  have hs : tokIs s i [40] = false := by rw [tokIs_of h.tk hi]; exact h0
  have c0 := h.h0
  obtain ⟨wd, tc⟩ := h.tc i hil
  have tk := tc.k
  have ta := tc.a
  have tt := tc.t
  have HO : Hid (WordOK s (pos s i) wd.toList) := tc.ok
  have HP : Hid (PS b c cap len s d σ w) := h
  have HI : Hid (IX s len i σ) := hi
  have lt := h.tk.top
  clear h hi h0 tc
  go_enter Tryz.func344, Tryz.ntmps344
  go_wp2_with fail
  go_loopg [3] 1 (fun f x wr => x = .int .i64 i ∧ wr = w)
  case atStart => exact ⟨rfl, rfl⟩
  case round =>
    obtain ⟨rfl, rfl⟩ := hrel
    go_wp2_with fail
    refine (is_lit HP.out i HO.out _ _ [40] (by decide)).mono ?_
    rw [hs]
    rintro r w2 ⟨rfl, hp2, hk2⟩
    obtain ⟨i', hi', h1'⟩ := hp2.h1
    obtain rfl : i = i' := ix_inj hp2.tk HI.out hi'
    have HP2 : Hid (PS b c cap len s d σ w2) := hp2
    have HK2 : Hid (Kept b wr w2) := Kept.below hk2
    clear hp2 hk2 c0 tk ta tt hi' h1
    go_wp2_with fail
    go_ret
    exact ⟨rfl, HP2.out, HK2.out⟩

set_option maxHeartbeats 2000000 in
theorem isQuery_open {b c cap len : Nat} {s : Sp.Bs} {d e : Nat} {w : World} (h : PS b c cap len s d (.live e) w) (h0 : Sp.St.is s [40] (.live e) = true) :
    Calls Tryz.prog 344 #[.pointer (some ⟨b, 0, none⟩)] w fun r w' => r = .returned (.bool (Sp.St.asks s (.live e))) ∧ PS b c cap len s d (.live e) w' ∧ Kept b w w' := by
  obtain ⟨i, hi, h1⟩ := h.h1
  have hil := hi.1
  have HI : Hid (pos s i = e) := hi.2
  have HIX : Hid (IX s len i (.live e)) := hi
  have HS0 : Hid (tokIs s i [40] = true) := by show _ = _; rw [tokIs_of h.tk hi]; exact h0
  have hlt : e < s.length := by
    simp only [Sp.St.is, Bool.and_eq_true, beq_iff_eq] at h0
    exact Sp.lt_of_tok (by rw [h0.1]; decide)
  have HP : Hid (PS b c cap len s d (.live e) w) := h
  have lt := h.tk.top
  clear h hi h0
  go_enter Tryz.func344, Tryz.ntmps344
  go_wp2_with fail
  go_loopg [3] (s.length + 1 - e) (fun f x wr => 1 ≤ f ∧ ∃ j : Nat, j < len ∧ i ≤ j ∧ x = .int .i64 j ∧ s.length + 1 - pos s j ≤ f ∧ Hid (Sp.St.asks s (.live e) = Sp.asksAt s f (pos s j)) ∧ Hid (PS b c cap len s d (.live e) wr) ∧ Hid (Below w.heap.size w wr))
  case atStart => exact ⟨by omega, i, hil, Nat.le_refl _, rfl, by rw [HI.out]; omega, by show _ = _; rw [HI.out]; rfl, HP.out, Below.refl _ _⟩
  case round =>
    obtain ⟨hf1, j, hj, hij, rfl, hf, HA, HPr, HBr⟩ := hrel
    obtain ⟨f, rfl⟩ : ∃ f, gk = f + 1 := ⟨gk - 1, by omega⟩
    have c0 := HPr.out.h0
    obtain ⟨wd, tc⟩ := HPr.out.tc j hj
    have tk := tc.k
    have ta := tc.a
    have tt := tc.t
    have HO : Hid (WordOK s (pos s j) wd.toList) := tc.ok
    clear tc
    cases hs : tokIs s j [40]
    · have HV : Hid (Sp.St.asks s (.live e) = tokIs s j [115, 101, 108, 101, 99, 116]) := by show _ = _; rw [HA.out]; exact asks_stop hs
      have hij' : i < j := by
        rcases Nat.lt_or_ge i j with x | x
        · exact x
        · have : i = j := by omega
          subst this
          rw [HS0.out] at hs; cases hs
      clear HA
      go_wp2_with fail
      refine (is_lit HPr.out j HO.out _ _ [40] (by decide)).mono ?_
      rw [hs]
      rintro r w2 ⟨rfl, hp2, hk2⟩
      obtain ⟨i', hi', h1'⟩ := hp2.h1
      obtain rfl : i = i' := ix_inj hp2.tk HIX.out hi'
      have HP2 : Hid (PS b c cap len s d (.live e) w2) := hp2
      have HB2 : Hid (Below w.heap.size w w2) := HBr.out.trans (hk2.mono HBr.out.size)
      have c02 := hp2.h0
      have tk2 := (hk2.cell (p := ⟨c, j * 3, none⟩) HPr.out.lc).trans tk
      have ta2 := (hk2.cell (p := ⟨c, j * 3 + 1, none⟩) HPr.out.lc).trans ta
      have tt2 := (hk2.cell (p := ⟨c, j * 3 + 2, none⟩) HPr.out.lc).trans tt
      clear hp2 hk2 c0 tk ta tt hi'
      go_wp2_with fail
      refine (is_lit HP2.out j HO.out _ _ [115, 101, 108, 101, 99, 116] (by decide)).mono ?_
      rintro r w3 ⟨rfl, hp3, hk3⟩
      have HP3 : Hid (PS b c cap len s d (.live e) w3) := hp3
      have HB3 : Hid (Below w.heap.size w w3) := HB2.out.trans (hk3.mono HB2.out.size)
      clear hp3 hk3 c02 tk2 ta2 tt2
      generalize tokIs s j [115, 101, 108, 101, 99, 116] = bs at *
      go_wp2_with fail
      go_ret
      exact ⟨by rw [HV.out]; simp, HP3.out, Kept.below HB3.out⟩
    · have HV : Hid (Sp.St.asks s (.live e) = Sp.asksAt s f (pos s (j + 1))) := by show _ = _; rw [HA.out]; exact asks_round hs
      have hup := pos_up hs
      have hnx := next_lt HPr.out.tk hj hs
      clear HA
      go_wp2_with fail
      refine (is_lit HPr.out j HO.out _ _ [40] (by decide)).mono ?_
      rw [hs]
      rintro r w2 ⟨rfl, hp2, hk2⟩
      have HP2 : Hid (PS b c cap len s d (.live e) w2) := hp2
      have HB2 : Hid (Below w.heap.size w w2) := HBr.out.trans (hk2.mono HBr.out.size)
      clear hp2 hk2 c0 tk ta tt
      go_wp2_with fail
      go_roundg f
      case measure => omega
      case rel => exact ⟨by omega, j + 1, hnx, by omega, by go_num, by omega, HV.out, HP2.out, HB2.out⟩
end Go.Proofs.YtgnncnhkgmhngaaGreatDoor
