import Derived.Test.YtgnncnhkgmhngaaGreatDoorP2
import Derived.Test.YtgnncnhkgmhngaaGreatDoorT3
namespace Go.Proofs.YtgnncnhkgmhngaaGreatDoor
open Go.RowKit

def bz (l : Sp.Bs) : ByteArray := ⟨l.toArray⟩
theorem bz_toList (l : Sp.Bs) : (bz l).toList = l := ByteArray.toList_mk l

/-- Does the state see one of these words? -/
def seesOne (s : Sp.Bs) (zs : List Sp.Bs) (σ : Sp.St) : Bool := zs.any (fun z => σ.is s z)
def stepIf (t : Bool) (s : Sp.Bs) (σ : Sp.St) : Sp.St := if t then σ.step s else σ

theorem isAny_bz (s : Sp.Bs) (zs : List Sp.Bs) (σ : Sp.St) : isAny s (zs.map bz) σ = seesOne s zs σ := by
  unfold isAny seesOne
  rw [List.any_map]
  exact any_congr fun z _ => by simp [bz_toList]

theorem words_lit {w : World} {zs : List Sp.Bs} {arr : Array Value} (ha : arr = (zs.map fun z => Value.string (bz z)).toArray) (hl : zs.length ≤ 1000) (hf : ∀ z ∈ zs, z ∈ fixd) : Words w.heap.size (zs.map bz) (w.alloc (.cells arr 9)) := by
  refine ⟨by simp, by simpa using hl, ?_, ?_⟩
  · intro z hz
    obtain ⟨x, hx, rfl⟩ := List.mem_map.1 hz
    rw [bz_toList]; exact hf x hx
  · intro j hj
    rw [World.cell?_alloc_new, ha]
    have : j < zs.length := by simpa using hj
    simp [this]

theorem sees_key {s : Sp.Bs} {zs : List Sp.Bs} {σ : Sp.St} (h : seesOne s zs σ = true) : ∃ e, σ = .live e ∧ Sp.tokCl s e = .key := by
  unfold seesOne at h
  obtain ⟨z, _, hz⟩ := List.any_eq_true.1 h
  cases σ with
  | live e => simp [Sp.St.is] at hz; exact ⟨e, rfl, hz.1⟩
  | dead x a => simp [Sp.St.is] at hz

theorem IX.up {s : Sp.Bs} {len i e : Nat} (tk : TK s len) (h : IX s len i (.live e)) (hc : Sp.tokCl s e ≠ .fin) (hb : Sp.tokCl s e ≠ .bad) : IX s len (i + 1) ((Sp.St.live e).step s) := by
  have h1 := h.1
  have : i + 1 ≠ len := by
    intro he
    have := tk.last i he
    rw [h.2] at this
    rcases this with x | x
    · exact hc x
    · exact hb x
  refine ⟨by omega, ?_⟩
  show Sp.tokEnd s (pos s i) = _
  rw [h.2]

/-- The next token is taken. -/
theorem PS.up {b c cap len : Nat} {s : Sp.Bs} {d e : Nat} {w : World} {i : Nat} (h : PS b c cap len s d (.live e) w) (hi : IX s len i (.live e)) (hc : Sp.tokCl s e ≠ .fin) (hb : Sp.tokCl s e ≠ .bad) : PS b c cap len s d ((Sp.St.live e).step s) (w.setCell ⟨b, 1, none⟩ (.int .i64 ((i : Int) + 1))) := by
  obtain ⟨j, hj, h1⟩ := h.h1
  have h0 := h.h0
  have h2 := h.h2
  have h3 := h.h3
  have h4 := h.h4
  have FZ : Hid (∀ o, w.frozen? ⟨b, o, none⟩ = false) := h.fz
  refine h.next ((Kept.refl b w).setCell 1 _) (by clear FZ; go_simp) (i + 1) (hi.up h.tk hc hb) ?_ (by clear FZ; go_simp) ?_ ?_ (fun o => by have := FZ.out o; clear FZ; go_simp)
  · clear FZ h3 h4; go_simp
  · clear FZ; show World.cell? _ _ = some (Value.int .i64 ((0 : Nat) : Int)); have h3' : w.cell? ⟨b, 3, none⟩ = some (.int .i64 (0 : Nat)) := h3; clear h3; go_simp
  · clear FZ; show World.cell? _ _ = some (Value.int .i64 ((0 : Nat) : Int)); have h4' : w.cell? ⟨b, 4, none⟩ = some (.int .i64 (0 : Nat)) := h4; clear h4; go_simp

set_option maxHeartbeats 1000000 in
theorem accept_any {b c cap len : Nat} {s : Sp.Bs} {d : Nat} {σ : Sp.St} {w : World} (h : PS b c cap len s d σ w) (q n : Nat) (zs : List Sp.Bs) (hw : Words q (zs.map bz) w) (hn : n = zs.length) :
    Calls Tryz.prog 76 #[.pointer (some ⟨b, 0, none⟩), .slice (some ⟨q, 0, none⟩) n n] w fun r w' => r = .returned (.bool (seesOne s zs σ)) ∧ PS b c cap len s d (stepIf (seesOne s zs σ) s σ) w' ∧ Kept b w w' := by
  have S := sees_any h q n (zs.map bz) hw (by simpa using hn)
  rw [isAny_bz] at S
  have HS : Hid (∀ w', w' = w → Calls Tryz.prog 122 #[.pointer (some ⟨b, 0, none⟩), .slice (some ⟨q, 0, none⟩) n n] w' fun r w' => r = .returned (.bool (seesOne s zs σ)) ∧ PS b c cap len s d σ w' ∧ Kept b w w' ∧ Below w.heap.size w w') := fun w' e => by subst e; exact S
  clear S hw hn
  cases hs : seesOne s zs σ
  · have HH : Hid (PS b c cap len s d σ w) := h
    clear h
    go_enter Tryz.func76, Tryz.ntmps76
    go_wp2_with fail
    refine (HS.out _ rfl).mono ?_
    rintro r w' ⟨rfl, hp, hk, _⟩
    have HP : Hid (PS b c cap len s d σ w') := hp
    clear hp
    go_wp2_with fail
    go_ret
    exact ⟨rfl, HP.out, hk⟩
  · obtain ⟨e, rfl, hkey⟩ := sees_key hs
    clear h
    have HK : Hid (Sp.tokCl s e = .key) := hkey
    clear hkey
    go_enter Tryz.func76, Tryz.ntmps76
    go_wp2_with fail
    refine (HS.out _ rfl).mono ?_
    rintro r w' ⟨rfl, hp, hk, _⟩
    obtain ⟨i, hi, h1⟩ := hp.h1
    have f1 := hp.fz 1
    have hlt := hi.lt
    have ht := hp.tk.top
    have HP : Hid (PS b c cap len s d (.live e) w') := hp
    have HI : Hid (IX s len i (.live e)) := hi
    clear hp hi
    go_wp2_with fail
    go_ret
    exact ⟨rfl, HP.out.up HI.out (by rw [HK.out]; decide) (by rw [HK.out]; decide), hk.setCell 1 _⟩

/-- At a call: the words have just been laid. -/
theorem accept_lit {b c cap len : Nat} {s : Sp.Bs} {d : Nat} {σ : Sp.St} {w : World} (h : PS b c cap len s d σ w) (zs : List Sp.Bs) (hf : ∀ z ∈ zs, z ∈ fixd) (hl : zs.length ≤ 1000) (n : Nat) (hn : n = zs.length) (arr : Array Value) (ha : arr = (zs.map fun z => Value.string (bz z)).toArray) :
    Calls Tryz.prog 76 #[.pointer (some ⟨b, 0, none⟩), .slice (some ⟨w.heap.size, 0, none⟩) n n] (w.alloc (.cells arr 9)) fun r w' => r = .returned (.bool (seesOne s zs σ)) ∧ PS b c cap len s d (stepIf (seesOne s zs σ) s σ) w' ∧ Kept b w w' :=
  (accept_any (h.alloc _) w.heap.size n zs (words_lit ha hl hf) hn).mono fun _ _ ⟨x, y, z⟩ => ⟨x, y, ((Kept.refl b w).alloc _).trans z⟩

theorem sees_lit {b c cap len : Nat} {s : Sp.Bs} {d : Nat} {σ : Sp.St} {w : World} (h : PS b c cap len s d σ w) (zs : List Sp.Bs) (hf : ∀ z ∈ zs, z ∈ fixd) (hl : zs.length ≤ 1000) (n : Nat) (hn : n = zs.length) (arr : Array Value) (ha : arr = (zs.map fun z => Value.string (bz z)).toArray) :
    Calls Tryz.prog 122 #[.pointer (some ⟨b, 0, none⟩), .slice (some ⟨w.heap.size, 0, none⟩) n n] (w.alloc (.cells arr 9)) fun r w' => r = .returned (.bool (seesOne s zs σ)) ∧ PS b c cap len s d σ w' ∧ Kept b w w' :=
  (sees_any (h.alloc _) w.heap.size n (zs.map bz) (words_lit ha hl hf) (by simpa using hn)).mono fun _ _ ⟨x, y, z, _⟩ => ⟨by rw [x, isAny_bz], y, ((Kept.refl b w).alloc _).trans z⟩

theorem one_is (s : Sp.Bs) (z : Sp.Bs) (σ : Sp.St) : seesOne s [z] σ = σ.is s z := by simp [seesOne]

/-- One word. -/
theorem accept1 {b c cap len : Nat} {s : Sp.Bs} {d : Nat} {σ : Sp.St} {w : World} (h : PS b c cap len s d σ w) (z : Sp.Bs) (hf : z ∈ fixd) :
    Calls Tryz.prog 76 #[.pointer (some ⟨b, 0, none⟩), .slice (some ⟨w.heap.size, 0, none⟩) 1 1] (w.alloc (.cells #[.string ⟨z.toArray⟩] 9)) fun r w' => r = .returned (.bool (σ.is s z)) ∧ PS b c cap len s d (σ.take s z) w' ∧ Kept b w w' := by
  have := accept_lit h [z] (by simpa using hf) (by simp) 1 rfl #[.string ⟨z.toArray⟩] rfl
  rw [one_is] at this
  exact this

theorem sees1 {b c cap len : Nat} {s : Sp.Bs} {d : Nat} {σ : Sp.St} {w : World} (h : PS b c cap len s d σ w) (z : Sp.Bs) (hf : z ∈ fixd) :
    Calls Tryz.prog 122 #[.pointer (some ⟨b, 0, none⟩), .slice (some ⟨w.heap.size, 0, none⟩) 1 1] (w.alloc (.cells #[.string ⟨z.toArray⟩] 9)) fun r w' => r = .returned (.bool (σ.is s z)) ∧ PS b c cap len s d σ w' ∧ Kept b w w' := by
  have := sees_lit h [z] (by simpa using hf) (by simp) 1 rfl #[.string ⟨z.toArray⟩] rfl
  rw [one_is] at this
  exact this

set_option maxHeartbeats 1000000 in
theorem expect_any {b c cap len : Nat} {s : Sp.Bs} {d : Nat} {σ : Sp.St} {w : World} (h : PS b c cap len s d σ w) (z : Sp.Bs) (hf : z ∈ fixd) :
    Calls Tryz.prog 78 #[.pointer (some ⟨b, 0, none⟩), .slice (some ⟨w.heap.size, 0, none⟩) 1 1] (w.alloc (.cells #[.string ⟨z.toArray⟩] 9)) (Post b c cap len s d (σ.must s z) w) := by
  have hcell : ∀ w', Kept b (w.alloc (.cells #[.string ⟨z.toArray⟩] 9)) w' → w'.cell? ⟨w.heap.size, 0, none⟩ = some (.string ⟨z.toArray⟩) := fun w' k => (k.cell (p := ⟨w.heap.size, 0, none⟩) (by simp) (by have := h.lb; simp; omega)).trans (by rw [World.cell?_alloc_new]; rfl)
  have HC : Hid (∀ w', Kept b (w.alloc (.cells #[.string ⟨z.toArray⟩] 9)) w' → w'.cell? ⟨w.heap.size, 0, none⟩ = some (.string ⟨z.toArray⟩)) := hcell
  clear hcell
  have HH : Hid (PS b c cap len s d σ w) := h
  clear h
  go_enter Tryz.func78, Tryz.ntmps78
  go_wp2_with fail
  go_loopw [8] (fun i wr => Kept b (w.alloc (.cells #[.string ⟨z.toArray⟩] 9)) wr ∧ ∃ k : Nat, i = .int .i64 k ∧ ((k = 0 ∧ Hid (PS b c cap len s d σ wr)) ∨ (k = 1 ∧ Hid (PS b c cap len s d (σ.must s z) wr)))) (fun i _ => 1 - (intOf i).toNat)
  case atStart => exact ⟨Kept.refl _ _, 0, rfl, Or.inl ⟨rfl, HH.out.alloc _⟩⟩
  case round =>
    obtain ⟨hk, k, rfl, ⟨rfl, HP⟩ | ⟨rfl, HP⟩⟩ := hrel
    · have hcl := HC.out _ hk
      cases hs : σ.is s z
      · have HM : Hid (σ.must s z = σ.fail s 2) := by show _ = _; simp [Sp.St.must, hs]
        have HT : Hid (σ.take s z = σ) := by show _ = _; simp [Sp.St.take, hs]
        have HK : Hid (Kept b (w.alloc (.cells #[.string ⟨z.toArray⟩] 9)) wr) := hk
        clear hk
        go_wp2_with fail
        refine (accept1 HP.out z hf).mono ?_
        rintro r w1 ⟨rfl, hp1, hk1⟩
        rw [HT.out] at hp1
        have HP1 : Hid (PS b c cap len s d σ w1) := hp1
        have HK1 : Hid (Kept b wr w1) := hk1
        clear hp1 hk1 hcl
        go_wp2_with fail
        refine (refuse_any HP1.out).mono ?_
        rintro r w2 ⟨rfl, hp2, hk2⟩
        have HP2 : Hid (PS b c cap len s d (σ.fail s 2) w2) := hp2
        clear hp2
        go_wp2_with fail
        go_roundw
        case rel => exact ⟨(HK.out.trans HK1.out).trans hk2, 1, by go_num, Or.inr ⟨rfl, by show PS _ _ _ _ _ _ _ _; rw [HM.out]; exact HP2.out⟩⟩
        case measure => simp [intOf]
      · have HM : Hid (σ.must s z = σ.take s z) := by show _ = _; simp [Sp.St.must, Sp.St.take, hs]
        have HK : Hid (Kept b (w.alloc (.cells #[.string ⟨z.toArray⟩] 9)) wr) := hk
        clear hk
        go_wp2_with fail
        refine (accept1 HP.out z hf).mono ?_
        rintro r w1 ⟨rfl, hp1, hk1⟩
        have HP1 : Hid (PS b c cap len s d (σ.take s z) w1) := hp1
        clear hp1 hcl
        go_wp2_with fail
        go_roundw
        case rel => exact ⟨HK.out.trans hk1, 1, by go_num, Or.inr ⟨rfl, by show PS _ _ _ _ _ _ _ _; rw [HM.out]; exact HP1.out⟩⟩
        case measure => simp [intOf]
    · have HK : Hid (Kept b (w.alloc (.cells #[.string ⟨z.toArray⟩] 9)) wr) := hk
      clear hk
      go_wp2_with fail
      go_end0
      exact ⟨rfl, HP.out, ((Kept.refl b w).alloc _).trans HK.out⟩
end Go.Proofs.YtgnncnhkgmhngaaGreatDoor

namespace Go.Proofs.YtgnncnhkgmhngaaGreatDoor
open Go.RowKit

theorem pos_lt {s : Sp.Bs} {len : Nat} (tk : TK s len) : ∀ {i j : Nat}, i < j → j < len → pos s i < pos s j := by
  intro i j hij
  induction j with
  | zero => omega
  | succ j ih =>
    intro hj
    have h1 : pos s j < pos s (j + 1) := Sp.tokEnd_gt (tk.mid j hj).1 (tk.mid j hj).2
    by_cases e : i = j
    · subst e; exact h1
    · exact Nat.lt_trans (ih (by omega) (by omega)) h1

theorem ix_inj {s : Sp.Bs} {len i j : Nat} {σ : Sp.St} (tk : TK s len) (hi : IX s len i σ) (hj : IX s len j σ) : i = j := by
  cases σ with
  | live e =>
    have h1 := hi.2
    have h2 := hj.2
    rcases Nat.lt_trichotomy i j with h | h | h
    · have := pos_lt tk h hj.1; omega
    · exact h
    · have := pos_lt tk h hi.1; omega
  | dead x a => have h1 := hi.1; have h2 := hj.1; omega

theorem isFin_eq {s : Sp.Bs} {len i : Nat} {σ : Sp.St} (hi : IX s len i σ) (h : ((kn (Sp.tokCl s (pos s i)) : Int) != 0) = true) : (if σ.isCl s .fin then σ else σ.fail s 2) = σ.fail s 2 := by
  cases σ with
  | live e =>
    rw [hi.2] at h
    have hc : Sp.St.isCl s .fin (.live e) = false := by
      show (Sp.tokCl s e == .fin) = false
      revert h
      cases Sp.tokCl s e <;> simp [kn]
    rw [hc]; rfl
  | dead x a => rfl

theorem isFin_no {s : Sp.Bs} {len i : Nat} {σ : Sp.St} (hi : IX s len i σ) (h : ((kn (Sp.tokCl s (pos s i)) : Int) != 0) = false) : (if σ.isCl s .fin then σ else σ.fail s 2) = σ := by
  cases σ with
  | live e =>
    rw [hi.2] at h
    have hc : Sp.St.isCl s .fin (.live e) = true := by
      show (Sp.tokCl s e == .fin) = true
      revert h
      cases Sp.tokCl s e <;> simp [kn]
    rw [hc]; rfl
  | dead x a => rfl

set_option maxHeartbeats 1000000 in
theorem expectEnd_any {b c cap len : Nat} {s : Sp.Bs} {d : Nat} {σ : Sp.St} {w : World} (h : PS b c cap len s d σ w) :
    Calls Tryz.prog 49 #[.pointer (some ⟨b, 0, none⟩)] w (Post b c cap len s d (if σ.isCl s .fin then σ else σ.fail s 2) w) := by
  obtain ⟨i, wd, hi, tc, P⟩ := peek_any h
  have HH : Hid (PS b c cap len s d σ w) := h
  have HP : Hid (∀ w', w' = w → Calls Tryz.prog 75 #[.pointer (some ⟨b, 0, none⟩)] w' fun r w'' => r = .returned (.agg #[.int .i64 (kn (Sp.tokCl s (pos s i))), .int .i64 (Sp.tokAt s (pos s i) : Nat), .string wd]) ∧ Below w.heap.size w w'') := fun w' e => by subst e; exact P
  cases hc : ((kn (Sp.tokCl s (pos s i)) : Int) != 0)
  · rw [isFin_no hi hc]
    clear h tc hi P
    go_enter Tryz.func49, Tryz.ntmps49
    go_wp2_with fail
    refine (HP.out _ rfl).mono ?_
    rintro r w1 ⟨rfl, hb⟩
    have HP1 : Hid (PS b c cap len s d σ w1) := HH.out.below hb
    have HK1 : Hid (Kept b w w1) := Kept.below hb
    clear hb
    have hfd := tokF0
    go_wp2_with fail
    go_end0
    exact ⟨rfl, HP1.out, HK1.out⟩
  · rw [isFin_eq hi hc]
    clear h tc hi P
    go_enter Tryz.func49, Tryz.ntmps49
    go_wp2_with fail
    refine (HP.out _ rfl).mono ?_
    rintro r w1 ⟨rfl, hb⟩
    have HP1 : Hid (PS b c cap len s d σ w1) := HH.out.below hb
    have HK1 : Hid (Kept b w w1) := Kept.below hb
    clear hb
    have hfd := tokF0
    go_wp2_with fail
    refine (refuse_any HP1.out).mono ?_
    rintro r w2 ⟨rfl, hp2, hk2⟩
    have HP2 : Hid (PS b c cap len s d (σ.fail s 2) w2) := hp2
    clear hp2
    go_wp2_with fail
    go_end0
    exact ⟨rfl, HP2.out, HK1.out.trans hk2⟩

theorem kn_inj {a c : Sp.Cl} (h : (kn a == kn c) = true) : a = c := by
  revert h; cases a <;> cases c <;> simp [kn]

theorem cl_hit {s : Sp.Bs} {len i : Nat} {σ : Sp.St} (tk : TK s len) (hi : IX s len i σ) {k : Sp.Cl} (hf : k ≠ .fin) (hb : k ≠ .bad) (h : ((kn (Sp.tokCl s (pos s i)) : Int) != kn k) = false) : ∃ e, σ = .live e ∧ σ.isCl s k = true ∧ Sp.tokCl s e = k := by
  have e : Sp.tokCl s (pos s i) = k := kn_inj (by simpa using h)
  cases σ with
  | live x =>
    rw [hi.2] at e
    exact ⟨x, rfl, by simp [Sp.St.isCl, e], e⟩
  | dead x a =>
    exfalso
    rcases tk.last i hi.1 with h | h <;> rw [e] at h
    · exact hf h
    · exact hb h

theorem cl_miss {s : Sp.Bs} {len i : Nat} {σ : Sp.St} (hi : IX s len i σ) {k : Sp.Cl} (h : ((kn (Sp.tokCl s (pos s i)) : Int) != kn k) = true) : σ.isCl s k = false := by
  cases σ with
  | live x =>
    rw [hi.2] at h
    rw [Bool.eq_false_iff]
    intro he
    simp only [Sp.St.isCl, beq_iff_eq] at he
    rw [he] at h; simp at h
  | dead x a => simp [Sp.St.isCl]

set_option maxHeartbeats 2000000 in
theorem acceptKind_any {b c cap len : Nat} {s : Sp.Bs} {d : Nat} {σ : Sp.St} {w : World} (h : PS b c cap len s d σ w) (k : Sp.Cl) (hf : k ≠ .fin) (hb : k ≠ .bad) (z : Int) (hz : z = kn k) :
    Calls Tryz.prog 126 #[.pointer (some ⟨b, 0, none⟩), .int .i64 z] w fun r w' => r = .returned (.bool (σ.isCl s k)) ∧ PS b c cap len s d (stepIf (σ.isCl s k) s σ) w' ∧ Kept b w w' := by
  subst hz
  obtain ⟨i, wd, hi, tc, P⟩ := peek_any h
  have HH : Hid (PS b c cap len s d σ w) := h
  have HP : Hid (∀ w', w' = w → Calls Tryz.prog 75 #[.pointer (some ⟨b, 0, none⟩)] w' fun r w'' => r = .returned (.agg #[.int .i64 (kn (Sp.tokCl s (pos s i))), .int .i64 (Sp.tokAt s (pos s i) : Nat), .string wd]) ∧ Below w.heap.size w w'') := fun w' e => by subst e; exact P
  cases hc : ((kn (Sp.tokCl s (pos s i)) : Int) != kn k)
  · obtain ⟨e, rfl, hit, hcl⟩ := cl_hit h.tk hi hf hb hc
    have hlt := hi.lt
    have ht := h.tk.top
    have HT : Hid (Sp.St.isCl s k (.live e) = true) := hit
    have HI : Hid (IX s len i (.live e)) := hi
    have HNF : Hid (Sp.tokCl s e ≠ .fin ∧ Sp.tokCl s e ≠ .bad) := ⟨by rw [hcl]; exact hf, by rw [hcl]; exact hb⟩
    clear h tc hi P hit hcl
    go_enter Tryz.func126, Tryz.ntmps126
    go_wp2_with fail
    refine (HP.out _ rfl).mono ?_
    rintro r w1 ⟨rfl, hb⟩
    have hp1 := HH.out.below hb
    obtain ⟨j, hj, h1⟩ := hp1.h1
    obtain rfl : i = j := ix_inj hp1.tk HI.out hj
    have f1 := hp1.fz 1
    have HP1 : Hid (PS b c cap len s d (.live e) w1) := hp1
    have HK1 : Hid (Kept b w w1) := Kept.below hb
    clear hb hp1 hj
    have hfd := tokF0
    go_wp2_with fail
    go_ret
    exact ⟨ret_bool HT.out.symm, by rw [HT.out]; exact HP1.out.up HI.out HNF.out.1 HNF.out.2, HK1.out.setCell 1 _⟩
  · have HT : Hid (σ.isCl s k = false) := cl_miss hi hc
    clear h tc hi P
    go_enter Tryz.func126, Tryz.ntmps126
    go_wp2_with fail
    refine (HP.out _ rfl).mono ?_
    rintro r w1 ⟨rfl, hb⟩
    have HP1 : Hid (PS b c cap len s d σ w1) := HH.out.below hb
    have HK1 : Hid (Kept b w w1) := Kept.below hb
    clear hb
    have hfd := tokF0
    go_wp2_with fail
    go_ret
    exact ⟨ret_bool HT.out.symm, by rw [HT.out]; exact HP1.out, HK1.out⟩
end Go.Proofs.YtgnncnhkgmhngaaGreatDoor
