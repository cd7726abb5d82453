import Derived.Test.YtpgeiieapkbjhaaGreatDoorP1
namespace Go.Proofs.YtpgeiieapkbjhaaGreatDoor
open Go.RowKit

/-- Where the i-th token's search begins. -/
def pos (s : Sp.Bs) : Nat → Nat
  | 0 => 0
  | i + 1 => Sp.tokEnd s (pos s i)

/-- The words that the grammar asks for. -/
def fixd : List Sp.Bs := Sp.keys ++ [[40], [41], [44], [46], [42], [43], [45], [47], [61], [60, 62], [60], [60, 61], [62], [62, 61]]

def WordOK (s : Sp.Bs) (e : Nat) (wd : Sp.Bs) : Prop := ∀ x ∈ fixd, (wd == x) = (Sp.tokCl s e == .key && Sp.tokWord s e == x)

/-- The tokens of a text, as a list of so many. -/
structure TK (s : Sp.Bs) (len : Nat) : Prop where
  one : 1 ≤ len
  top : len ≤ 100000
  mid : ∀ j, j + 1 < len → Sp.tokCl s (pos s j) ≠ .fin ∧ Sp.tokCl s (pos s j) ≠ .bad
  last : ∀ j, j + 1 = len → Sp.tokCl s (pos s j) = .fin ∨ Sp.tokCl s (pos s j) = .bad

def er : Sp.St → Nat | .live _ => 0 | .dead x _ => x
def ea : Sp.St → Nat | .live _ => 0 | .dead _ a => a
def IX (s : Sp.Bs) (len i : Nat) : Sp.St → Prop
  | .live e => i < len ∧ pos s i = e
  | .dead x _ => i + 1 = len ∧ x ≠ 0

theorem IX.lt {s : Sp.Bs} {len i : Nat} {σ : Sp.St} (h : IX s len i σ) : i < len := by
  cases σ with
  | live e => exact h.1
  | dead x a => have := h.1; omega

/-- The token at place j of the tokens' array. -/
structure TC (c : Nat) (s : Sp.Bs) (w : World) (j : Nat) (wd : ByteArray) : Prop where
  k : w.cell? ⟨c, j * 3, none⟩ = some (.int .i64 (kn (Sp.tokCl s (pos s j))))
  a : w.cell? ⟨c, j * 3 + 1, none⟩ = some (.int .i64 (Sp.tokAt s (pos s j) : Nat))
  t : w.cell? ⟨c, j * 3 + 2, none⟩ = some (.string wd)
  ok : WordOK s (pos s j) wd.toList

/-- The parser in block b, its tokens in block c: it stands at σ, d things are open. -/
structure PS (b c cap len : Nat) (s : Sp.Bs) (d : Nat) (σ : Sp.St) (w : World) : Prop where
  lb : b < w.heap.size
  lc : c < w.heap.size
  ne : c ≠ b
  tk : TK s len
  h0 : w.cell? ⟨b, 0, none⟩ = some (.slice (some ⟨c, 0, none⟩) len cap)
  h1 : ∃ i : Nat, IX s len i σ ∧ w.cell? ⟨b, 1, none⟩ = some (.int .i64 i)
  h2 : w.cell? ⟨b, 2, none⟩ = some (.int .i64 d)
  h3 : w.cell? ⟨b, 3, none⟩ = some (.int .i64 (er σ))
  h4 : w.cell? ⟨b, 4, none⟩ = some (.int .i64 (ea σ))
  fz : ∀ o, w.frozen? ⟨b, o, none⟩ = false
  tc : ∀ j, j < len → ∃ wd, TC c s w j wd

theorem TC.kept {b c : Nat} {s : Sp.Bs} {w w' : World} {j : Nat} {wd : ByteArray} (h : TC c s w j wd) (k : Kept b w w') (lc : c < w.heap.size) (ne : c ≠ b) : TC c s w' j wd :=
  ⟨(k.cell (p := ⟨c, _, none⟩) lc ne).trans h.k, (k.cell (p := ⟨c, _, none⟩) lc ne).trans h.a, (k.cell (p := ⟨c, _, none⟩) lc ne).trans h.t, h.ok⟩

/-- From one world to a later one. -/
theorem PS.next {b c cap len : Nat} {s : Sp.Bs} {d d' : Nat} {σ σ' : Sp.St} {w w' : World} (h : PS b c cap len s d σ w) (k : Kept b w w')
    (h0 : w'.cell? ⟨b, 0, none⟩ = some (.slice (some ⟨c, 0, none⟩) len cap)) (i : Nat) (hi : IX s len i σ') (h1 : w'.cell? ⟨b, 1, none⟩ = some (.int .i64 i)) (h2 : w'.cell? ⟨b, 2, none⟩ = some (.int .i64 d'))
    (h3 : w'.cell? ⟨b, 3, none⟩ = some (.int .i64 (er σ'))) (h4 : w'.cell? ⟨b, 4, none⟩ = some (.int .i64 (ea σ'))) (fz : ∀ o, w'.frozen? ⟨b, o, none⟩ = false) : PS b c cap len s d' σ' w' :=
  ⟨Nat.lt_of_lt_of_le h.lb k.size, Nat.lt_of_lt_of_le h.lc k.size, h.ne, h.tk, h0, ⟨i, hi, h1⟩, h2, h3, h4, fz, fun j hj => by obtain ⟨wd, t⟩ := h.tc j hj; exact ⟨wd, t.kept k h.lc h.ne⟩⟩

/-- Nothing of b has turned. -/
theorem PS.same {b c cap len : Nat} {s : Sp.Bs} {d : Nat} {σ : Sp.St} {w w' : World} (h : PS b c cap len s d σ w) (k : Kept b w w') (hb : w'.heap[b]? = w.heap[b]?) : PS b c cap len s d σ w' := by
  have hc : ∀ o, w'.cell? ⟨b, o, none⟩ = w.cell? ⟨b, o, none⟩ := fun o => World.cell?_of_block (w := w) (a := ⟨b, o, none⟩) hb
  have hf : ∀ o, w'.frozen? ⟨b, o, none⟩ = w.frozen? ⟨b, o, none⟩ := fun o => World.frozen?_of_block (w := w) (a := ⟨b, o, none⟩) hb
  obtain ⟨i, hi, h1⟩ := h.h1
  exact h.next k ((hc 0).trans h.h0) i hi ((hc 1).trans h1) ((hc 2).trans h.h2) ((hc 3).trans h.h3) ((hc 4).trans h.h4) (fun o => (hf o).trans (h.fz o))

theorem PS.alloc {b c cap len : Nat} {s : Sp.Bs} {d : Nat} {σ : Sp.St} {w : World} (h : PS b c cap len s d σ w) (o : Obj) : PS b c cap len s d σ (w.alloc o) :=
  h.same ((Kept.refl b w).alloc o) (Below.heap_alloc _ _ _ h.lb)
theorem PS.drew {b c cap len : Nat} {s : Sp.Bs} {d : Nat} {σ : Sp.St} {w : World} (h : PS b c cap len s d σ w) : PS b c cap len s d σ w.drew :=
  h.same (Kept.refl b w).drew rfl
theorem PS.drewN {b c cap len : Nat} {s : Sp.Bs} {d : Nat} {σ : Sp.St} {w : World} (h : PS b c cap len s d σ w) (n : Nat) : PS b c cap len s d σ (w.drewN n) :=
  h.same ((Kept.refl b w).drewN n) rfl
theorem PS.below {b c cap len : Nat} {s : Sp.Bs} {d : Nat} {σ : Sp.St} {w w' : World} (h : PS b c cap len s d σ w) (k : Below w.heap.size w w') : PS b c cap len s d σ w' :=
  h.same (Kept.below k) (k.block b h.lb)

/-- What a failure at place a makes of a state. -/
def failAt (x a : Nat) : Sp.St → Sp.St
  | .live _ => .dead x a
  | .dead y z => .dead y z

/-- The post of a call that has no result. -/
def Post (b c cap len : Nat) (s : Sp.Bs) (d : Nat) (σ : Sp.St) (w : World) (r : Ending) (w' : World) : Prop :=
  r = .returned (.tuple #[]) ∧ PS b c cap len s d σ w' ∧ Kept b w w'

set_option maxHeartbeats 1000000 in
theorem pfail_any {b c cap len : Nat} {s : Sp.Bs} {d : Nat} {σ : Sp.St} {w : World} (h : PS b c cap len s d σ w) (x a : Nat) (hx : x ≠ 0) :
    Calls Tryz.prog 103 #[.pointer (some ⟨b, 0, none⟩), .int .i64 x, .int .i64 a] w (Post b c cap len s d (failAt x a σ) w) := by
  have H := h
  obtain ⟨lb, lc, ne, tk, h0, ⟨i, hi, h1⟩, h2, h3, h4, fz, tc⟩ := h
  have f1 := fz 1
  have f3 := fz 3
  have f4 := fz 4
  have hl := tk.one
  have hl2 := tk.top
  have HH : Hid (PS b c cap len s d σ w) := H
  clear H tk tc
  cases σ with
  | live e =>
    have h3' : w.cell? ⟨b, 3, none⟩ = some (.int .i64 0) := h3
    have h4' : w.cell? ⟨b, 4, none⟩ = some (.int .i64 0) := h4
    clear h3 h4 hi
    have FZ : Hid (∀ o, w.frozen? ⟨b, o, none⟩ = false) := fz
    clear fz
    go_enter Tryz.func103, Tryz.ntmps103
    go_wp2
    go_end0
    have hlen : ((len : Int) - 1) = ((len - 1 : Nat) : Int) := by omega
    rw [hlen]
    refine ⟨rfl, HH.out.next (σ' := .dead x a) ((((Kept.refl b w).setCell 3 _).setCell 4 _).setCell 1 _) (by go_simp) (len - 1) ⟨by omega, hx⟩ ?_ (by go_simp) ?_ ?_ (fun o => by have := FZ.out o; go_simp), (((Kept.refl b w).setCell 3 _).setCell 4 _).setCell 1 _⟩
    all_goals show _ = some _
    all_goals go_simp
    all_goals rfl
  | dead y z =>
    have hn : (((er (.dead y z) : Nat) : Int) != 0) = true := by have := hi.2; simp [er]; omega
    clear hi
    go_enter Tryz.func103, Tryz.ntmps103
    go_wp2
    exact bodyPost_ret (v := .tuple #[]) (by simp [results, Tryz.results103, go_sem]) rfl ⟨rfl, HH.out, Kept.refl b w⟩

theorem fail_eq (s : Sp.Bs) (x : Nat) (σ : Sp.St) (len i : Nat) (h : IX s len i σ) : failAt x (Sp.tokAt s (pos s i)) σ = σ.fail s x := by
  cases σ with
  | live e => simp only [failAt, Sp.St.fail]; rw [h.2]
  | dead y z => rfl

set_option maxHeartbeats 1000000 in
theorem refuse_any {b c cap len : Nat} {s : Sp.Bs} {d : Nat} {σ : Sp.St} {w : World} (h : PS b c cap len s d σ w) :
    Calls Tryz.prog 65 #[.pointer (some ⟨b, 0, none⟩)] w (Post b c cap len s d (σ.fail s 2) w) := by
  obtain ⟨i, hi, h1⟩ := h.h1
  have h0 := h.h0
  obtain ⟨wd, tc⟩ := h.tc i hi.lt
  have hil := hi.lt
  have ta := tc.a
  rw [← fail_eq s 2 σ len i hi]
  have HH : Hid (PS b c cap len s d σ w) := h
  clear h tc hi
  have lt := HH.out.tk.top
  go_enter Tryz.func65, Tryz.ntmps65
  go_region_with (go_at_call 103; refine (pfail_any (HH.out.drew) 2 _ (by decide)).mono ?_; rintro e w' ⟨rfl, hp, hk⟩)
  all_goals go_end0
  all_goals exact ⟨rfl, hp, (Kept.refl b w).drew.trans hk⟩

/-- Does the state see one of these words? -/
def isAny (s : Sp.Bs) (zs : List ByteArray) (σ : Sp.St) : Bool := zs.any (fun z => σ.is s z.toList)

theorem any_congr {α : Type} {f g : α → Bool} : ∀ {l : List α}, (∀ x ∈ l, f x = g x) → l.any f = l.any g
  | [], _ => rfl
  | a :: r, h => by simp only [List.any_cons]; rw [h a (by simp), any_congr (fun x hx => h x (by simp [hx]))]

theorem sees_eq {s : Sp.Bs} {len i : Nat} {σ : Sp.St} (tk : TK s len) (hi : IX s len i σ) {wd : ByteArray} (ok : WordOK s (pos s i) wd.toList) {zs : List ByteArray} (hz : ∀ z ∈ zs, z.toList ∈ fixd) : oneOf zs wd = isAny s zs σ := by
  unfold oneOf isAny
  refine any_congr fun z h => ?_
  rw [ok z.toList (hz z h)]
  cases σ with
  | live e => simp only [Sp.St.is]; rw [hi.2]
  | dead x a =>
    have := tk.last i hi.1
    rcases this with h | h <;> simp [Sp.St.is, h]

/-- The words lie in block q. -/
def Words (q : Nat) (zs : List ByteArray) (w : World) : Prop := q < w.heap.size ∧ zs.length ≤ 1000 ∧ (∀ z ∈ zs, z.toList ∈ fixd) ∧ ∀ j, (h : j < zs.length) → w.cell? ⟨q, j, none⟩ = some (.string zs[j])

theorem Words.drew {q : Nat} {zs : List ByteArray} {w : World} (h : Words q zs w) : Words q zs w.drew := h

set_option maxHeartbeats 1000000 in
theorem sees_any {b c cap len : Nat} {s : Sp.Bs} {d : Nat} {σ : Sp.St} {w : World} (h : PS b c cap len s d σ w) (q n : Nat) (zs : List ByteArray) (hw : Words q zs w) (hn : n = zs.length) :
    Calls Tryz.prog 94 #[.pointer (some ⟨b, 0, none⟩), .slice (some ⟨q, 0, none⟩) n n] w fun r w' => r = .returned (.bool (isAny s zs σ)) ∧ PS b c cap len s d σ w' ∧ Kept b w w' ∧ Below w.heap.size w w' := by
  obtain ⟨i, hi, h1⟩ := h.h1
  have h0 := h.h0
  obtain ⟨wd, tc⟩ := h.tc i hi.lt
  have hil := hi.lt
  have ta := tc.a
  have tkk := tc.k
  have tt := tc.t
  rw [← sees_eq h.tk hi tc.ok hw.2.2.1]
  have HH : Hid (PS b c cap len s d σ w) := h
  have HW : Hid (Words q zs w) := hw
  have HN : Hid (n = zs.length) := hn
  clear h tc hi hw hn
  have lt := HH.out.tk.top
  go_enter Tryz.func94, Tryz.ntmps94
  go_wp2_with fail
  go_region_with (go_at_call 114; refine (is_prog q 0 n n zs wd _ _ w.drew HN.out (by rw [HN.out]; exact HW.out.2.1) HW.out.1 (fun j hj => by have := HW.out.2.2.2 j hj; simpa using this)).mono ?_; rintro e w' ⟨rfl, rfl⟩)
  all_goals go_wp2_with fail
  all_goals go_ret
  all_goals exact ⟨rfl, HH.out.drew.alloc _, (Kept.refl b w).drew.alloc _, (Below.refl _ _).drew.alloc (Nat.le_refl _) _⟩
end Go.Proofs.YtpgeiieapkbjhaaGreatDoor
