import Derived.Test.YtgnncnhkgmhngaaGreatDoorR28
namespace Go.Proofs.YtgnncnhkgmhngaaGreatDoor
open Go.RowKit

theorem VR.below {w w' : World} (h : VR w) (hb : Below w.heap.size w w') : VR w' := by
  obtain ⟨te, pe, h1, h2⟩ := h
  exact ⟨te, pe, (World.cell?_of_block (w := w) (a := ⟨1, 0, none⟩) (hb.block 1 h2)).trans h1, Nat.lt_of_lt_of_le h2 hb.size⟩

/-- What the program reads of the library's variables. -/
def VRM (w : World) : Prop := VR w ∧ VM w
theorem VRM.below {w w' : World} (h : VRM w) (hb : Below w.heap.size w w') : VRM w' := ⟨h.1.below hb, h.2.below hb⟩

set_option maxRecDepth 100000 in
set_option maxHeartbeats 2000000 in
theorem lstep (p : Option Addr) (s : ByteArray) (m : Int) (w : World) (hs : s.size ≤ maxLen) (hr : VRM w) :
    Calls Tryz.prog 29 #[.pointer p, .agg #[.int .i64 1, .int .i64 m, .string s]] w fun e w' => e = .returned (.bool true) ∧ Below w.heap.size w w' := by
  have HS : Hid (s.size ≤ maxLen) := hs
  have HR : Hid (VRM w) := hr
  clear hs hr
  go_enter Tryz.func29, Tryz.ntmps29
  have HR0 : Hid (VRM (w.alloc (.cells #[.int .i64 1, .int .i64 m, .string s] 27))) := HR.out.below ((Below.refl _ _).alloc (Nat.le_refl _) _)
  go_wp2_with fail
  refine (parse_any s _ HS.out HR0.out.1 HR0.out.2).mono ?_
  rintro r w1 ⟨rfl, hb1⟩
  have HB1 : Hid (Below w.heap.size w w1) := ⟨hb1.os, hb1.tape, hb1.output, by have := hb1.size; simp at this; omega, fun k hk => (hb1.block k (by simp; omega)).trans (Below.heap_alloc _ _ _ hk)⟩
  have c2 : w1.cell? ⟨w.heap.size, 2, none⟩ = some (.string s) := (World.cell?_of_block (w := w.alloc (.cells #[.int .i64 1, .int .i64 m, .string s] 27)) (a := ⟨w.heap.size, 2, none⟩) (hb1.block _ (by simp))).trans (World.cell?_alloc_new _ _ _ _)
  clear hb1
  go_wp2_with fail
  refine (rread_any s _ HS.out).mono ?_
  rintro r w2 ⟨st, ⟨v9, v10, v11, v15, v16, v17, v18, o1, o2, o3, o4, o5, m1, m2, m3, m4, m5, p1, p2, p3, p4, p5, rfl⟩, rfl, hb2⟩
  have HB2 : Hid (Below w.heap.size w w2) := ⟨hb2.os.trans HB1.out.os, hb2.tape.trans HB1.out.tape, hb2.output.trans HB1.out.output, Nat.le_trans HB1.out.size hb2.size, fun k hk => (hb2.block k (Nat.lt_of_lt_of_le hk HB1.out.size)).trans (HB1.out.block k hk)⟩
  clear hb2
  go_wp2_with fail
  go_ret
  exact ⟨rfl, HB2.out.alloc HB2.out.size _⟩

set_option maxHeartbeats 1000000 in
theorem llooks (b : Nat) (w : World) (h1 : w.cell? ⟨b, 1, none⟩ = some (.slice none 0 0)) :
    Calls Tryz.prog 30 #[.pointer (some ⟨b, 0, none⟩)] w fun e w' => e = .returned (.bool true) ∧ w' = w := by
  go_enter Tryz.func30, Tryz.ntmps30
  go_wp2_with fail
  go_loopg [3] 0 (fun _ u wr => u = .int .i64 0 ∧ wr = w)
  case atStart => exact ⟨rfl, rfl⟩
  case round =>
    obtain ⟨rfl, rfl⟩ := hrel
    go_wp2_with fail
    go_ret
    exact ⟨rfl, rfl⟩

/-- A script's steps, as they lie. -/
def Scr (w : World) (o : Option Addr) (n : Nat) : Prop := ∀ i, i < n → ∃ (b off : Nat) (k m : Int) (s : ByteArray), o = some ⟨b, off, none⟩ ∧ w.cell? ⟨b, off + i * 3, none⟩ = some (.int .i64 k) ∧ w.cell? ⟨b, off + i * 3 + 1, none⟩ = some (.int .i64 m) ∧ w.cell? ⟨b, off + i * 3 + 2, none⟩ = some (.string s) ∧ s.size ≤ maxLen ∧ b < w.heap.size

theorem Scr.below {w w' : World} {o : Option Addr} {n : Nat} (h : Scr w o n) (hb : Below w.heap.size w w') : Scr w' o n := by
  intro i hi
  obtain ⟨b, off, k, m, s, ha, h1, h2, h3, h4, h5⟩ := h i hi
  have hc : ∀ j, w'.cell? ⟨b, j, none⟩ = w.cell? ⟨b, j, none⟩ := fun j => World.cell?_of_block (w := w) (hb.block b h5)
  exact ⟨b, off, k, m, s, ha, (hc _).trans h1, (hc _).trans h2, (hc _).trans h3, h4, Nat.lt_of_lt_of_le h5 hb.size⟩

theorem Below.than {w w1 w2 : World} (h : Below w.heap.size w w1) (k : Below w1.heap.size w1 w2) : Below w.heap.size w w2 :=
  ⟨k.os.trans h.os, k.tape.trans h.tape, k.output.trans h.output, Nat.le_trans h.size k.size, fun i hi => (k.block i (Nat.lt_of_lt_of_le hi h.size)).trans (h.block i hi)⟩

set_option maxRecDepth 100000 in
set_option maxHeartbeats 2000000 in
theorem lupto (o : Option Addr) (n cap : Nat) (w : World) (hn : n ≤ maxLen) (hr : VRM w) (hs : Scr w o n) :
    Calls Tryz.prog 14 #[.slice o n cap, .int .i64 1, .int .i64 1] w fun e w' => e = .returned (.int .i64 (-1)) ∧ Below w.heap.size w w' := by
  have HR : Hid (VRM w) := hr
  have HS : Hid (Scr w o n) := hs
  unfold maxLen at hn
  clear hr hs
  have W0 : Hid (Below w.heap.size w (w.alloc (.cells #[.slice none 0 0, .slice none 0 0] 73))) := (Below.refl _ _).alloc (Nat.le_refl _) _
  have C0 : Hid ((w.alloc (.cells #[.slice none 0 0, .slice none 0 0] 73)).cell? ⟨w.heap.size, 1, none⟩ = some (.slice none 0 0)) := World.cell?_alloc_new _ _ _ _
  have S0 : Hid (w.heap.size < (w.alloc (.cells #[.slice none 0 0, .slice none 0 0] 73)).heap.size) := by show _ < _; simp
  go_enter Tryz.func14, Tryz.ntmps14
  go_wp2_with fail
  go_loopg [8] n (fun g u wr => ∃ i : Nat, u = .int .i64 i ∧ i + g = n ∧ Hid (Below w.heap.size w wr) ∧ Hid (wr.cell? ⟨w.heap.size, 1, none⟩ = some (.slice none 0 0)) ∧ Hid (w.heap.size < wr.heap.size))
  case atStart => exact ⟨0, rfl, by omega, W0.out, C0.out, S0.out⟩
  case round =>
    obtain ⟨i, rfl, hig, HB, HC, HZ⟩ := hrel
    by_cases hlt : i < n
    · obtain ⟨b, off, k, m, s, rfl, h1, h2, h3, h4, h5⟩ := (HS.out.below HB.out) i hlt
      obtain ⟨g, rfl⟩ : ∃ g, gk = g + 1 := ⟨gk - 1, by omega⟩
      have HQ : Hid (b < wr.heap.size) := h5
      have H4 : Hid (s.size ≤ maxLen) := h4
      clear h4 h5
      rcases Int.lt_trichotomy k 1 with hk | rfl | hk
      · go_wp2_with fail
        go_roundg g
        case measure => omega
        case rel => exact ⟨i + 1, by go_num, by omega, HB.out, HC.out, HZ.out⟩
      · go_wp2_with fail
        refine (lstep _ s m _ H4.out (HR.out.below HB.out)).mono ?_
        rintro r w1 ⟨rfl, hb1⟩
        have HB1 : Hid (Below w.heap.size w w1) := Below.than HB.out hb1
        have hc1 : w1.cell? ⟨w.heap.size, 1, none⟩ = some (.slice none 0 0) := (World.cell?_of_block (w := wr) (a := ⟨w.heap.size, 1, none⟩) (hb1.block _ HZ.out)).trans HC.out
        have HC1 : Hid (w1.cell? ⟨w.heap.size, 1, none⟩ = some (.slice none 0 0)) := hc1
        have HZ1 : Hid (w.heap.size < w1.heap.size) := Nat.lt_of_lt_of_le HZ.out hb1.size
        clear hb1 hc1 h1 h2 h3
        go_wp2_with fail
        refine (llooks _ _ HC1.out).mono ?_
        rintro r w2 ⟨rfl, rfl⟩
        go_wp2_with fail
        go_roundg g
        case measure => omega
        case rel => exact ⟨i + 1, by go_num, by omega, HB1.out, HC1.out, HZ1.out⟩
      · go_wp2_with fail
        go_roundg g
        case measure => omega
        case rel => exact ⟨i + 1, by go_num, by omega, HB.out, HC.out, HZ.out⟩
    · go_wp2_with fail
      go_ret
      exact ⟨rfl, HB.out⟩
end Go.Proofs.YtgnncnhkgmhngaaGreatDoor

namespace Go.Proofs.YtgnncnhkgmhngaaGreatDoor
open Go.RowKit

def OpsOk (xs : List Value) (n : Nat) : Prop := ∀ i, i < n → ∃ (k m : Int) (s : ByteArray), xs[i * 3]? = some (.int .i64 k) ∧ xs[i * 3 + 1]? = some (.int .i64 m) ∧ xs[i * 3 + 2]? = some (.string s) ∧ s.size ≤ maxLen

theorem OpsOk.push {xs : List Value} {n : Nat} (h : OpsOk xs n) (hl : xs.length = n * 3) (k m : Int) (s : ByteArray) (hs : s.size ≤ maxLen) : OpsOk (xs ++ [.int .i64 k, .int .i64 m, .string s]) (n + 1) := by
  intro i hi
  by_cases e : i = n
  · subst e
    refine ⟨k, m, s, ?_, ?_, ?_, hs⟩
    · rw [List.getElem?_append_right (by omega), show i * 3 - xs.length = 0 by omega]; rfl
    · rw [List.getElem?_append_right (by omega), show i * 3 + 1 - xs.length = 1 by omega]; rfl
    · rw [List.getElem?_append_right (by omega), show i * 3 + 2 - xs.length = 2 by omega]; rfl
  · obtain ⟨k', m', s', h1, h2, h3, h4⟩ := h i (by omega)
    exact ⟨k', m', s', by rw [List.getElem?_append_left (by omega)]; exact h1, by rw [List.getElem?_append_left (by omega)]; exact h2, by rw [List.getElem?_append_left (by omega)]; exact h3, h4⟩

/-- The example's own blocks: the texts; the steps so far. -/
structure EX (w : World) (arr : Array Value) (v : Value) (n : Nat) (wr : World) : Prop where
  bl : Below w.heap.size w wr
  sz : w.heap.size < wr.heap.size
  ar : wr.heap[w.heap.size]? = some (.cells arr 68 (0, 0))
  ow : ∃ xs, wr.ownsRow (w.heap.size + 1) 27 3 v n xs ∧ OpsOk xs n

theorem EX.alloc {w : World} {arr : Array Value} {v : Value} {n : Nat} {wr : World} (h : EX w arr v n wr) (o : Obj) : EX w arr v n (wr.alloc o) := by
  obtain ⟨xs, h1, h2⟩ := h.ow
  exact ⟨h.bl.alloc h.bl.size o, by have := h.sz; simp; omega, (Below.heap_alloc _ _ _ h.sz).trans h.ar, xs, h1.alloc o, h2⟩
theorem EX.base {w : World} {arr : Array Value} {v : Value} {n : Nat} {wr : World} (h : EX w arr v n wr) (o : Obj) : w.heap.size + 1 ≤ (wr.alloc o).heap.size := by have := h.sz; simp; omega
theorem EX.grow {w : World} {arr : Array Value} {v v' : Value} {n : Nat} {wr w' : World} {xs : List Value} (h : EX w arr v n wr) (hx : xs.length = n * 3) (hk : OpsOk xs n) (hv : ∀ g, v.ownBlock = some g → w.heap.size + 1 ≤ g) (k m : Int) (s : ByteArray) (hs : s.size ≤ maxLen) (hown : w'.ownsRow (w.heap.size + 1) 27 3 v' (n + 1) (xs ++ [.int .i64 k, .int .i64 m, .string s])) (hg : wr.grownBy w' v.ownBlock) : EX w arr v' (n + 1) w' := by
  have hb : ∀ j, j < w.heap.size + 1 → w'.heap[j]? = wr.heap[j]? := fun j hj => hg.block j (by have := h.sz; omega) (fun e => by have := hv j e.symm; omega)
  exact ⟨⟨hg.os.trans h.bl.os, hg.tape.trans h.bl.tape, hg.output.trans h.bl.output, Nat.le_trans h.bl.size hg.size, fun j hj => (hb j (by omega)).trans (h.bl.block j hj)⟩, Nat.lt_of_lt_of_le h.sz hg.size, (hb _ (by omega)).trans h.ar, _, hown, hk.push hx k m s hs⟩
theorem EX.scr {w : World} {arr : Array Value} {o : Option Addr} {n cap : Nat} {wr : World} (h : EX w arr (.slice o n cap) n wr) : Scr wr o n := by
  obtain ⟨xs, ⟨h1, h2⟩, h3⟩ := h.ow
  intro i hi
  obtain ⟨k, m, s, e1, e2, e3, e4⟩ := h3 i hi
  rcases h2 with ⟨_, hn⟩ | ⟨g, cp, cur, hv, hg, hc, _, _, _, ht⟩
  · omega
  · injection hv with hv1 _ _
    have hlt : g < wr.heap.size := by
      rcases Nat.lt_or_ge g wr.heap.size with x | x
      · exact x
      · rw [Array.getElem?_eq_none x] at hc; cases hc
    have hcell : ∀ j, j < n * 3 → wr.cell? ⟨g, 0 + j, none⟩ = xs[j]? := by
      intro j hj
      rw [← ht, List.getElem?_take_of_lt hj]
      simp [World.cell?, hc]
    exact ⟨g, 0, k, m, s, hv1, (hcell _ (by omega)).trans e1, by rw [Nat.add_assoc]; exact (hcell _ (by omega)).trans e2, by rw [Nat.add_assoc]; exact (hcell _ (by omega)).trans e3, e4, hlt⟩
theorem EX.text {w : World} {arr : Array Value} {v : Value} {n : Nat} {wr : World} (h : EX w arr v n wr) (i : Nat) {u : Value} (hu : arr[i]? = some u) : wr.cell? ⟨w.heap.size, i, none⟩ = some u := by
  simp [World.cell?, h.ar, hu]
theorem Tryz.info27 : (Tryz.prog.info? 27).map (fun i => (i.zero, i.size, i.bytes)) = some (some (.agg #[.int .i64 0, .int .i64 0, .string ⟨#[]⟩]), 3, 32) := by kernel_rfl
theorem oneO (a c : Int) (s : ByteArray) : ∀ u ∈ [Value.int .i64 a, .int .i64 c, .string s], u.oneCell' = true := by
  intro u hu
  simp only [List.mem_cons, List.not_mem_nil, or_false] at hu
  rcases hu with rfl | rfl | rfl <;> rfl
theorem room0 {j : Nat} (h : j ≤ 100) : j ≤ maxLen := by unfold maxLen; omega
theorem room1 {j : Nat} (h : j ≤ 100) : j + 1 ≤ maxLen := by unfold maxLen; omega
theorem room2 {j : Nat} (h : j ≤ 100) : j + 1 + 1 ≤ maxLen := by unfold maxLen; omega
theorem room3 {j : Nat} (h : j ≤ 100) : (j + 1) * 32 ≤ 140737488355328 := by omega
theorem room4 {j : Nat} (h : j ≤ 100) : (j + 1 + 1) * 32 ≤ 140737488355328 := by omega
theorem EX.start (w : World) (arr : Array Value) : EX w arr (.slice (some ⟨w.heap.size + 1, 0, none⟩) 1 1) 1 ((w.alloc (.cells arr 68)).alloc (.cells #[.int .i64 2, .int .i64 0, .string ⟨#[]⟩] 27)) := by
  refine ⟨((Below.refl _ _).alloc (Nat.le_refl _) _).alloc (by simp) _, by simp; omega, ?_, [.int .i64 2, .int .i64 0, .string ⟨#[]⟩], ⟨rfl, Or.inr ⟨w.heap.size + 1, 1, #[.int .i64 2, .int .i64 0, .string ⟨#[]⟩], rfl, Nat.le_refl _, ?_, Nat.le_refl _, by decide, rfl, rfl⟩⟩, ?_⟩
  · rw [Below.heap_alloc _ _ _ (by simp)]; exact heap_alloc_new _ _
  · have := heap_alloc_new (w.alloc (.cells arr 68)) (.cells #[.int .i64 2, .int .i64 0, .string ⟨#[]⟩] 27)
    rw [World.size_alloc] at this
    exact this
  · intro i hi
    obtain rfl : i = 0 := by omega
    exact ⟨2, 0, ⟨#[]⟩, rfl, rfl, rfl, by decide⟩

set_option maxRecDepth 100000 in
set_option maxHeartbeats 600000 in
theorem lexample (w : World) (hr : VRM w) :
    Calls Tryz.prog 13 #[.int .i64 1, .int .i64 1] w fun e w' => e = .returned (.bool true) ∧ Below w.heap.size w w' := by
  have HR : Hid (VRM w) := hr
  clear hr
  obtain ⟨i0, hi, hz0, hz1, hz2⟩ := info_parts Tryz.info27
  go_enter Tryz.func13, Tryz.ntmps13
  go_wp2_with fail
  generalize hA : (#[_, _, _, _, _, _, _, _, _, _, _] : Array Value) = arr
  have HA : Hid (∀ i, i < 11 → ∃ s : ByteArray, arr[i]? = some (.string s) ∧ s.size ≤ maxLen) := by
    subst hA
    intro i hi
    match i, hi with
    | 0, _ => exact ⟨_, rfl, by decide⟩
    | 1, _ => exact ⟨_, rfl, by decide⟩
    | 2, _ => exact ⟨_, rfl, by decide⟩
    | 3, _ => exact ⟨_, rfl, by decide⟩
    | 4, _ => exact ⟨_, rfl, by decide⟩
    | 5, _ => exact ⟨_, rfl, by decide⟩
    | 6, _ => exact ⟨_, rfl, by decide⟩
    | 7, _ => exact ⟨_, rfl, by decide⟩
    | 8, _ => exact ⟨_, rfl, by decide⟩
    | 9, _ => exact ⟨_, rfl, by decide⟩
    | 10, _ => exact ⟨_, rfl, by decide⟩
  clear hA
  have HX : Hid (EX w arr (.slice (some ⟨w.heap.size + 1, 0, none⟩) 1 1) 1 ((w.alloc (.cells arr 68)).alloc (.cells #[.int .i64 2, .int .i64 0, .string ⟨#[]⟩] 27))) := EX.start w arr
  generalize Value.agg arr = va
  go_loopg [6, 7] 11 (fun g u6 u7 wr => ∃ (i j cap : Nat) (o : Option Addr), i + g = 11 ∧ Hid (j = 1 + 2 * i) ∧ u6 = .slice o j cap ∧ u7 = .int .i64 i ∧ Hid (EX w arr (.slice o j cap) j wr))
  case atStart => exact ⟨0, 1, _, _, by omega, rfl, rfl, rfl, HX.out⟩
  case round =>
    obtain ⟨i, j, cap, o, hig, HJ, rfl, rfl, HE⟩ := hrel
    have hj : j ≤ 100 := by have := HJ.out; omega
    by_cases hlt : i < 11
    · obtain ⟨g, rfl⟩ : ∃ g, gk = g + 1 := ⟨gk - 1, by omega⟩
      have HG : Hid (i + 1 + g = 11) := by show _ = _; omega
      have HJ2 : Hid (j + 1 + 1 = 1 + 2 * (i + 1)) := by show _ = _; have := HJ.out; omega
      have hbywx := room3 hj
      have hbywy := room4 hj
      have h63wx := room1 hj
      have h63wy := room2 hj
      obtain ⟨s, hs1, hs2⟩ := HA.out i hlt
      have HT : Hid (s.size ≤ maxLen) := hs2
      have HS1 : Hid (arr[i]? = some (.string s)) := hs1
      have ct := HE.out.text i hs1
      clear hs1 hs2
      obtain ⟨xswx, hxowx, hxkwx⟩ := (HE.out.alloc (.cells #[.int .i64 1, .int .i64 0, .string s] 27)).ow
      have HOwx : Hid ((wr.alloc (.cells #[.int .i64 1, .int .i64 0, .string s] 27)).ownsRow (w.heap.size + 1) 27 3 (.slice o j cap) (j) xswx ∧ OpsOk xswx (j) ∧ EX w arr (.slice o j cap) (j) (wr.alloc (.cells #[.int .i64 1, .int .i64 0, .string s] 27))) := ⟨hxowx, hxkwx, HE.out.alloc _⟩
      clear hxowx hxkwx
      have hbswx : w.heap.size + 1 ≤ (wr.alloc (.cells #[.int .i64 1, .int .i64 0, .string s] 27)).heap.size := HE.out.base _
      go_wp2_with (first | (at_builtin; refine wpList_append_lies _ rfl (.tmp 22) (.tmp 27) 22 rfl (w.heap.size + 1) 27 i0 (.agg #[.int .i64 0, .int .i64 0, .string ⟨#[]⟩]) 3 32 Tryz.underlying22 hi hz0 hz1 hz2 rfl (by decide) (.slice (some ⟨gwx, 0, none⟩) (j + 1) capwx) (j + 1) xswy rfl HOwy.out.1 ⟨wx.heap.size, 0, none⟩ 1 1 [.int .i64 3, .int .i64 0, .string s] rfl rfl (news1 _ _ _) (oneO _ _ _) (by decide) h63wy hbywy hbswy _ rfl ?_; intro gwy capwy wy hown hgrow hat hlt; have HE2 : Hid (EX w arr (.slice (some ⟨gwy, 0, none⟩) (j + 1 + 1) capwy) (j + 1 + 1) wy) := HOwy.out.2.2.grow HOwy.out.1.1 HOwy.out.2.1 (fun g h => (owns_block HOwy.out.1 g h).1) _ _ _ HT.out hown hgrow; clear hown hgrow hat hlt; clear ct) | (at_builtin; refine wpList_append_lies _ rfl (.tmp 15) (.tmp 20) 22 rfl (w.heap.size + 1) 27 i0 (.agg #[.int .i64 0, .int .i64 0, .string ⟨#[]⟩]) 3 32 Tryz.underlying22 hi hz0 hz1 hz2 rfl (by decide) (.slice o j cap) (j) xswx rfl HOwx.out.1 ⟨wr.heap.size, 0, none⟩ 1 1 [.int .i64 1, .int .i64 0, .string s] rfl rfl (news1 _ _ _) (oneO _ _ _) (by decide) h63wx hbywx hbswx _ rfl ?_; intro gwx capwx wx hown hgrow hat hlt; have HE1 : Hid (EX w arr (.slice (some ⟨gwx, 0, none⟩) (j + 1) capwx) (j + 1) wx) := HOwx.out.2.2.grow HOwx.out.1.1 HOwx.out.2.1 (fun g h => (owns_block HOwx.out.1 g h).1) _ _ _ HT.out hown hgrow; clear hown hgrow hat hlt; clear ct; have ct := HE1.out.text i HS1.out; obtain ⟨xswy, hxowy, hxkwy⟩ := (HE1.out.alloc (.cells #[.int .i64 3, .int .i64 0, .string s] 27)).ow; have HOwy : Hid ((wx.alloc (.cells #[.int .i64 3, .int .i64 0, .string s] 27)).ownsRow (w.heap.size + 1) 27 3 (.slice (some ⟨gwx, 0, none⟩) (j + 1) capwx) (j + 1) xswy ∧ OpsOk xswy (j + 1) ∧ EX w arr (.slice (some ⟨gwx, 0, none⟩) (j + 1) capwx) (j + 1) (wx.alloc (.cells #[.int .i64 3, .int .i64 0, .string s] 27))) := ⟨hxowy, hxkwy, HE1.out.alloc _⟩; clear hxowy hxkwy; have hbswy : w.heap.size + 1 ≤ (wx.alloc (.cells #[.int .i64 3, .int .i64 0, .string s] 27)).heap.size := HE1.out.base _))
      go_roundg g
      case measure => exact Nat.lt_succ_self _
      case rel => exact ⟨i + 1, j + 1 + 1, _, _, HG.out, HJ2.out, rfl, by go_num, HE2.out⟩
    · have HN : Hid (j ≤ maxLen) := room0 hj
      go_wp2_with fail
      refine (lupto o j cap _ HN.out (HR.out.below HE.out.bl) HE.out.scr).mono ?_
      rintro r w2 ⟨rfl, hb2⟩
      have HB2 : Hid (Below w.heap.size w w2) := Below.than HE.out.bl hb2
      clear hb2
      go_wp2_with fail
      go_ret
      exact ⟨rfl, HB2.out⟩

set_option maxHeartbeats 2000000 in
theorem lparses (o : Option Addr) (n cap : Nat) (w : World) (hn : n ≤ maxLen) (hr : VRM w) (hs : Scr w o n) :
    Calls Tryz.prog 3 #[.slice o n cap] w fun e w' => e = .returned (.bool true) ∧ Below w.heap.size w w' := by
  have HR : Hid (VRM w) := hr
  have HS : Hid (Scr w o n) := hs
  have HN : Hid (n ≤ maxLen) := hn
  clear hr hs hn
  go_enter Tryz.func3, Tryz.ntmps3
  go_wp2_with fail
  refine (lexample _ HR.out).mono ?_
  rintro r w1 ⟨rfl, hb1⟩
  have HB1 : Hid (Below w.heap.size w w1) := hb1
  clear hb1
  go_wp2_with fail
  refine (lupto o n cap _ HN.out (HR.out.below HB1.out) (HS.out.below HB1.out)).mono ?_
  rintro r w2 ⟨rfl, hb2⟩
  have HB2 : Hid (Below w.heap.size w w2) := Below.than HB1.out hb2
  clear hb2
  go_wp2_with fail
  go_ret
  exact ⟨rfl, HB2.out⟩
end Go.Proofs.YtgnncnhkgmhngaaGreatDoor
