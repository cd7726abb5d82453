import Derived.Test.YtpgeiieapkbjhaaGreatDoorA2
import Derived.Deep.QuietTactic
import Derived.BigQuiet
import Derived.Deep.RegionWith
namespace Go.Proofs.YtpgeiieapkbjhaaGreatDoor
open Go.RowKit

/-- Of what was there nothing but block b has turned. -/
structure Kept (b : Nat) (w w' : World) : Prop where
  os : w'.os = w.os
  tape : w'.tape = w.tape
  output : w'.output = w.output
  size : w.heap.size ≤ w'.heap.size
  block : ∀ k, k < w.heap.size → k ≠ b → w'.heap[k]? = w.heap[k]?

theorem Kept.refl (b : Nat) (w : World) : Kept b w w := ⟨rfl, rfl, rfl, Nat.le_refl _, fun _ _ _ => rfl⟩
theorem Kept.trans {b : Nat} {x y z : World} (h : Kept b x y) (k : Kept b y z) : Kept b x z :=
  ⟨k.os.trans h.os, k.tape.trans h.tape, k.output.trans h.output, Nat.le_trans h.size k.size, fun i hi hb => (k.block i (Nat.lt_of_lt_of_le hi h.size) hb).trans (h.block i hi hb)⟩
theorem Kept.below {b : Nat} {w w' : World} (h : Below w.heap.size w w') : Kept b w w' := ⟨h.os, h.tape, h.output, h.size, fun k hk _ => h.block k hk⟩
theorem Kept.drew {b : Nat} {a w : World} (h : Kept b a w) : Kept b a w.drew := ⟨h.os, h.tape, h.output, h.size, h.block⟩
theorem Kept.drewN {b : Nat} {a w : World} (h : Kept b a w) (n : Nat) : Kept b a (w.drewN n) := h.trans ⟨rfl, rfl, rfl, Nat.le_refl _, fun _ _ _ => rfl⟩
theorem Kept.alloc {b : Nat} {a w : World} (h : Kept b a w) (o : Obj) : Kept b a (w.alloc o) :=
  h.trans ⟨rfl, rfl, rfl, by simp, fun k hk _ => Below.heap_alloc _ _ _ hk⟩
theorem Kept.setCell {b : Nat} {a w : World} (h : Kept b a w) (o : Nat) (u : Value) : Kept b a (w.setCell ⟨b, o, none⟩ u) :=
  h.trans ⟨rfl, rfl, rfl, by simp [World.setCell], fun k _ hb => Below.heap_setCell _ _ _ _ hb⟩
theorem Kept.cell {b : Nat} {w w' : World} (h : Kept b w w') {p : Addr} (hp : p.block < w.heap.size) (hb : p.block ≠ b) : w'.cell? p = w.cell? p := World.cell?_of_block (w := w) (h.block p.block hp hb)
theorem Kept.frozen {b : Nat} {w w' : World} (h : Kept b w w') {p : Addr} (hp : p.block < w.heap.size) (hb : p.block ≠ b) : w'.frozen? p = w.frozen? p := World.frozen?_of_block (w := w) (h.block p.block hp hb)
/-- A block of one's own (from the heap's size on) may turn too. -/
theorem Kept.setNew {b : Nat} {a w : World} (h : Kept b a w) {p : Addr} (hp : a.heap.size ≤ p.block) (u : Value) : Kept b a (w.setCell p u) :=
  ⟨h.os, h.tape, h.output, by simpa [World.setCell] using h.size, fun k hk hb => (Below.heap_setCell _ _ _ _ (by omega)).trans (h.block k hk hb)⟩

theorem any_hit (zs : List ByteArray) (x : ByteArray) (k : Nat) (h : k < zs.length) (e : (x.toList == zs[k].toList) = true) : zs.any (fun z => x.toList == z.toList) = true :=
  List.any_eq_true.2 ⟨zs[k], List.getElem_mem h, e⟩
theorem any_miss (zs : List ByteArray) (x : ByteArray) (h : ∀ j, (hj : j < zs.length) → (x.toList == zs[j].toList) = false) : zs.any (fun z => x.toList == z.toList) = false := by
  rw [List.any_eq_false]
  intro z hz
  obtain ⟨j, hj, rfl⟩ := List.getElem_of_mem hz
  simp [h j hj]

/-- Is a word one of these? -/
def oneOf (zs : List ByteArray) (x : ByteArray) : Bool := zs.any (fun z => x.toList == z.toList)

set_option maxHeartbeats 1000000 in
theorem index_any (b off n c : Nat) (zs : List ByteArray) (x : ByteArray) (w : World) (hz : n = zs.length) (hbig : n ≤ 1000) (hc : ∀ j, (h : j < zs.length) → w.cell? ⟨b, off + j, none⟩ = some (.string zs[j])) :
    Calls Tryz.prog 136 #[.slice (some ⟨b, off, none⟩) n c, .string x] w fun e w' => (∃ q : Int, e = .returned (.int .i64 q) ∧ (decide (0 ≤ q)) = oneOf zs x) ∧ w' = w := by
  have HC : Hid (∀ j, (h : j < zs.length) → w.cell? ⟨b, off + j, none⟩ = some (.string zs[j])) := hc
  clear hc
  have HZ : Hid (n = zs.length) := hz
  clear hz
  go_enter Tryz.func136, Tryz.ntmps136
  go_wp2
  go_loop [8] (fun i => ∃ k : Nat, k ≤ n ∧ i = .int .i64 k ∧ Hid (∀ j, j < k → (hj : j < zs.length) → (x.toList == zs[j].toList) = false)) (fun i => n - (intOf i).toNat)
  case atStart => exact ⟨0, Nat.zero_le _, rfl, fun j hj => absurd hj (Nat.not_lt_zero _)⟩
  case round =>
    obtain ⟨k, hk, rfl, HR⟩ := hrel
    by_cases hlt : k < n
    · have hkz : k < zs.length := by have := HZ.out; omega
      have hcell := HC.out k hkz
      cases he : (x.toList == zs[k].toList)
      · go_wp2
        go_round
        case rel => exact ⟨k + 1, by omega, by go_num, fun j hj hj' => by
          by_cases e : j = k
          · subst e; exact he
          · exact HR.out j (by omega) hj'⟩
        case measure => simp [intOf]; omega
      · have HV : Hid (oneOf zs x = true) := any_hit zs x k hkz he
        go_wp2
        go_ret
        exact ⟨⟨_, rfl, by rw [HV.out]; simp⟩, rfl⟩
    · have HV : Hid (oneOf zs x = false) := any_miss zs x fun j hj => HR.out j (by have := HZ.out; omega) hj
      go_wp2
      go_ret
      exact ⟨⟨_, rfl, by rw [HV.out]; simp⟩, rfl⟩

set_option maxHeartbeats 1000000 in
theorem contains_any (b off n c : Nat) (zs : List ByteArray) (x : ByteArray) (w : World) (hz : n = zs.length) (hbig : n ≤ 1000) (hc : ∀ j, (h : j < zs.length) → w.cell? ⟨b, off + j, none⟩ = some (.string zs[j])) :
    Calls Tryz.prog 125 #[.slice (some ⟨b, off, none⟩) n c, .string x] w fun e w' => e = .returned (.bool (oneOf zs x)) ∧ w' = w := by
  have H : Hid (∀ w', w' = w → Calls Tryz.prog 136 #[.slice (some ⟨b, off, none⟩) n c, .string x] w' fun e w'' => (∃ q : Int, e = .returned (.int .i64 q) ∧ (decide (0 ≤ q)) = oneOf zs x) ∧ w'' = w') := fun w' e => by subst e; exact index_any b off n c zs x w' hz hbig hc
  clear hz hc
  go_enter Tryz.func125, Tryz.ntmps125
  go_wp2_with fail
  refine (H.out _ rfl).mono ?_
  rintro e w' ⟨⟨q, rfl, hq⟩, rfl⟩
  have HQ : Hid (decide (0 ≤ q) = oneOf zs x) := hq
  clear hq
  go_wp2_with fail
  go_ret
  exact ⟨ret_bool HQ.out, rfl⟩

set_option maxHeartbeats 1000000 in
theorem is_prog (b off n c : Nat) (zs : List ByteArray) (x : ByteArray) (k a : Int) (w : World) (hz : n = zs.length) (hbig : n ≤ 1000) (hb : b < w.heap.size) (hc : ∀ j, (h : j < zs.length) → w.cell? ⟨b, off + j, none⟩ = some (.string zs[j])) :
    Calls Tryz.prog 114 #[.agg #[.int .i64 k, .int .i64 a, .string x], .slice (some ⟨b, off, none⟩) n c] w fun e w' => e = .returned (.bool (oneOf zs x)) ∧ w' = w.alloc (.cells #[.int .i64 k, .int .i64 a, .string x] 128) := by
  have H : Hid (∀ o, Calls Tryz.prog 125 #[.slice (some ⟨b, off, none⟩) n c, .string x] (w.alloc o) fun e w'' => e = .returned (.bool (oneOf zs x)) ∧ w'' = w.alloc o) := fun o => contains_any b off n c zs x (w.alloc o) hz hbig (fun j h => (World.cell?_alloc_lt _ _ _ hb).trans (hc j h))
  clear hz hc
  go_enter Tryz.func114, Tryz.ntmps114
  go_wp2_with fail
  refine (H.out _).mono ?_
  rintro e w' ⟨rfl, rfl⟩
  go_wp2_with fail
  go_ret
  exact ⟨rfl, rfl⟩
end Go.Proofs.YtpgeiieapkbjhaaGreatDoor
