import Derived.Test.YtpgeiieapkbjhaaGreatDoorA7
namespace Go.Proofs.YtpgeiieapkbjhaaGreatDoor
open Go.RowKit

def keyBs : List Sp.Bs := Sp.keys ++ [[], [], [], [], [], [], []]
def keyCells : Array Value := (keyBs.map fun z => Value.string (bz z)).toArray

theorem keys_some (a : Act) : (Tryz.prog.built 157 ((#[(0, Operand.const (Value.string ⟨#[97, 108, 108]⟩)), (1, Operand.const (Value.string ⟨#[97, 110, 100]⟩)), (2, Operand.const (Value.string ⟨#[98, 101, 103, 105, 110]⟩)), (3, Operand.const (Value.string ⟨#[98, 111, 111, 108]⟩)), (4, Operand.const (Value.string ⟨#[99, 97, 115, 101]⟩)), (5, Operand.const (Value.string ⟨#[99, 111, 97, 108, 101, 115, 99, 101]⟩)), (6, Operand.const (Value.string ⟨#[99, 111, 109, 109, 105, 116]⟩)), (7, Operand.const (Value.string ⟨#[99, 114, 101, 97, 116, 101]⟩)), (8, Operand.const (Value.string ⟨#[100, 101, 108, 101, 116, 101]⟩)), (9, Operand.const (Value.string ⟨#[100, 105, 115, 116, 105, 110, 99, 116]⟩)), (10, Operand.const (Value.string ⟨#[100, 114, 111, 112]⟩)), (11, Operand.const (Value.string ⟨#[101, 108, 115, 101]⟩)), (12, Operand.const (Value.string ⟨#[101, 110, 100]⟩)), (13, Operand.const (Value.string ⟨#[101, 120, 99, 101, 112, 116]⟩)), (14, Operand.const (Value.string ⟨#[101, 120, 105, 115, 116, 115]⟩)), (15, Operand.const (Value.string ⟨#[102, 97, 108, 115, 101]⟩)), (16, Operand.const (Value.string ⟨#[102, 114, 111, 109]⟩)), (17, Operand.const (Value.string ⟨#[105, 110]⟩)), (18, Operand.const (Value.string ⟨#[105, 110, 115, 101, 114, 116]⟩)), (19, Operand.const (Value.string ⟨#[105, 110, 116]⟩)), (20, Operand.const (Value.string ⟨#[105, 110, 116, 101, 114, 115, 101, 99, 116]⟩)), (21, Operand.const (Value.string ⟨#[105, 110, 116, 111]⟩)), (22, Operand.const (Value.string ⟨#[105, 115]⟩)), (23, Operand.const (Value.string ⟨#[110, 111, 116]⟩)), (24, Operand.const (Value.string ⟨#[110, 117, 108, 108]⟩)), (25, Operand.const (Value.string ⟨#[111, 114]⟩)), (26, Operand.const (Value.string ⟨#[114, 111, 108, 108, 98, 97, 99, 107]⟩)), (27, Operand.const (Value.string ⟨#[115, 101, 108, 101, 99, 116]⟩)), (28, Operand.const (Value.string ⟨#[115, 101, 116]⟩)), (29, Operand.const (Value.string ⟨#[116, 97, 98, 108, 101]⟩)), (30, Operand.const (Value.string ⟨#[116, 101, 120, 116]⟩)), (31, Operand.const (Value.string ⟨#[116, 104, 101, 110]⟩)), (32, Operand.const (Value.string ⟨#[116, 114, 117, 101]⟩)), (33, Operand.const (Value.string ⟨#[117, 110, 105, 111, 110]⟩)), (34, Operand.const (Value.string ⟨#[117, 112, 100, 97, 116, 101]⟩)), (35, Operand.const (Value.string ⟨#[118, 97, 108, 117, 101, 115]⟩)), (36, Operand.const (Value.string ⟨#[119, 104, 101, 110]⟩)), (37, Operand.const (Value.string ⟨#[119, 104, 101, 114, 101]⟩)), (38, Operand.const (Value.string ⟨#[]⟩)), (39, Operand.const (Value.string ⟨#[]⟩)), (40, Operand.const (Value.string ⟨#[]⟩)), (41, Operand.const (Value.string ⟨#[]⟩)), (42, Operand.const (Value.string ⟨#[]⟩)), (43, Operand.const (Value.string ⟨#[]⟩)), (44, Operand.const (Value.string ⟨#[]⟩))] : Array (Nat × Operand)).map fun (i, x) => (i, a.eval x)).toList).isSome = true := by kernel_rfl
theorem keys_built (a : Act) : (Tryz.prog.built 157 ((#[(0, Operand.const (Value.string ⟨#[97, 108, 108]⟩)), (1, Operand.const (Value.string ⟨#[97, 110, 100]⟩)), (2, Operand.const (Value.string ⟨#[98, 101, 103, 105, 110]⟩)), (3, Operand.const (Value.string ⟨#[98, 111, 111, 108]⟩)), (4, Operand.const (Value.string ⟨#[99, 97, 115, 101]⟩)), (5, Operand.const (Value.string ⟨#[99, 111, 97, 108, 101, 115, 99, 101]⟩)), (6, Operand.const (Value.string ⟨#[99, 111, 109, 109, 105, 116]⟩)), (7, Operand.const (Value.string ⟨#[99, 114, 101, 97, 116, 101]⟩)), (8, Operand.const (Value.string ⟨#[100, 101, 108, 101, 116, 101]⟩)), (9, Operand.const (Value.string ⟨#[100, 105, 115, 116, 105, 110, 99, 116]⟩)), (10, Operand.const (Value.string ⟨#[100, 114, 111, 112]⟩)), (11, Operand.const (Value.string ⟨#[101, 108, 115, 101]⟩)), (12, Operand.const (Value.string ⟨#[101, 110, 100]⟩)), (13, Operand.const (Value.string ⟨#[101, 120, 99, 101, 112, 116]⟩)), (14, Operand.const (Value.string ⟨#[101, 120, 105, 115, 116, 115]⟩)), (15, Operand.const (Value.string ⟨#[102, 97, 108, 115, 101]⟩)), (16, Operand.const (Value.string ⟨#[102, 114, 111, 109]⟩)), (17, Operand.const (Value.string ⟨#[105, 110]⟩)), (18, Operand.const (Value.string ⟨#[105, 110, 115, 101, 114, 116]⟩)), (19, Operand.const (Value.string ⟨#[105, 110, 116]⟩)), (20, Operand.const (Value.string ⟨#[105, 110, 116, 101, 114, 115, 101, 99, 116]⟩)), (21, Operand.const (Value.string ⟨#[105, 110, 116, 111]⟩)), (22, Operand.const (Value.string ⟨#[105, 115]⟩)), (23, Operand.const (Value.string ⟨#[110, 111, 116]⟩)), (24, Operand.const (Value.string ⟨#[110, 117, 108, 108]⟩)), (25, Operand.const (Value.string ⟨#[111, 114]⟩)), (26, Operand.const (Value.string ⟨#[114, 111, 108, 108, 98, 97, 99, 107]⟩)), (27, Operand.const (Value.string ⟨#[115, 101, 108, 101, 99, 116]⟩)), (28, Operand.const (Value.string ⟨#[115, 101, 116]⟩)), (29, Operand.const (Value.string ⟨#[116, 97, 98, 108, 101]⟩)), (30, Operand.const (Value.string ⟨#[116, 101, 120, 116]⟩)), (31, Operand.const (Value.string ⟨#[116, 104, 101, 110]⟩)), (32, Operand.const (Value.string ⟨#[116, 114, 117, 101]⟩)), (33, Operand.const (Value.string ⟨#[117, 110, 105, 111, 110]⟩)), (34, Operand.const (Value.string ⟨#[117, 112, 100, 97, 116, 101]⟩)), (35, Operand.const (Value.string ⟨#[118, 97, 108, 117, 101, 115]⟩)), (36, Operand.const (Value.string ⟨#[119, 104, 101, 110]⟩)), (37, Operand.const (Value.string ⟨#[119, 104, 101, 114, 101]⟩)), (38, Operand.const (Value.string ⟨#[]⟩)), (39, Operand.const (Value.string ⟨#[]⟩)), (40, Operand.const (Value.string ⟨#[]⟩)), (41, Operand.const (Value.string ⟨#[]⟩)), (42, Operand.const (Value.string ⟨#[]⟩)), (43, Operand.const (Value.string ⟨#[]⟩)), (44, Operand.const (Value.string ⟨#[]⟩))] : Array (Nat × Operand)).map fun (i, x) => (i, a.eval x)).toList).getD #[] = keyCells := by kernel_rfl
theorem keys_size : (Tryz.prog.info? 157).map (·.size) = some keyCells.size := by kernel_rfl
theorem keys_one : keyCells.all (·.oneCell') = true := by decide +kernel
theorem keys_at (k : Nat) (h : k < 45) : ∃ z, keyBs[k]? = some z ∧ keyCells[k]? = some (.string (bz z)) := by
  have hl : k < keyBs.length := h
  exact ⟨keyBs[k], List.getElem?_eq_getElem hl, by simp [keyCells, hl]⟩

theorem keyRow (w : World) (Z : Obj) (hZ : ∃ cs : Array Value, Z = .cells cs 157 ∧ cs.size = 45) : Below w.heap.size w ((w.alloc Z).setRow w.heap.size keyCells) ∧ ∀ k, ((w.alloc Z).setRow w.heap.size keyCells).cell? ⟨w.heap.size, k, none⟩ = keyCells[k]? := by
  obtain ⟨cs, rfl, _⟩ := hZ
  have hg := heap_alloc_new w (.cells cs 157)
  refine ⟨((Below.refl _ _).alloc (Nat.le_refl _) (.cells cs 157)).trans ⟨rfl, rfl, rfl, by simp [World.setRow], fun k hk => ?_⟩, fun k => cell_of_row _ _ _ _ _ _ (setRow_heap _ _ _ _ _ _ hg)⟩
  simp only [World.setRow, Array.getElem?_modify]
  rw [if_neg (by omega)]

theorem keyBs_mem : ∀ z ∈ keyBs, z = [] ∨ Sp.keys.contains z = true := by decide +kernel
theorem keyBs_has : ∀ z ∈ Sp.keys, ∃ j, j < 45 ∧ keyBs[j]? = some z := by
  intro z hz
  obtain ⟨j, hj, rfl⟩ := List.getElem_of_mem hz
  have h38 : Sp.keys.length = 38 := rfl
  exact ⟨j, by omega, by rw [keyBs, List.getElem?_append_left hj, List.getElem?_eq_getElem hj]⟩
theorem keys_nonempty : ∀ z ∈ Sp.keys, z ≠ [] := by decide +kernel

theorem key_hit {k : Nat} {z : Sp.Bs} {t : Sp.Bs} (h : keyBs[k]? = some z) (h1 : (z == t) = true) (h2 : t.isEmpty = false) : isKy t = true := by
  have e := eq_of_beq h1
  subst e
  rcases keyBs_mem z (List.mem_of_getElem? h) with rfl | h
  · simp at h2
  · exact h
theorem key_miss {t : Sp.Bs} (h : ∀ j z, j < 45 → keyBs[j]? = some z → (z == t && z != []) = false) : isKy t = false := by
  cases hk : isKy t
  · rfl
  · exfalso
    have hm : t ∈ Sp.keys := by unfold isKy at hk; simpa using hk
    obtain ⟨j, hj, hz⟩ := keyBs_has t hm
    have := h j t hj hz
    have hn := keys_nonempty t hm
    simp [hn] at this

set_option maxRecDepth 100000 in
set_option maxHeartbeats 1000000 in
theorem isKey_any (s : ByteArray) (w : World) :
    Calls Tryz.prog 68 #[.string s] w fun e w' => e = .returned (.bool (isKy s.toList)) ∧ Below w.heap.size w w' := by
  go_enter Tryz.func68, Tryz.ntmps68
  go_wp2_with (first | (refine wpList_build rfl 157 _ rfl (keys_some _) ?_; rw [keys_built]) | (refine wpList_store_row rfl 157 (.tmp 3) (.tmp 5) rfl w.heap.size keyCells rfl rfl 157 _ (heap_alloc_new _ _) keys_size rfl keys_one ?_))
  generalize hZ : (Obj.cells #[_, _, _, _, _, _, _, _, _, _, _, _, _, _, _, _, _, _, _, _, _, _, _, _, _, _, _, _, _, _, _, _, _, _, _, _, _, _, _, _, _, _, _, _, _] 157) = Z
  have hW := keyRow w Z (by rw [← hZ]; exact ⟨_, rfl, rfl⟩)
  generalize ((w.alloc Z).setRow w.heap.size keyCells) = W at *
  clear hZ
  have HB : Hid (Below w.heap.size w W) := hW.1
  have HC : Hid (∀ k, W.cell? ⟨w.heap.size, k, none⟩ = keyCells[k]?) := hW.2
  clear hW
  go_loop [4] (fun i => ∃ k : Nat, k ≤ 45 ∧ i = .int .i64 k ∧ Hid (∀ j z, j < k → keyBs[j]? = some z → (z == s.toList && z != []) = false)) (fun i => 45 - (intOf i).toNat)
  case atStart => exact ⟨0, by omega, rfl, fun j z hj => absurd hj (Nat.not_lt_zero _)⟩
  case round =>
    obtain ⟨k, hk, rfl, HR⟩ := hrel
    by_cases hlt : k < 45
    · obtain ⟨z, hz1, hz2⟩ := keys_at k hlt
      have hc := (HC.out k).trans hz2
      have HZ1 : Hid (keyBs[k]? = some z) := hz1
      have hbz : (bz z).toList = z := bz_toList z
      clear hz1 hz2
      cases h1 : (z == s.toList)
      · go_wp2_with fail
        go_round
        case rel => exact ⟨k + 1, by omega, by go_num, fun j y hj hy => by
          by_cases e : j = k
          · subst e
            rw [HZ1.out] at hy; cases hy
            rw [h1]; rfl
          · exact HR.out j y (by omega) hy⟩
        case measure => simp [intOf]; omega
      · cases h2 : s.toList.isEmpty
        · have HV : Hid (isKy s.toList = true) := key_hit HZ1.out h1 h2
          go_wp2_with fail
          go_ret
          exact ⟨ret_bool HV.out.symm, HB.out⟩
        · go_wp2_with fail
          go_round
          case rel => exact ⟨k + 1, by omega, by go_num, fun j y hj hy => by
            by_cases e : j = k
            · subst e
              rw [HZ1.out] at hy; cases hy
              have : z = [] := by rw [eq_of_beq h1]; simpa using h2
              rw [this]; simp
            · exact HR.out j y (by omega) hy⟩
          case measure => simp [intOf]; omega
    · have HV : Hid (isKy s.toList = false) := key_miss (fun j z hj hz => HR.out j z (by omega) hz)
      go_wp2_with fail
      go_ret
      exact ⟨ret_bool HV.out.symm, HB.out⟩
end Go.Proofs.YtpgeiieapkbjhaaGreatDoor
