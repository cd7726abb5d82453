import Derived.Test.YtgnncnhkgmhngaaGreatDoorRx
namespace Go.Proofs.YtgnncnhkgmhngaaGreatDoor
open Go.RowKit

def keyBs : List Sp.Bs := Sp.keys ++ [[], [], [], [], [], [], []]
def keyCells : Array Value := (keyBs.map fun z => Value.string (bz z)).toArray

theorem keys_some (a : Act) : (Tryz.prog.built 301 ((#[(0, Operand.const (Value.string ⟨#[97, 108, 108]⟩)), (1, Operand.const (Value.string ⟨#[97, 110, 100]⟩)), (2, Operand.const (Value.string ⟨#[98, 101, 103, 105, 110]⟩)), (3, Operand.const (Value.string ⟨#[98, 111, 111, 108]⟩)), (4, Operand.const (Value.string ⟨#[99, 97, 115, 101]⟩)), (5, Operand.const (Value.string ⟨#[99, 111, 97, 108, 101, 115, 99, 101]⟩)), (6, Operand.const (Value.string ⟨#[99, 111, 109, 109, 105, 116]⟩)), (7, Operand.const (Value.string ⟨#[99, 114, 101, 97, 116, 101]⟩)), (8, Operand.const (Value.string ⟨#[100, 101, 108, 101, 116, 101]⟩)), (9, Operand.const (Value.string ⟨#[100, 105, 115, 116, 105, 110, 99, 116]⟩)), (10, Operand.const (Value.string ⟨#[100, 114, 111, 112]⟩)), (11, Operand.const (Value.string ⟨#[101, 108, 115, 101]⟩)), (12, Operand.const (Value.string ⟨#[101, 110, 100]⟩)), (13, Operand.const (Value.string ⟨#[101, 120, 99, 101, 112, 116]⟩)), (14, Operand.const (Value.string ⟨#[101, 120, 105, 115, 116, 115]⟩)), (15, Operand.const (Value.string ⟨#[102, 97, 108, 115, 101]⟩)), (16, Operand.const (Value.string ⟨#[102, 114, 111, 109]⟩)), (17, Operand.const (Value.string ⟨#[105, 110]⟩)), (18, Operand.const (Value.string ⟨#[105, 110, 115, 101, 114, 116]⟩)), (19, Operand.const (Value.string ⟨#[105, 110, 116]⟩)), (20, Operand.const (Value.string ⟨#[105, 110, 116, 101, 114, 115, 101, 99, 116]⟩)), (21, Operand.const (Value.string ⟨#[105, 110, 116, 111]⟩)), (22, Operand.const (Value.string ⟨#[105, 115]⟩)), (23, Operand.const (Value.string ⟨#[110, 111, 116]⟩)), (24, Operand.const (Value.string ⟨#[110, 117, 108, 108]⟩)), (25, Operand.const (Value.string ⟨#[111, 114]⟩)), (26, Operand.const (Value.string ⟨#[114, 111, 108, 108, 98, 97, 99, 107]⟩)), (27, Operand.const (Value.string ⟨#[115, 101, 108, 101, 99, 116]⟩)), (28, Operand.const (Value.string ⟨#[115, 101, 116]⟩)), (29, Operand.const (Value.string ⟨#[116, 97, 98, 108, 101]⟩)), (30, Operand.const (Value.string ⟨#[116, 101, 120, 116]⟩)), (31, Operand.const (Value.string ⟨#[116, 104, 101, 110]⟩)), (32, Operand.const (Value.string ⟨#[116, 114, 117, 101]⟩)), (33, Operand.const (Value.string ⟨#[117, 110, 105, 111, 110]⟩)), (34, Operand.const (Value.string ⟨#[117, 112, 100, 97, 116, 101]⟩)), (35, Operand.const (Value.string ⟨#[118, 97, 108, 117, 101, 115]⟩)), (36, Operand.const (Value.string ⟨#[119, 104, 101, 110]⟩)), (37, Operand.const (Value.string ⟨#[119, 104, 101, 114, 101]⟩)), (38, Operand.const (Value.string ⟨#[]⟩)), (39, Operand.const (Value.string ⟨#[]⟩)), (40, Operand.const (Value.string ⟨#[]⟩)), (41, Operand.const (Value.string ⟨#[]⟩)), (42, Operand.const (Value.string ⟨#[]⟩)), (43, Operand.const (Value.string ⟨#[]⟩)), (44, Operand.const (Value.string ⟨#[]⟩))] : Array (Nat × Operand)).map fun (i, x) => (i, a.eval x)).toList).isSome = true := by kernel_rfl
theorem keys_built (a : Act) : (Tryz.prog.built 301 ((#[(0, Operand.const (Value.string ⟨#[97, 108, 108]⟩)), (1, Operand.const (Value.string ⟨#[97, 110, 100]⟩)), (2, Operand.const (Value.string ⟨#[98, 101, 103, 105, 110]⟩)), (3, Operand.const (Value.string ⟨#[98, 111, 111, 108]⟩)), (4, Operand.const (Value.string ⟨#[99, 97, 115, 101]⟩)), (5, Operand.const (Value.string ⟨#[99, 111, 97, 108, 101, 115, 99, 101]⟩)), (6, Operand.const (Value.string ⟨#[99, 111, 109, 109, 105, 116]⟩)), (7, Operand.const (Value.string ⟨#[99, 114, 101, 97, 116, 101]⟩)), (8, Operand.const (Value.string ⟨#[100, 101, 108, 101, 116, 101]⟩)), (9, Operand.const (Value.string ⟨#[100, 105, 115, 116, 105, 110, 99, 116]⟩)), (10, Operand.const (Value.string ⟨#[100, 114, 111, 112]⟩)), (11, Operand.const (Value.string ⟨#[101, 108, 115, 101]⟩)), (12, Operand.const (Value.string ⟨#[101, 110, 100]⟩)), (13, Operand.const (Value.string ⟨#[101, 120, 99, 101, 112, 116]⟩)), (14, Operand.const (Value.string ⟨#[101, 120, 105, 115, 116, 115]⟩)), (15, Operand.const (Value.string ⟨#[102, 97, 108, 115, 101]⟩)), (16, Operand.const (Value.string ⟨#[102, 114, 111, 109]⟩)), (17, Operand.const (Value.string ⟨#[105, 110]⟩)), (18, Operand.const (Value.string ⟨#[105, 110, 115, 101, 114, 116]⟩)), (19, Operand.const (Value.string ⟨#[105, 110, 116]⟩)), (20, Operand.const (Value.string ⟨#[105, 110, 116, 101, 114, 115, 101, 99, 116]⟩)), (21, Operand.const (Value.string ⟨#[105, 110, 116, 111]⟩)), (22, Operand.const (Value.string ⟨#[105, 115]⟩)), (23, Operand.const (Value.string ⟨#[110, 111, 116]⟩)), (24, Operand.const (Value.string ⟨#[110, 117, 108, 108]⟩)), (25, Operand.const (Value.string ⟨#[111, 114]⟩)), (26, Operand.const (Value.string ⟨#[114, 111, 108, 108, 98, 97, 99, 107]⟩)), (27, Operand.const (Value.string ⟨#[115, 101, 108, 101, 99, 116]⟩)), (28, Operand.const (Value.string ⟨#[115, 101, 116]⟩)), (29, Operand.const (Value.string ⟨#[116, 97, 98, 108, 101]⟩)), (30, Operand.const (Value.string ⟨#[116, 101, 120, 116]⟩)), (31, Operand.const (Value.string ⟨#[116, 104, 101, 110]⟩)), (32, Operand.const (Value.string ⟨#[116, 114, 117, 101]⟩)), (33, Operand.const (Value.string ⟨#[117, 110, 105, 111, 110]⟩)), (34, Operand.const (Value.string ⟨#[117, 112, 100, 97, 116, 101]⟩)), (35, Operand.const (Value.string ⟨#[118, 97, 108, 117, 101, 115]⟩)), (36, Operand.const (Value.string ⟨#[119, 104, 101, 110]⟩)), (37, Operand.const (Value.string ⟨#[119, 104, 101, 114, 101]⟩)), (38, Operand.const (Value.string ⟨#[]⟩)), (39, Operand.const (Value.string ⟨#[]⟩)), (40, Operand.const (Value.string ⟨#[]⟩)), (41, Operand.const (Value.string ⟨#[]⟩)), (42, Operand.const (Value.string ⟨#[]⟩)), (43, Operand.const (Value.string ⟨#[]⟩)), (44, Operand.const (Value.string ⟨#[]⟩))] : Array (Nat × Operand)).map fun (i, x) => (i, a.eval x)).toList).getD #[] = keyCells := by kernel_rfl
theorem keys_size : (Tryz.prog.info? 301).map (·.size) = some keyCells.size := by kernel_rfl
theorem keys_one : keyCells.all (·.oneCell') = true := by decide +kernel
theorem keys_at (k : Nat) (h : k < 45) : ∃ z, keyBs[k]? = some z ∧ keyCells[k]? = some (.string (bz z)) := by
  have hl : k < keyBs.length := h
  exact ⟨keyBs[k], List.getElem?_eq_getElem hl, by simp [keyCells, hl]⟩

theorem keyRow (w : World) (Z : Obj) (hZ : ∃ cs : Array Value, Z = .cells cs 301 ∧ cs.size = 45) : Below w.heap.size w ((w.alloc Z).setRow w.heap.size keyCells) ∧ ∀ k, ((w.alloc Z).setRow w.heap.size keyCells).cell? ⟨w.heap.size, k, none⟩ = keyCells[k]? := by
  obtain ⟨cs, rfl, _⟩ := hZ
  have hg := heap_alloc_new w (.cells cs 301)
  refine ⟨((Below.refl _ _).alloc (Nat.le_refl _) (.cells cs 301)).trans ⟨rfl, rfl, rfl, by simp [World.setRow], fun k hk => ?_⟩, fun k => cell_of_row _ _ _ _ _ _ (setRow_heap _ _ _ _ _ _ hg)⟩
  simp only [World.setRow, Array.getElem?_modify]
  rw [if_neg (by omega)]

theorem keyBs_mem : ∀ z ∈ keyBs, z = [] ∨ Sp.keys.contains z = true := by decide +kernel
theorem keyBs_has : ∀ z ∈ Sp.keys, ∃ j, j < 45 ∧ keyBs[j]? = some z := by
  intro z hz
  obtain ⟨j, hj, rfl⟩ := List.getElem_of_mem hz
  have h38 : Sp.keys.length = 38 := rfl
  exact ⟨j, by omega, by rw [keyBs, List.getElem?_append_left hj, List.getElem?_eq_getElem hj]⟩
theorem keys_nonempty : ∀ z ∈ Sp.keys, z ≠ [] := by decide +kernel

theorem key_hit {k : Nat} {z : Sp.Bs} {t : Sp.Bs} (h : keyBs[k]? = some z) (h1 : (z == t) = true) (h2 : t.isEmpty = false) : isKy t = true := by
  have e := eq_of_beq h1
  subst e
  rcases keyBs_mem z (List.mem_of_getElem? h) with rfl | h
  · simp at h2
  · exact h
theorem key_miss {t : Sp.Bs} (h : ∀ j z, j < 45 → keyBs[j]? = some z → (z == t && z != []) = false) : isKy t = false := by
  cases hk : isKy t
  · rfl
  · exfalso
    have hm : t ∈ Sp.keys := by unfold isKy at hk; simpa using hk
    obtain ⟨j, hj, hz⟩ := keyBs_has t hm
    have := h j t hj hz
    have hn := keys_nonempty t hm
    simp [hn] at this

set_option maxRecDepth 100000 in
set_option maxHeartbeats 1000000 in
theorem isKey_any (s : ByteArray) (w : World) :
    Calls Tryz.prog 108 #[.string s] w fun e w' => e = .returned (.bool (isKy s.toList)) ∧ Below w.heap.size w w' := by
  go_enter Tryz.func108, Tryz.ntmps108
  go_wp2_with (first | (refine wpList_build rfl 301 _ rfl (keys_some _) ?_; rw [keys_built]) | (refine wpList_store_row rfl 301 (.tmp 3) (.tmp 5) rfl w.heap.size keyCells rfl rfl 301 _ (heap_alloc_new _ _) keys_size rfl keys_one ?_))
  generalize hZ : (Obj.cells #[_, _, _, _, _, _, _, _, _, _, _, _, _, _, _, _, _, _, _, _, _, _, _, _, _, _, _, _, _, _, _, _, _, _, _, _, _, _, _, _, _, _, _, _, _] 301) = Z
  have hW := keyRow w Z (by rw [← hZ]; exact ⟨_, rfl, rfl⟩)
  generalize ((w.alloc Z).setRow w.heap.size keyCells) = W at *
  clear hZ
  have HB : Hid (Below w.heap.size w W) := hW.1
  have HC : Hid (∀ k, W.cell? ⟨w.heap.size, k, none⟩ = keyCells[k]?) := hW.2
  clear hW
  go_loop [4] (fun i => ∃ k : Nat, k ≤ 45 ∧ i = .int .i64 k ∧ Hid (∀ j z, j < k → keyBs[j]? = some z → (z == s.toList && z != []) = false)) (fun i => 45 - (intOf i).toNat)
  case atStart => exact ⟨0, by omega, rfl, fun j z hj => absurd hj (Nat.not_lt_zero _)⟩
  case round =>
    obtain ⟨k, hk, rfl, HR⟩ := hrel
    by_cases hlt : k < 45
    · obtain ⟨z, hz1, hz2⟩ := keys_at k hlt
      have hc := (HC.out k).trans hz2
      have HZ1 : Hid (keyBs[k]? = some z) := hz1
      have hbz : (bz z).toList = z := bz_toList z
      clear hz1 hz2
      cases h1 : (z == s.toList)
      · go_wp2_with fail
        go_round
        case rel => exact ⟨k + 1, by omega, by go_num, fun j y hj hy => by
          by_cases e : j = k
          · subst e
            rw [HZ1.out] at hy; cases hy
            rw [h1]; rfl
          · exact HR.out j y (by omega) hy⟩
        case measure => simp [intOf]; omega
      · cases h2 : s.toList.isEmpty
        · have HV : Hid (isKy s.toList = true) := key_hit HZ1.out h1 h2
          go_wp2_with fail
          go_ret
          exact ⟨ret_bool HV.out.symm, HB.out⟩
        · go_wp2_with fail
          go_round
          case rel => exact ⟨k + 1, by omega, by go_num, fun j y hj hy => by
            by_cases e : j = k
            · subst e
              rw [HZ1.out] at hy; cases hy
              have : z = [] := by rw [eq_of_beq h1]; simpa using h2
              rw [this]; simp
            · exact HR.out j y (by omega) hy⟩
          case measure => simp [intOf]; omega
    · have HV : Hid (isKy s.toList = false) := key_miss (fun j z hj hz => HR.out j z (by omega) hz)
      go_wp2_with fail
      go_ret
      exact ⟨ret_bool HV.out.symm, HB.out⟩
end Go.Proofs.YtgnncnhkgmhngaaGreatDoor

namespace Go.Proofs.YtgnncnhkgmhngaaGreatDoor
open Go.RowKit

set_option maxHeartbeats 400000 in
theorem small_any (c : UInt8) (w : World) :
    Calls Tryz.prog 106 #[.int .u8 (c.toNat : Int)] w fun e w' => e = .returned (.bool (Sp.isLo c)) ∧ w' = w := by
  have E : Hid (Sp.isLo c = (decide (97 ≤ (c.toNat : Int)) && decide ((c.toNat : Int) ≤ 122))) := by
    show Sp.isLo c = _
    rw [Sp.isLo, Bool.eq_iff_iff]; simp [UInt8.le_iff_toNat_le]; omega
  go_enter Tryz.func106, Tryz.ntmps106
  go_wp2
  all_goals go_ret
  all_goals exact ⟨ret_bool (by rw [E.out]; first | (simp [*]; done) | (simp; omega)), rfl⟩

set_option maxHeartbeats 400000 in
theorem digit_any (c : UInt8) (w : World) :
    Calls Tryz.prog 107 #[.int .u8 (c.toNat : Int)] w fun e w' => e = .returned (.bool (Sp.isDg c)) ∧ w' = w := by
  have E : Hid (Sp.isDg c = (decide (48 ≤ (c.toNat : Int)) && decide ((c.toNat : Int) ≤ 57))) := by
    show Sp.isDg c = _
    rw [Sp.isDg, Bool.eq_iff_iff]; simp [UInt8.le_iff_toNat_le]; omega
  go_enter Tryz.func107, Tryz.ntmps107
  go_wp2
  all_goals go_ret
  all_goals exact ⟨ret_bool (by rw [E.out]; first | (simp [*]; done) | (simp; omega)), rfl⟩

/-- The reference's names of the kinds. -/
def kname : Sp.Cl → Sp.Bs | .fin => [101, 110, 100] | .bad => [98, 97, 100] | .key => [107, 101, 121] | .name => [110, 97, 109, 101] | .num => [110, 117, 109, 98, 101, 114] | .txt => [116, 101, 120, 116]

/-- What token hands back. -/
def TR (s : ByteArray) (a : Nat) (w : World) (e : Ending) (w' : World) : Prop :=
  ∃ (kd ts : ByteArray) (tn en : Int), e = .returned (.tuple #[.agg #[.string kd, .int .i64 (Sp.tokAt s.data.toList a : Nat), .string ts, .int .i64 tn], .int .i64 en]) ∧ kd.toList = kname (Sp.tokCl s.data.toList a) ∧ (Sp.tokCl s.data.toList a = .key → ts.toList = Sp.tokWord s.data.toList a) ∧ (Sp.tokCl s.data.toList a ≠ .bad → en = (Sp.tokEnd s.data.toList a : Nat)) ∧ Below w.heap.size w w'

theorem sp_true {s : ByteArray} {k : Nat} (h : k < s.size) (hc : Sp.isSp s[k] = true) : ((s[k].toNat : Int) == 32) = true ∨ (((s[k].toNat : Int) == 32) = false ∧ ((s[k].toNat : Int) == 10) = true) := by
  have e1 := u8_eq s[k] 32
  have e2 := u8_eq s[k] 10
  simp only [Sp.isSp, ← e1, ← e2, Bool.or_eq_true] at hc
  cases h1 : ((s[k].toNat : Int) == 32)
  · rcases hc with hc | hc
    · exact absurd (h1.symm.trans hc) (by decide)
    · exact Or.inr ⟨rfl, hc⟩
  · exact Or.inl rfl
theorem sp_false {s : ByteArray} {k : Nat} (h : k < s.size) (hc : Sp.isSp s[k] = false) : ((s[k].toNat : Int) == 32) = false ∧ ((s[k].toNat : Int) == 10) = false := by
  have e1 := u8_eq s[k] 32
  have e2 := u8_eq s[k] 10
  simp only [Sp.isSp, ← e1, ← e2, Bool.or_eq_false_iff] at hc
  exact hc

theorem data_cons_at (s : ByteArray) (k : Nat) (h : k < s.size) : s.data.toList.drop k = s[k] :: s.data.toList.drop (k + 1) := drop_cons s k h

theorem tok_nil {s : ByteArray} {a : Nat} (h : Sp.tokAt s.data.toList a = s.size) : Sp.tokCl s.data.toList a = .fin ∧ Sp.tokEnd s.data.toList a = s.size := by
  have e : s.data.toList.drop (Sp.tokAt s.data.toList a) = [] := List.drop_of_length_le (by rw [h, size_data]; exact Nat.le_refl _)
  unfold Sp.tokEnd Sp.tokLen Sp.tokCl
  rw [e]
  exact ⟨rfl, by rw [h]; rfl⟩


set_option maxRecDepth 100000 in
set_option maxHeartbeats 4000000 in
theorem token_end (s : ByteArray) (a : Nat) (w : World) (hs : s.size ≤ 2000) (ha : a ≤ s.size) (HA : Hid (Sp.tokAt s.data.toList a = s.size)) :
    Calls Tryz.prog 62 #[.string s, .int .i64 a] w (TR s a w) := by
  go_enter Tryz.func62, Tryz.ntmps62
  go_wp2_with fail
  go_loop [1] (fun x => ∃ k : Nat, a ≤ k ∧ k ≤ s.size ∧ x = .int .i64 k ∧ Hid (s.size = k + Sp.many Sp.isSp (s.data.toList.drop k))) (fun x => s.size - (intOf x).toNat)
  case atStart => exact ⟨a, Nat.le_refl _, ha, rfl, HA.out.symm⟩
  case round =>
    obtain ⟨k, hak, hk, rfl, HR⟩ := hrel
    by_cases hlt : k < s.size
    · cases hp : Sp.isSp s[k]
      · exfalso
        have := HR.out; rw [many_stop _ s k hlt hp] at this; omega
      · have HV : Hid (s.size = k + 1 + Sp.many Sp.isSp (s.data.toList.drop (k + 1))) := by show _ = _; have := HR.out; rw [many_step _ s k hlt hp] at this; omega
        clear HR
        rcases sp_true hlt hp with b1 | ⟨b1, b2⟩
        all_goals
          go_wp2_with fail
          go_round
          case rel => exact ⟨k + 1, by omega, by omega, by go_num, HV.out⟩
          case measure => simp [intOf]; omega
    · have hkb : ((k : Int) == (s.size : Int)) = true := by simp; omega
      have HKS : Hid (k = s.size) := by show _ = _; omega
      have HT : Hid (Sp.tokCl s.data.toList a = .fin ∧ Sp.tokEnd s.data.toList a = s.size) := tok_nil HA.out
      clear HR
      go_wp2_with fail
      exact bodyPost_ret (v := .tuple #[.agg #[.string ⟨#[101, 110, 100]⟩, .int .i64 k, .string ⟨#[]⟩, .int .i64 0], .int .i64 k]) (by simp [results, Tryz.results62, go_sem]) rfl ⟨_, _, _, _, by rw [HA.out, HKS.out], by rw [HT.out.1]; exact ByteArray.toList_mk _, fun h => absurd (HT.out.1.symm.trans h) (by decide), fun _ => by rw [HT.out.2], (Below.refl _ _).alloc (Nat.le_refl _) _⟩

theorem tok_of {s : Sp.Bs} {a A : Nat} (h : Sp.tokAt s a = A) : Sp.tokCl s a = (Sp.first (s.drop A)).1 ∧ Sp.tokEnd s a = A + (Sp.first (s.drop A)).2 ∧ Sp.tokWord s a = (s.drop A).take (Sp.first (s.drop A)).2 := by
  unfold Sp.tokEnd Sp.tokWord Sp.tokLen Sp.tokCl; rw [h]; exact ⟨rfl, rfl, rfl⟩

theorem ext_mid (s : ByteArray) (i j : Nat) : (s.extract i j).toList = (s.data.toList.drop i).take (j - i) := by rw [ByteArray.toList_eq, Lib.extract_data]

theorem wd_true {s : ByteArray} {k : Nat} (h : k < s.size) (hc : Sp.isWd s[k] = true) : Sp.isLo s[k] = true ∨ (Sp.isLo s[k] = false ∧ Sp.isDg s[k] = true) ∨ (Sp.isLo s[k] = false ∧ Sp.isDg s[k] = false ∧ ((s[k].toNat : Int) == 95) = true) := by
  have e1 := u8_eq s[k] 95
  simp only [Sp.isWd, ← e1, Bool.or_eq_true] at hc
  cases h1 : Sp.isLo s[k]
  · cases h2 : Sp.isDg s[k]
    · rw [h1, h2] at hc
      rcases hc with (hc | hc) | hc
      · cases hc
      · cases hc
      · exact Or.inr (Or.inr ⟨rfl, rfl, hc⟩)
    · exact Or.inr (Or.inl ⟨rfl, rfl⟩)
  · exact Or.inl rfl
theorem wd_false {s : ByteArray} {k : Nat} (h : k < s.size) (hc : Sp.isWd s[k] = false) : Sp.isLo s[k] = false ∧ Sp.isDg s[k] = false ∧ ((s[k].toNat : Int) == 95) = false := by
  have e1 := u8_eq s[k] 95
  simp only [Sp.isWd, ← e1, Bool.or_eq_false_iff] at hc
  exact ⟨hc.1.1, hc.1.2, hc.2⟩

end Go.Proofs.YtgnncnhkgmhngaaGreatDoor
