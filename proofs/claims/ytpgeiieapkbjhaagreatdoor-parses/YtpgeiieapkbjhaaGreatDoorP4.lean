import Derived.Test.YtpgeiieapkbjhaaGreatDoorP3
namespace Go.Proofs.YtpgeiieapkbjhaaGreatDoor
open Go.RowKit

set_option maxHeartbeats 1000000 in
theorem expectOneOf_any {b c cap len : Nat} {s : Sp.Bs} {d : Nat} {σ : Sp.St} {w : World} (h : PS b c cap len s d σ w) (zs : List Sp.Bs) (hf : ∀ z ∈ zs, z ∈ fixd) (hl : zs.length ≤ 1000) (n : Nat) (hn : n = zs.length) (arr : Array Value) (ha : arr = (zs.map fun z => Value.string (bz z)).toArray) :
    Calls Tryz.prog 115 #[.pointer (some ⟨b, 0, none⟩), .slice (some ⟨w.heap.size, 0, none⟩) n n] (w.alloc (.cells arr 9)) (Post b c cap len s d (if seesOne s zs σ then σ.step s else σ.fail s 2) w) := by
  have A := accept_lit h zs hf hl n hn arr ha
  have HA : Hid (∀ w', w' = w.alloc (.cells arr 9) → Calls Tryz.prog 57 #[.pointer (some ⟨b, 0, none⟩), .slice (some ⟨w.heap.size, 0, none⟩) n n] w' fun r w' => r = .returned (.bool (seesOne s zs σ)) ∧ PS b c cap len s d (stepIf (seesOne s zs σ) s σ) w' ∧ Kept b w w') := fun w' e => by subst e; exact A
  clear A hn ha hf h
  cases hs : seesOne s zs σ
  · go_enter Tryz.func115, Tryz.ntmps115
    go_wp2_with fail
    refine (HA.out _ rfl).mono ?_
    rintro r w1 ⟨rfl, hp1, hk1⟩
    rw [hs] at hp1
    have HP1 : Hid (PS b c cap len s d σ w1) := hp1
    have HK1 : Hid (Kept b w w1) := hk1
    clear hp1 hk1
    go_wp2_with fail
    refine (refuse_any HP1.out).mono ?_
    rintro r w2 ⟨rfl, hp2, hk2⟩
    have HP2 : Hid (PS b c cap len s d (σ.fail s 2) w2) := hp2
    clear hp2
    go_wp2_with fail
    go_end0
    exact ⟨rfl, HP2.out, HK1.out.trans hk2⟩
  · go_enter Tryz.func115, Tryz.ntmps115
    go_wp2_with fail
    refine (HA.out _ rfl).mono ?_
    rintro r w1 ⟨rfl, hp1, hk1⟩
    rw [hs] at hp1
    have HP1 : Hid (PS b c cap len s d (σ.step s) w1) := hp1
    have HK1 : Hid (Kept b w w1) := hk1
    clear hp1 hk1
    go_wp2_with fail
    go_end0
    exact ⟨rfl, HP1.out, HK1.out⟩

theorem isFin_eq {s : Sp.Bs} {len i : Nat} {σ : Sp.St} (hi : IX s len i σ) (h : ((kn (Sp.tokCl s (pos s i)) : Int) != 0) = true) : (if σ.isCl s .fin then σ else σ.fail s 2) = σ.fail s 2 := by
  cases σ with
  | live e =>
    rw [hi.2] at h
    have hc : Sp.St.isCl s .fin (.live e) = false := by
      show (Sp.tokCl s e == .fin) = false
      revert h
      cases Sp.tokCl s e <;> simp [kn]
    rw [hc]; rfl
  | dead x a => rfl

theorem isFin_no {s : Sp.Bs} {len i : Nat} {σ : Sp.St} (hi : IX s len i σ) (h : ((kn (Sp.tokCl s (pos s i)) : Int) != 0) = false) : (if σ.isCl s .fin then σ else σ.fail s 2) = σ := by
  cases σ with
  | live e =>
    rw [hi.2] at h
    have hc : Sp.St.isCl s .fin (.live e) = true := by
      show (Sp.tokCl s e == .fin) = true
      revert h
      cases Sp.tokCl s e <;> simp [kn]
    rw [hc]; rfl
  | dead x a => rfl

set_option maxHeartbeats 1000000 in
theorem expectEnd_any {b c cap len : Nat} {s : Sp.Bs} {d : Nat} {σ : Sp.St} {w : World} (h : PS b c cap len s d σ w) :
    Calls Tryz.prog 32 #[.pointer (some ⟨b, 0, none⟩)] w (Post b c cap len s d (if σ.isCl s .fin then σ else σ.fail s 2) w) := by
  obtain ⟨i, hi, h1⟩ := h.h1
  have h0 := h.h0
  obtain ⟨wd, tc⟩ := h.tc i hi.lt
  have hil := hi.lt
  have tkk := tc.k
  have HH : Hid (PS b c cap len s d σ w) := h
  have lt := h.tk.top
  cases hc : ((kn (Sp.tokCl s (pos s i)) : Int) != 0)
  · rw [isFin_no hi hc]
    clear h tc hi
    go_enter Tryz.func32, Tryz.ntmps32
    go_wp2_with fail
    go_quiet (fail)
    go_wp2_with fail
    go_end0
    exact ⟨rfl, HH.out.drewN _, (Kept.refl b w).drewN _⟩
  · rw [isFin_eq hi hc]
    clear h tc hi
    go_enter Tryz.func32, Tryz.ntmps32
    go_wp2_with fail
    go_quiet (fail)
    go_wp2_with fail
    refine (refuse_any (HH.out.drewN _)).mono ?_
    rintro r w2 ⟨rfl, hp2, hk2⟩
    have HP2 : Hid (PS b c cap len s d (σ.fail s 2) w2) := hp2
    clear hp2
    go_wp2_with fail
    go_end0
    exact ⟨rfl, HP2.out, ((Kept.refl b w).drewN _).trans hk2⟩

/-- Is the token of one of these classes? -/
def isCls (s : Sp.Bs) (ks : List Sp.Cl) (σ : Sp.St) : Bool := ks.any (fun k => σ.isCl s k)

theorem kn_inj {a c : Sp.Cl} (h : (kn a == kn c) = true) : a = c := by
  revert h; cases a <;> cases c <;> simp [kn]

theorem cls_hit {s : Sp.Bs} {len i : Nat} {σ : Sp.St} (tk : TK s len) (hi : IX s len i σ) {ks : List Sp.Cl} {k : Sp.Cl} (hk : k ∈ ks) (hf : k ≠ .fin) (hb : k ≠ .bad) (h : (kn (Sp.tokCl s (pos s i)) == kn k) = true) : ∃ e, σ = .live e ∧ isCls s ks σ = true ∧ Sp.tokCl s e ≠ .fin ∧ Sp.tokCl s e ≠ .bad := by
  have e := kn_inj h
  cases σ with
  | live x =>
    rw [hi.2] at e
    refine ⟨x, rfl, List.any_eq_true.2 ⟨k, hk, by simp [Sp.St.isCl, e]⟩, ?_, ?_⟩ <;> rw [e] <;> assumption
  | dead x a =>
    exfalso
    rcases tk.last i hi.1 with h | h <;> rw [e] at h
    · exact hf h
    · exact hb h

theorem cls_miss {s : Sp.Bs} {len i : Nat} {σ : Sp.St} (hi : IX s len i σ) {ks : List Sp.Cl} (h : ∀ k ∈ ks, (kn (Sp.tokCl s (pos s i)) == kn k) = false) : isCls s ks σ = false := by
  unfold isCls
  rw [List.any_eq_false]
  intro k hk
  cases σ with
  | live x =>
    have := h k hk
    rw [hi.2] at this
    intro he
    simp only [Sp.St.isCl, beq_iff_eq] at he
    rw [he] at this; simp at this
  | dead x a => simp [Sp.St.isCl]

set_option maxHeartbeats 2000000 in
theorem acceptKind_any {b c cap len : Nat} {s : Sp.Bs} {d : Nat} {σ : Sp.St} {w : World} (h : PS b c cap len s d σ w) (ks : List Sp.Cl) (hf : ∀ k ∈ ks, k ≠ .fin ∧ k ≠ .bad) (hl : ks.length ≤ 1000) (n : Nat) (hn : n = ks.length) (arr : Array Value) (ha : arr = (ks.map fun k => Value.int .i64 (kn k)).toArray) :
    Calls Tryz.prog 98 #[.pointer (some ⟨b, 0, none⟩), .slice (some ⟨w.heap.size, 0, none⟩) n n] (w.alloc (.cells arr 126)) fun r w' => r = .returned (.bool (isCls s ks σ)) ∧ PS b c cap len s d (stepIf (isCls s ks σ) s σ) w' ∧ Kept b w w' := by
  have hcell : ∀ wr, Below (w.heap.size + 1) (w.alloc (.cells arr 126)) wr → ∀ k, (hk : k < ks.length) → wr.cell? ⟨w.heap.size, k, none⟩ = some (.int .i64 (kn ks[k])) := fun wr k j hj => (k.cell (p := ⟨w.heap.size, j, none⟩) (by simp)).trans (by rw [World.cell?_alloc_new, ha]; simp [hj])
  have HC : Hid (∀ wr, Below (w.heap.size + 1) (w.alloc (.cells arr 126)) wr → ∀ k, (hk : k < ks.length) → wr.cell? ⟨w.heap.size, k, none⟩ = some (.int .i64 (kn ks[k]))) := hcell
  clear hcell ha
  have HN : Hid (n = ks.length) := hn
  have hn1000 : n ≤ 1000 := by omega
  clear hn hl
  have HH : Hid (PS b c cap len s d σ w) := h
  have HF : Hid (∀ k ∈ ks, k ≠ .fin ∧ k ≠ .bad) := hf
  clear h hf
  go_enter Tryz.func98, Tryz.ntmps98
  go_wp2_with fail
  go_loopw [9] (fun i wr => Below (w.heap.size + 1) (w.alloc (.cells arr 126)) wr ∧ ∃ k : Nat, k ≤ n ∧ i = .int .i64 k ∧ Hid (∀ i', IX s len i' σ → ∀ j, j < k → (hj : j < ks.length) → (kn (Sp.tokCl s (pos s i')) == kn ks[j]) = false)) (fun i _ => n - (intOf i).toNat)
  case atStart => exact ⟨Below.refl _ _, 0, Nat.zero_le _, rfl, fun i' _ j hj => absurd hj (Nat.not_lt_zero _)⟩
  case round =>
    obtain ⟨hbel, k, hk, rfl, HR⟩ := hrel
    have hps : PS b c cap len s d σ wr := (HH.out.alloc _).below (by simpa using hbel)
    obtain ⟨i, hi, h1⟩ := hps.h1
    have h0 := hps.h0
    obtain ⟨wd, tc⟩ := hps.tc i hi.lt
    have hil := hi.lt
    have tkk := tc.k
    have lt := hps.tk.top
    have f1 := hps.fz 1
    have HP : Hid (PS b c cap len s d σ wr) := hps
    have HB : Hid (Below (w.heap.size + 1) (w.alloc (.cells arr 126)) wr) := hbel
    have HI : Hid (IX s len i σ) := hi
    have hK : Kept b w wr := ((Kept.refl b w).alloc _).trans (Kept.below (by simpa using hbel))
    have HK : Hid (Kept b w wr) := hK
    clear hK hps tc
    by_cases hlt : k < n
    · have hkz : k < ks.length := by have := HN.out; omega
      have hc := HC.out wr hbel k hkz
      clear hbel
      cases he : (kn (Sp.tokCl s (pos s i)) == kn ks[k])
      · clear hi
        go_wp2_with fail
        go_quiet (fail)
        go_wp2_with fail
        go_roundw
        case rel => exact ⟨below_drewN HB.out _, k + 1, by omega, by go_num, fun i' hi' j hj hj' => by
          have hii : kn (Sp.tokCl s (pos s i')) = kn (Sp.tokCl s (pos s i)) := by
            have a := HI.out
            cases σ with
            | live e => rw [hi'.2, a.2]
            | dead x y => have h1 := hi'.1; have h2 := a.1; have : i' = i := by omega
                          rw [this]
          by_cases e : j = k
          · subst e; rw [hii]; exact he
          · exact HR.out _ hi' j (by omega) hj'⟩
        case measure => simp [intOf]; omega
      · obtain ⟨e, rfl, hit, hnf, hnb⟩ := cls_hit HP.out.tk hi (List.getElem_mem hkz) (HF.out _ (List.getElem_mem hkz)).1 (HF.out _ (List.getElem_mem hkz)).2 he
        have HT : Hid (isCls s ks (.live e) = true) := hit
        have HNF : Hid (Sp.tokCl s e ≠ .fin ∧ Sp.tokCl s e ≠ .bad) := ⟨hnf, hnb⟩
        clear hi hit hnf hnb
        go_wp2_with fail
        go_quiet (fail)
        go_wp2_with fail
        go_ret
        exact ⟨ret_bool HT.out.symm, by rw [HT.out]; exact (HP.out.drewN _).up HI.out HNF.out.1 HNF.out.2, (HK.out.drewN _).setCell 1 _⟩
    · have HT : Hid (isCls s ks σ = false) := cls_miss hi fun x hx => by
        obtain ⟨j, hj, rfl⟩ := List.getElem_of_mem hx
        exact HR.out i hi j (by have := HN.out; omega) hj
      clear hi hbel
      go_wp2_with fail
      go_ret
      exact ⟨ret_bool HT.out.symm, by rw [HT.out]; exact HP.out, HK.out⟩
end Go.Proofs.YtpgeiieapkbjhaaGreatDoor
