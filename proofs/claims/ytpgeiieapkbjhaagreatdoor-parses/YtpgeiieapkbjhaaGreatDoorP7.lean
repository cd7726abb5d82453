import Derived.Test.YtpgeiieapkbjhaaGreatDoorP6
namespace Go.Proofs.YtpgeiieapkbjhaaGreatDoor
open Go.RowKit

set_option maxHeartbeats 2000000 in
theorem encl1_query {b c cap len : Nat} {s : Sp.Bs} {d : Nat} {σ : Sp.St} {w : World} (h : PS b c cap len s d σ w) (qi qp : Nat) (hi : w.cell? ⟨qi, 0, none⟩ = some (.func (.func 64) #[.pointer (some ⟨b, 0, none⟩)] #[])) (hq : w.cell? ⟨qp, 0, none⟩ = some (.pointer (some ⟨b, 0, none⟩))) (lq : qp < w.heap.size) (ne : qp ≠ b) (G : Sp.St → Sp.St)
    (hin : Calls Tryz.prog 64 #[.pointer (some ⟨b, 0, none⟩)] w (Post b c cap len s d (G σ) w)) :
    Calls Tryz.prog 139 #[.pointer (some ⟨qi, 0, none⟩), .pointer (some ⟨qp, 0, none⟩)] w (Post b c cap len s d ((G σ).must s [41]) w) := by
  have HIN : Hid (∀ w', w' = w → Calls Tryz.prog 64 #[.pointer (some ⟨b, 0, none⟩)] w' (Post b c cap len s d (G σ) w)) := fun w' e => by subst e; exact hin
  have HQ : Hid (∀ w', Kept b w w' → w'.cell? ⟨qp, 0, none⟩ = some (.pointer (some ⟨b, 0, none⟩))) := fun w' k => (k.cell (p := ⟨qp, 0, none⟩) lq ne).trans hq
  clear hin h hq
  go_enter Tryz.func139, Tryz.ntmps139
  go_wp2_with fail
  refine (HIN.out _ rfl).mono ?_
  rintro r w1 ⟨rfl, hp1, hk1⟩
  have hq1 := HQ.out w1 hk1
  have HP1 : Hid (PS b c cap len s d (G σ) w1) := hp1
  have HK1 : Hid (Kept b w w1) := hk1
  clear hp1 hk1
  go_wp2_with fail
  refine (expect_any HP1.out [41] (by decide)).mono ?_
  rintro r w2 ⟨rfl, hp2, hk2⟩
  have HP2 : Hid (PS b c cap len s d ((G σ).must s [41]) w2) := hp2
  have HK2 : Hid (Kept b w w2) := HK1.out.trans hk2
  clear hp2 hk2
  go_wp2_with fail
  go_end0
  exact ⟨rfl, HP2.out, HK2.out⟩

set_option maxHeartbeats 2000000 in
theorem enclosed_query {b c cap len : Nat} {s : Sp.Bs} {d : Nat} {σ : Sp.St} {w : World} (h : PS b c cap len s d σ w) (hd : d ≤ 1000000) (G : Sp.St → Sp.St)
    (hin : ∀ w', PS b c cap len s (d + 1) (σ.opened s [40] d) w' → Calls Tryz.prog 64 #[.pointer (some ⟨b, 0, none⟩)] w' (Post b c cap len s (d + 1) (G (σ.opened s [40] d)) w')) :
    Calls Tryz.prog 127 #[.pointer (some ⟨b, 0, none⟩), .func (.func 64) #[.pointer (some ⟨b, 0, none⟩)] #[]] w (Post b c cap len s d ((G (σ.opened s [40] d)).must s [41]) w) := by
  have O : ∀ w0, w0 = ((w.alloc (.cells #[.pointer (some ⟨b, 0, none⟩)] 130)).alloc (.cells #[.func (.func 64) #[.pointer (some ⟨b, 0, none⟩)] #[]] 1)) → Calls Tryz.prog 137 #[.pointer (some ⟨b, 0, none⟩), .string ⟨#[40]⟩, .func (.func 139) #[] #[.pointer (some ⟨w.heap.size + 1, 0, none⟩), .pointer (some ⟨w.heap.size, 0, none⟩)]] w0 (Post b c cap len s d ((G (σ.opened s [40] d)).must s [41]) w0) := by
    intro w0 e0
    subst e0
    have hb := h.lb
    refine opened_encl ((h.alloc _).alloc _) [40] (by decide) hd (w.heap.size + 1) w.heap.size (fun x => (G x).must s [41]) ?_
    intro w' k hp
    refine encl1_query hp _ _ ?_ ?_ ?_ (by omega) G (hin w' hp)
    · refine (k.cell (p := ⟨w.heap.size + 1, 0, none⟩) (by simp) (by simp; omega)).trans ?_
      have e : w.heap.size + 1 = (w.alloc (.cells #[.pointer (some ⟨b, 0, none⟩)] 130)).heap.size := by simp
      rw [e, World.cell?_alloc_new]; rfl
    · refine (k.cell (p := ⟨w.heap.size, 0, none⟩) (by simp; omega) (by simp; omega)).trans ?_
      rw [World.cell?_alloc_lt _ _ _ (by simp), World.cell?_alloc_new]; rfl
    · exact Nat.lt_of_lt_of_le (by simp; omega) k.size
  have HO : Hid (∀ w0, w0 = ((w.alloc (.cells #[.pointer (some ⟨b, 0, none⟩)] 130)).alloc (.cells #[.func (.func 64) #[.pointer (some ⟨b, 0, none⟩)] #[]] 1)) → Calls Tryz.prog 137 #[.pointer (some ⟨b, 0, none⟩), .string ⟨#[40]⟩, .func (.func 139) #[] #[.pointer (some ⟨w.heap.size + 1, 0, none⟩), .pointer (some ⟨w.heap.size, 0, none⟩)]] w0 (Post b c cap len s d ((G (σ.opened s [40] d)).must s [41]) w0)) := O
  clear O hin h
  have hmf : ∀ (fn : Fn) (first cap : Array Value) (w : World), (Instr.makeFunc fn first cap).run Tryz.prog w = .ok (.func fn first cap) w := fun _ _ _ _ => rfl
  go_enter Tryz.func127, Tryz.ntmps127
  go_wp2_with fail
  refine (HO.out _ rfl).mono ?_
  rintro r w1 ⟨rfl, hp1, hk1⟩
  have HP1 : Hid (PS b c cap len s d ((G (σ.opened s [40] d)).must s [41]) w1) := hp1
  have HK1 : Hid (Kept b w w1) := (((Kept.refl b w).alloc _).alloc _).trans hk1
  clear hp1 hk1
  go_wp2_with fail
  go_end0
  exact ⟨rfl, HP1.out, HK1.out⟩

set_option maxHeartbeats 2000000 in
theorem encl1_exprs {b c cap len : Nat} {s : Sp.Bs} {d : Nat} {σ : Sp.St} {w : World} (h : PS b c cap len s d σ w) (qi qp : Nat) (hi : w.cell? ⟨qi, 0, none⟩ = some (.func (.func 167) #[.pointer (some ⟨b, 0, none⟩)] #[])) (hq : w.cell? ⟨qp, 0, none⟩ = some (.pointer (some ⟨b, 0, none⟩))) (lq : qp < w.heap.size) (ne : qp ≠ b) (G : Sp.St → Sp.St)
    (hin : Calls Tryz.prog 167 #[.pointer (some ⟨b, 0, none⟩)] w (Post b c cap len s d (G σ) w)) :
    Calls Tryz.prog 139 #[.pointer (some ⟨qi, 0, none⟩), .pointer (some ⟨qp, 0, none⟩)] w (Post b c cap len s d ((G σ).must s [41]) w) := by
  have HIN : Hid (∀ w', w' = w → Calls Tryz.prog 167 #[.pointer (some ⟨b, 0, none⟩)] w' (Post b c cap len s d (G σ) w)) := fun w' e => by subst e; exact hin
  have HQ : Hid (∀ w', Kept b w w' → w'.cell? ⟨qp, 0, none⟩ = some (.pointer (some ⟨b, 0, none⟩))) := fun w' k => (k.cell (p := ⟨qp, 0, none⟩) lq ne).trans hq
  clear hin h hq
  go_enter Tryz.func139, Tryz.ntmps139
  go_wp2_with fail
  refine (HIN.out _ rfl).mono ?_
  rintro r w1 ⟨rfl, hp1, hk1⟩
  have hq1 := HQ.out w1 hk1
  have HP1 : Hid (PS b c cap len s d (G σ) w1) := hp1
  have HK1 : Hid (Kept b w w1) := hk1
  clear hp1 hk1
  go_wp2_with fail
  refine (expect_any HP1.out [41] (by decide)).mono ?_
  rintro r w2 ⟨rfl, hp2, hk2⟩
  have HP2 : Hid (PS b c cap len s d ((G σ).must s [41]) w2) := hp2
  have HK2 : Hid (Kept b w w2) := HK1.out.trans hk2
  clear hp2 hk2
  go_wp2_with fail
  go_end0
  exact ⟨rfl, HP2.out, HK2.out⟩

set_option maxHeartbeats 2000000 in
theorem enclosed_exprs {b c cap len : Nat} {s : Sp.Bs} {d : Nat} {σ : Sp.St} {w : World} (h : PS b c cap len s d σ w) (hd : d ≤ 1000000) (G : Sp.St → Sp.St)
    (hin : ∀ w', PS b c cap len s (d + 1) (σ.opened s [40] d) w' → Calls Tryz.prog 167 #[.pointer (some ⟨b, 0, none⟩)] w' (Post b c cap len s (d + 1) (G (σ.opened s [40] d)) w')) :
    Calls Tryz.prog 127 #[.pointer (some ⟨b, 0, none⟩), .func (.func 167) #[.pointer (some ⟨b, 0, none⟩)] #[]] w (Post b c cap len s d ((G (σ.opened s [40] d)).must s [41]) w) := by
  have O : ∀ w0, w0 = ((w.alloc (.cells #[.pointer (some ⟨b, 0, none⟩)] 130)).alloc (.cells #[.func (.func 167) #[.pointer (some ⟨b, 0, none⟩)] #[]] 1)) → Calls Tryz.prog 137 #[.pointer (some ⟨b, 0, none⟩), .string ⟨#[40]⟩, .func (.func 139) #[] #[.pointer (some ⟨w.heap.size + 1, 0, none⟩), .pointer (some ⟨w.heap.size, 0, none⟩)]] w0 (Post b c cap len s d ((G (σ.opened s [40] d)).must s [41]) w0) := by
    intro w0 e0
    subst e0
    have hb := h.lb
    refine opened_encl ((h.alloc _).alloc _) [40] (by decide) hd (w.heap.size + 1) w.heap.size (fun x => (G x).must s [41]) ?_
    intro w' k hp
    refine encl1_exprs hp _ _ ?_ ?_ ?_ (by omega) G (hin w' hp)
    · refine (k.cell (p := ⟨w.heap.size + 1, 0, none⟩) (by simp) (by simp; omega)).trans ?_
      have e : w.heap.size + 1 = (w.alloc (.cells #[.pointer (some ⟨b, 0, none⟩)] 130)).heap.size := by simp
      rw [e, World.cell?_alloc_new]; rfl
    · refine (k.cell (p := ⟨w.heap.size, 0, none⟩) (by simp; omega) (by simp; omega)).trans ?_
      rw [World.cell?_alloc_lt _ _ _ (by simp), World.cell?_alloc_new]; rfl
    · exact Nat.lt_of_lt_of_le (by simp; omega) k.size
  have HO : Hid (∀ w0, w0 = ((w.alloc (.cells #[.pointer (some ⟨b, 0, none⟩)] 130)).alloc (.cells #[.func (.func 167) #[.pointer (some ⟨b, 0, none⟩)] #[]] 1)) → Calls Tryz.prog 137 #[.pointer (some ⟨b, 0, none⟩), .string ⟨#[40]⟩, .func (.func 139) #[] #[.pointer (some ⟨w.heap.size + 1, 0, none⟩), .pointer (some ⟨w.heap.size, 0, none⟩)]] w0 (Post b c cap len s d ((G (σ.opened s [40] d)).must s [41]) w0)) := O
  clear O hin h
  have hmf : ∀ (fn : Fn) (first cap : Array Value) (w : World), (Instr.makeFunc fn first cap).run Tryz.prog w = .ok (.func fn first cap) w := fun _ _ _ _ => rfl
  go_enter Tryz.func127, Tryz.ntmps127
  go_wp2_with fail
  refine (HO.out _ rfl).mono ?_
  rintro r w1 ⟨rfl, hp1, hk1⟩
  have HP1 : Hid (PS b c cap len s d ((G (σ.opened s [40] d)).must s [41]) w1) := hp1
  have HK1 : Hid (Kept b w w1) := (((Kept.refl b w).alloc _).alloc _).trans hk1
  clear hp1 hk1
  go_wp2_with fail
  go_end0
  exact ⟨rfl, HP1.out, HK1.out⟩

set_option maxHeartbeats 2000000 in
theorem encl1_expr {b c cap len : Nat} {s : Sp.Bs} {d : Nat} {σ : Sp.St} {w : World} (h : PS b c cap len s d σ w) (qi qp : Nat) (hi : w.cell? ⟨qi, 0, none⟩ = some (.func (.func 100) #[.pointer (some ⟨b, 0, none⟩)] #[])) (hq : w.cell? ⟨qp, 0, none⟩ = some (.pointer (some ⟨b, 0, none⟩))) (lq : qp < w.heap.size) (ne : qp ≠ b) (G : Sp.St → Sp.St)
    (hin : Calls Tryz.prog 100 #[.pointer (some ⟨b, 0, none⟩)] w (Post b c cap len s d (G σ) w)) :
    Calls Tryz.prog 139 #[.pointer (some ⟨qi, 0, none⟩), .pointer (some ⟨qp, 0, none⟩)] w (Post b c cap len s d ((G σ).must s [41]) w) := by
  have HIN : Hid (∀ w', w' = w → Calls Tryz.prog 100 #[.pointer (some ⟨b, 0, none⟩)] w' (Post b c cap len s d (G σ) w)) := fun w' e => by subst e; exact hin
  have HQ : Hid (∀ w', Kept b w w' → w'.cell? ⟨qp, 0, none⟩ = some (.pointer (some ⟨b, 0, none⟩))) := fun w' k => (k.cell (p := ⟨qp, 0, none⟩) lq ne).trans hq
  clear hin h hq
  go_enter Tryz.func139, Tryz.ntmps139
  go_wp2_with fail
  refine (HIN.out _ rfl).mono ?_
  rintro r w1 ⟨rfl, hp1, hk1⟩
  have hq1 := HQ.out w1 hk1
  have HP1 : Hid (PS b c cap len s d (G σ) w1) := hp1
  have HK1 : Hid (Kept b w w1) := hk1
  clear hp1 hk1
  go_wp2_with fail
  refine (expect_any HP1.out [41] (by decide)).mono ?_
  rintro r w2 ⟨rfl, hp2, hk2⟩
  have HP2 : Hid (PS b c cap len s d ((G σ).must s [41]) w2) := hp2
  have HK2 : Hid (Kept b w w2) := HK1.out.trans hk2
  clear hp2 hk2
  go_wp2_with fail
  go_end0
  exact ⟨rfl, HP2.out, HK2.out⟩

set_option maxHeartbeats 2000000 in
theorem enclosed_expr {b c cap len : Nat} {s : Sp.Bs} {d : Nat} {σ : Sp.St} {w : World} (h : PS b c cap len s d σ w) (hd : d ≤ 1000000) (G : Sp.St → Sp.St)
    (hin : ∀ w', PS b c cap len s (d + 1) (σ.opened s [40] d) w' → Calls Tryz.prog 100 #[.pointer (some ⟨b, 0, none⟩)] w' (Post b c cap len s (d + 1) (G (σ.opened s [40] d)) w')) :
    Calls Tryz.prog 127 #[.pointer (some ⟨b, 0, none⟩), .func (.func 100) #[.pointer (some ⟨b, 0, none⟩)] #[]] w (Post b c cap len s d ((G (σ.opened s [40] d)).must s [41]) w) := by
  have O : ∀ w0, w0 = ((w.alloc (.cells #[.pointer (some ⟨b, 0, none⟩)] 130)).alloc (.cells #[.func (.func 100) #[.pointer (some ⟨b, 0, none⟩)] #[]] 1)) → Calls Tryz.prog 137 #[.pointer (some ⟨b, 0, none⟩), .string ⟨#[40]⟩, .func (.func 139) #[] #[.pointer (some ⟨w.heap.size + 1, 0, none⟩), .pointer (some ⟨w.heap.size, 0, none⟩)]] w0 (Post b c cap len s d ((G (σ.opened s [40] d)).must s [41]) w0) := by
    intro w0 e0
    subst e0
    have hb := h.lb
    refine opened_encl ((h.alloc _).alloc _) [40] (by decide) hd (w.heap.size + 1) w.heap.size (fun x => (G x).must s [41]) ?_
    intro w' k hp
    refine encl1_expr hp _ _ ?_ ?_ ?_ (by omega) G (hin w' hp)
    · refine (k.cell (p := ⟨w.heap.size + 1, 0, none⟩) (by simp) (by simp; omega)).trans ?_
      have e : w.heap.size + 1 = (w.alloc (.cells #[.pointer (some ⟨b, 0, none⟩)] 130)).heap.size := by simp
      rw [e, World.cell?_alloc_new]; rfl
    · refine (k.cell (p := ⟨w.heap.size, 0, none⟩) (by simp; omega) (by simp; omega)).trans ?_
      rw [World.cell?_alloc_lt _ _ _ (by simp), World.cell?_alloc_new]; rfl
    · exact Nat.lt_of_lt_of_le (by simp; omega) k.size
  have HO : Hid (∀ w0, w0 = ((w.alloc (.cells #[.pointer (some ⟨b, 0, none⟩)] 130)).alloc (.cells #[.func (.func 100) #[.pointer (some ⟨b, 0, none⟩)] #[]] 1)) → Calls Tryz.prog 137 #[.pointer (some ⟨b, 0, none⟩), .string ⟨#[40]⟩, .func (.func 139) #[] #[.pointer (some ⟨w.heap.size + 1, 0, none⟩), .pointer (some ⟨w.heap.size, 0, none⟩)]] w0 (Post b c cap len s d ((G (σ.opened s [40] d)).must s [41]) w0)) := O
  clear O hin h
  have hmf : ∀ (fn : Fn) (first cap : Array Value) (w : World), (Instr.makeFunc fn first cap).run Tryz.prog w = .ok (.func fn first cap) w := fun _ _ _ _ => rfl
  go_enter Tryz.func127, Tryz.ntmps127
  go_wp2_with fail
  refine (HO.out _ rfl).mono ?_
  rintro r w1 ⟨rfl, hp1, hk1⟩
  have HP1 : Hid (PS b c cap len s d ((G (σ.opened s [40] d)).must s [41]) w1) := hp1
  have HK1 : Hid (Kept b w w1) := (((Kept.refl b w).alloc _).alloc _).trans hk1
  clear hp1 hk1
  go_wp2_with fail
  go_end0
  exact ⟨rfl, HP1.out, HK1.out⟩

end Go.Proofs.YtpgeiieapkbjhaaGreatDoor
