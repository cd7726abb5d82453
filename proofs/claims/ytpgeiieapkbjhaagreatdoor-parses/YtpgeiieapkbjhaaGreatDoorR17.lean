import Derived.Test.YtpgeiieapkbjhaaGreatDoorR16
namespace Go.Proofs.YtpgeiieapkbjhaaGreatDoor
open Go.RowKit

theorem RS.src {b : Nat} {s : ByteArray} {d k : Nat} {c : Ct} {σ : Sp.St} {w : World} (h : RS b s d k c σ w) : w.cell? ⟨b, 0, none⟩ = some (.string s) ∧ s.size ≤ 2000 := by obtain ⟨hs, x, hc, _⟩ := h; exact ⟨hc.c0, hs⟩

/-- A token that has been read, in a block of the call's own. -/
structure TL (s : Sp.Bs) (e : Nat) (kd ts : ByteArray) (en : Int) : Prop where
  le : e ≤ s.length
  k : kd.toList = kname (Sp.tokCl s e)
  w : Sp.tokCl s e = .key → ts.toList = Sp.tokWord s e
  n : Sp.tokCl s e ≠ .bad → en = (Sp.tokEnd s e : Nat)

theorem TL.key {s : Sp.Bs} {e : Nat} {kd ts : ByteArray} {en : Int} (h : TL s e kd ts en) (z : Sp.Bs) : (Sp.tokCl s e == .key && Sp.tokWord s e == z) = ((kd.toList == [107, 101, 121]) && (ts.toList == z)) := by
  by_cases hk : Sp.tokCl s e = .key
  · rw [h.k, h.w hk, hk]; rfl
  · have : (kd.toList == [107, 101, 121]) = false := by
      rw [h.k]
      cases hh : (kname (Sp.tokCl s e) == [107, 101, 121])
      · rfl
      · exact absurd (kname_key (eq_of_beq hh)) hk
    rw [this]
    have : (Sp.tokCl s e == Sp.Cl.key) = false := by simpa using hk
    rw [this]; rfl

set_option maxHeartbeats 4000000 in
theorem rasks_any {b : Nat} {s : ByteArray} {d k e : Nat} {c : Ct} {w : World} (h : RS b s d k c (.live e) w) (h0 : Sp.St.is s.data.toList [40] (.live e) = true) :
    Calls Tryz.prog 169 #[.pointer (some ⟨b, 0, none⟩)] w (RB b s d k c (.live e) (Sp.St.asks s.data.toList (.live e)) w) := by
  obtain ⟨hs, x, hc, ho, ht⟩ := h
  have HP : Hid (RS b s d k c (.live e) w) := ⟨hs, x, hc, ho, ht⟩
  have c1 := hc.c1
  have c2 := hc.c2
  have c3 := hc.c3
  have c4 := hc.c4
  have c5 := hc.c5
  have lb := hc.lb
  have HT0 : Hid (TL s.data.toList e x.kd x.ts x.en) := ⟨ht.1, ht.2.1, ht.2.2.2.1, ht.2.2.2.2⟩
  have hlt : e < s.data.toList.length := by
    simp only [Sp.St.is, Bool.and_eq_true, beq_iff_eq] at h0
    exact Sp.lt_of_tok (by rw [h0.1]; decide)
  clear hc ho ht h0
  go_enter Tryz.func169, Tryz.ntmps169
  go_wp2_with fail
  have HL0 : Hid (LB b w w.heap.size #[.string x.kd, .int .i64 x.ta, .string x.ts, .int .i64 x.tn].toList (w.alloc (.cells #[.string x.kd, .int .i64 x.ta, .string x.ts, .int .i64 x.tn] 70))) := LB.new HP.out (Nat.le_refl _) _ _
  have HP0 : Hid (RS b s d k c (.live e) (w.alloc (.cells #[.string x.kd, .int .i64 x.ta, .string x.ts, .int .i64 x.tn] 70))) := HP.out.alloc _
  have HK0 : Hid (RK b w (w.alloc (.cells #[.string x.kd, .int .i64 x.ta, .string x.ts, .int .i64 x.tn] 70))) := (RK.refl b w).alloc lb _
  clear c1 c2 c3 c4 c5
  go_loopg [4] (s.data.toList.length + 1 - e) (fun f u wr => 1 ≤ f ∧ ∃ (e' : Nat) (kd ts : ByteArray) (ta tn en : Int), u = .int .i64 en ∧ s.data.toList.length + 1 - e' ≤ f ∧ Hid (Sp.St.asks s.data.toList (.live e) = Sp.asksAt s.data.toList f e') ∧ Hid (TL s.data.toList e' kd ts en) ∧ Hid (LB b w w.heap.size [.string kd, .int .i64 ta, .string ts, .int .i64 tn] wr) ∧ Hid (RS b s d k c (.live e) wr) ∧ Hid (RK b w wr))
  case atStart => exact ⟨by omega, e, _, _, _, _, _, rfl, Nat.le_refl _, rfl, HT0.out, HL0.out, HP0.out, HK0.out⟩
  case round =>
    obtain ⟨hf1, e', kd, ts, ta, tn, en, rfl, hf, HA, HT, HL, HPr, HKr⟩ := hrel
    obtain ⟨f, rfl⟩ : ∃ f, gk = f + 1 := ⟨gk - 1, by omega⟩
    have q0 := HL.out.cl 0 _ rfl
    have q1 := HL.out.cl 1 _ rfl
    have q2 := HL.out.cl 2 _ rfl
    have q3 := HL.out.cl 3 _ rfl
    have g0 := HL.out.fz 0
    have g1 := HL.out.fz 1
    have g2 := HL.out.fz 2
    have g3 := HL.out.fz 3
    obtain ⟨c0, hsz⟩ := HPr.out.src
    cases hk : (kd.toList == [107, 101, 121])
    · have HV : Hid (Sp.St.asks s.data.toList (.live e) = false) := by
        show _ = _
        rw [HA.out, asks_stop (by rw [HT.out.key, hk]; rfl), HT.out.key, hk]; rfl
      go_wp2_with fail
      go_ret
      exact ⟨ret_bool HV.out.symm, HPr.out, HKr.out⟩
    · cases hp : (ts.toList == [40])
      · have HV : Hid (Sp.St.asks s.data.toList (.live e) = (ts.toList == [115, 101, 108, 101, 99, 116])) := by
          show _ = _
          rw [HA.out, asks_stop (by rw [HT.out.key, hk, hp]; rfl), HT.out.key, hk]; rfl
        go_wp2_with fail
        go_ret
        exact ⟨ret_bool HV.out.symm, HPr.out, HKr.out⟩
      · have hkey : Sp.tokCl s.data.toList e' = .key := by
          have := HT.out.k
          rw [eq_of_beq hk] at this
          exact kname_key this.symm
        have hgt := Sp.tokEnd_gt (s := s.data.toList) (e := e') (by rw [hkey]; decide) (by rw [hkey]; decide)
        have hlt' := Sp.lt_of_tok (s := s.data.toList) (e := e') (by rw [hkey]; decide)
        have hle := tokEnd_le (s := s.data.toList) (e := e') (by rw [hkey]; decide) HT.out.le
        have hen : en = (Sp.tokEnd s.data.toList e' : Nat) := HT.out.n (by rw [hkey]; decide)
        have HV : Hid (Sp.St.asks s.data.toList (.live e) = Sp.asksAt s.data.toList f (Sp.tokEnd s.data.toList e')) := by
          show _ = _
          rw [HA.out]
          exact asks_round (by rw [HT.out.key, hk, hp]; rfl)
        subst hen
        generalize hE : Sp.tokEnd s.data.toList e' = E at *
        clear hE HA HT hkey
        have HTk : Hid (∀ w, Calls Tryz.prog 33 #[.string s, .int .i64 E] w (TR s E w)) := fun w => token_any s E w hsz (by rw [← size_data]; exact hle)
        go_wp2_with fail
        refine (HTk.out _).mono ?_
        rintro r w2 ⟨kd2, ts2, tn2, en2, rfl, a1, a2, a3, hb2⟩
        have HT2 : Hid (TL s.data.toList E kd2 ts2 en2) := ⟨hle, a1, a2, a3⟩
        have HL2 : Hid (LB b w w.heap.size [.string kd, .int .i64 ta, .string ts, .int .i64 tn] w2) := HL.out.below HPr.out.lb hb2
        have HP2 : Hid (RS b s d k c (.live e) w2) := HPr.out.below hb2
        have HK2 : Hid (RK b w w2) := HKr.out.trans (RK.below hb2 HPr.out.lb)
        clear a1 a2 a3 hb2 q0 q1 q2 q3 g0 g1 g2 g3 c0
        have q0 := HL2.out.cl 0 _ rfl
        have q1 := HL2.out.cl 1 _ rfl
        have q2 := HL2.out.cl 2 _ rfl
        have q3 := HL2.out.cl 3 _ rfl
        have g0 := HL2.out.fz 0
        have g1 := HL2.out.fz 1
        have g2 := HL2.out.fz 2
        have g3 := HL2.out.fz 3
        go_wp2_with fail
        go_roundg f
        case measure => omega
        case rel => exact ⟨by omega, E, kd2, ts2, _, tn2, en2, rfl, by omega, HV.out, HT2.out, (((HL2.out.set 0 (by simp) _).set 1 (by simp) _).set 2 (by simp) _).set 3 (by simp) _, by
          refine RX.rs (js := [w.heap.size]) ?_
          iterate 4 refine RX.set ?_ _ (by simp) _ _
          exact ⟨HP2.out, fun j hj => by simp only [List.mem_singleton] at hj; subst hj; exact HL2.out.nf⟩, by
          show RK _ _ _
          iterate 4 refine RK.new ?_ lb (by simp) _
          exact HK2.out⟩
end Go.Proofs.YtpgeiieapkbjhaaGreatDoor
