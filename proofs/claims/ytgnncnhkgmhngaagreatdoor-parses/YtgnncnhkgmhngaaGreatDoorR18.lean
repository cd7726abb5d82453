import Derived.Test.YtgnncnhkgmhngaaGreatDoorR16
namespace Go.Proofs.YtgnncnhkgmhngaaGreatDoor
open Go.RowKit

theorem RS.src {b : Nat} {s : ByteArray} {d k : Nat} {c : Ct} {σ : Sp.St} {w : World} (h : RS b s d k c σ w) : w.cell? ⟨b, 0, none⟩ = some (.string s) ∧ s.size ≤ 2000 := by obtain ⟨hs, x, hc, _⟩ := h; exact ⟨hc.c0, hs⟩

/-- A token that has been read, in a block of the call's own. -/
structure TL (s : Sp.Bs) (e : Nat) (kd ts : ByteArray) (en : Int) : Prop where
  le : e ≤ s.length
  k : kd.toList = kname (Sp.tokCl s e)
  w : Sp.tokCl s e = .key → ts.toList = Sp.tokWord s e
  n : Sp.tokCl s e ≠ .bad → en = (Sp.tokEnd s e : Nat)

theorem TL.key {s : Sp.Bs} {e : Nat} {kd ts : ByteArray} {en : Int} (h : TL s e kd ts en) (z : Sp.Bs) : (Sp.tokCl s e == .key && Sp.tokWord s e == z) = ((kd.toList == [107, 101, 121]) && (ts.toList == z)) := by
  by_cases hk : Sp.tokCl s e = .key
  · rw [h.k, h.w hk, hk]; rfl
  · have : (kd.toList == [107, 101, 121]) = false := by
      rw [h.k]
      cases hh : (kname (Sp.tokCl s e) == [107, 101, 121])
      · rfl
      · exact absurd (kname_key (eq_of_beq hh)) hk
    rw [this]
    have : (Sp.tokCl s e == Sp.Cl.key) = false := by simpa using hk
    rw [this]; rfl

set_option maxHeartbeats 4000000 in
theorem rasks_any {b : Nat} {s : ByteArray} {d k e : Nat} {c : Ct} {w : World} (h : RS b s d k c (.live e) w) (h0 : Sp.St.is s.data.toList [40] (.live e) = true) :
    Calls Tryz.prog 338 #[.pointer (some ⟨b, 0, none⟩)] w (RB b s d k c (.live e) (Sp.St.asks s.data.toList (.live e)) w) := by
  obtain ⟨hs, x, hc, ho, ht⟩ := h
  have HP : Hid (RS b s d k c (.live e) w) := ⟨hs, x, hc, ho, ht⟩
  have c1 := hc.c1
  have c2 := hc.c2
  have c3 := hc.c3
  have c4 := hc.c4
  have c5 := hc.c5
  have lb := hc.lb
  have HT0 : Hid (TL s.data.toList e x.kd x.ts x.en) := ⟨ht.1, ht.2.1, ht.2.2.2.1, ht.2.2.2.2⟩
  have hlt : e < s.data.toList.length := by
    simp only [Sp.St.is, Bool.and_eq_true, beq_iff_eq] at h0
    exact Sp.lt_of_tok (by rw [h0.1]; decide)
  clear hc ho ht h0
  go_enter Tryz.func338, Tryz.ntmps338
  go_wp2_with fail
  have HL0 : Hid (LB b w w.heap.size #[.string x.kd, .int .i64 x.ta, .string x.ts, .int .i64 x.tn].toList (w.alloc (.cells #[.string x.kd, .int .i64 x.ta, .string x.ts, .int .i64 x.tn] 108))) := LB.new HP.out (Nat.le_refl _) _ _
  have HP0 : Hid (RS b s d k c (.live e) (w.alloc (.cells #[.string x.kd, .int .i64 x.ta, .string x.ts, .int .i64 x.tn] 108))) := HP.out.alloc _
  have HK0 : Hid (RK b w (w.alloc (.cells #[.string x.kd, .int .i64 x.ta, .string x.ts, .int .i64 x.tn] 108))) := (RK.refl b w).alloc lb _
  clear c1 c2 c3 c4 c5
  go_loopg [4] (s.data.toList.length + 1 - e) (fun f u wr => 1 ≤ f ∧ ∃ (e' : Nat) (kd ts : ByteArray) (ta tn en : Int), u = .int .i64 en ∧ s.data.toList.length + 1 - e' ≤ f ∧ Hid (Sp.St.asks s.data.toList (.live e) = Sp.asksAt s.data.toList f e') ∧ Hid (TL s.data.toList e' kd ts en) ∧ Hid (LB b w w.heap.size [.string kd, .int .i64 ta, .string ts, .int .i64 tn] wr) ∧ Hid (RS b s d k c (.live e) wr) ∧ Hid (RK b w wr))
  case atStart => exact ⟨by omega, e, _, _, _, _, _, rfl, Nat.le_refl _, rfl, HT0.out, HL0.out, HP0.out, HK0.out⟩
  case round =>
    obtain ⟨hf1, e', kd, ts, ta, tn, en, rfl, hf, HA, HT, HL, HPr, HKr⟩ := hrel
    obtain ⟨f, rfl⟩ : ∃ f, gk = f + 1 := ⟨gk - 1, by omega⟩
    have q0 := HL.out.cl 0 _ rfl
    have q1 := HL.out.cl 1 _ rfl
    have q2 := HL.out.cl 2 _ rfl
    have q3 := HL.out.cl 3 _ rfl
    have g0 := HL.out.fz 0
    have g1 := HL.out.fz 1
    have g2 := HL.out.fz 2
    have g3 := HL.out.fz 3
    obtain ⟨c0, hsz⟩ := HPr.out.src
    cases hk : (kd.toList == [107, 101, 121])
    · have HV : Hid (Sp.St.asks s.data.toList (.live e) = false) := by
        show _ = _
        rw [HA.out, asks_stop (by rw [HT.out.key, hk]; rfl), HT.out.key, hk]; rfl
      go_wp2_with fail
      go_ret
      exact ⟨ret_bool HV.out.symm, HPr.out, HKr.out⟩
    · cases hp : (ts.toList == [40])
      · have HV : Hid (Sp.St.asks s.data.toList (.live e) = (ts.toList == [115, 101, 108, 101, 99, 116])) := by
          show _ = _
          rw [HA.out, asks_stop (by rw [HT.out.key, hk, hp]; rfl), HT.out.key, hk]; rfl
        go_wp2_with fail
        go_ret
        exact ⟨ret_bool HV.out.symm, HPr.out, HKr.out⟩
      · have hkey : Sp.tokCl s.data.toList e' = .key := by
          have := HT.out.k
          rw [eq_of_beq hk] at this
          exact kname_key this.symm
        have hgt := Sp.tokEnd_gt (s := s.data.toList) (e := e') (by rw [hkey]; decide) (by rw [hkey]; decide)
        have hlt' := Sp.lt_of_tok (s := s.data.toList) (e := e') (by rw [hkey]; decide)
        have hle := tokEnd_le (s := s.data.toList) (e := e') (by rw [hkey]; decide) HT.out.le
        have hen : en = (Sp.tokEnd s.data.toList e' : Nat) := HT.out.n (by rw [hkey]; decide)
        have HV : Hid (Sp.St.asks s.data.toList (.live e) = Sp.asksAt s.data.toList f (Sp.tokEnd s.data.toList e')) := by
          show _ = _
          rw [HA.out]
          exact asks_round (by rw [HT.out.key, hk, hp]; rfl)
        subst hen
        generalize hE : Sp.tokEnd s.data.toList e' = E at *
        clear hE HA HT hkey
        have HTk : Hid (∀ w, Calls Tryz.prog 62 #[.string s, .int .i64 E] w (TR s E w)) := fun w => token_any s E w hsz (by rw [← size_data]; exact hle)
        go_wp2_with fail
        refine (HTk.out _).mono ?_
        rintro r w2 ⟨kd2, ts2, tn2, en2, rfl, a1, a2, a3, hb2⟩
        have HT2 : Hid (TL s.data.toList E kd2 ts2 en2) := ⟨hle, a1, a2, a3⟩
        have HL2 : Hid (LB b w w.heap.size [.string kd, .int .i64 ta, .string ts, .int .i64 tn] w2) := HL.out.below HPr.out.lb hb2
        have HP2 : Hid (RS b s d k c (.live e) w2) := HPr.out.below hb2
        have HK2 : Hid (RK b w w2) := HKr.out.trans (RK.below hb2 HPr.out.lb)
        clear a1 a2 a3 hb2 q0 q1 q2 q3 g0 g1 g2 g3 c0
        have q0 := HL2.out.cl 0 _ rfl
        have q1 := HL2.out.cl 1 _ rfl
        have q2 := HL2.out.cl 2 _ rfl
        have q3 := HL2.out.cl 3 _ rfl
        have g0 := HL2.out.fz 0
        have g1 := HL2.out.fz 1
        have g2 := HL2.out.fz 2
        have g3 := HL2.out.fz 3
        go_wp2_with fail
        go_roundg f
        case measure => omega
        case rel => exact ⟨by omega, E, kd2, ts2, _, tn2, en2, rfl, by omega, HV.out, HT2.out, (((HL2.out.set 0 (by simp) _).set 1 (by simp) _).set 2 (by simp) _).set 3 (by simp) _, by
          refine RX.rs (js := [w.heap.size]) ?_
          iterate 4 refine RX.set ?_ _ (by simp) _ _
          exact ⟨HP2.out, fun j hj => by simp only [List.mem_singleton] at hj; subst hj; exact HL2.out.nf⟩, by
          show RK _ _ _
          iterate 4 refine RK.new ?_ lb (by simp) _
          exact HK2.out⟩
end Go.Proofs.YtgnncnhkgmhngaaGreatDoor

namespace Go.Proofs.YtgnncnhkgmhngaaGreatDoor
open Go.RowKit

theorem LO.lt {b : Nat} {w0 : World} {e : TypeId} {size : Nat} {v : Value} {n : Nat} {w : World} (h : LO b w0 e size v n w) : ∀ g, v.ownBlock = some g → g < w.heap.size := by
  obtain ⟨xs, ho⟩ := h.own
  exact fun g hg => (owns_block ho g hg).2
theorem LO.set {b : Nat} {w0 : World} {e : TypeId} {size : Nat} {v : Value} {n : Nat} {w : World} (h : LO b w0 e size v n w) {j : Nat} (hj : ∀ g, v.ownBlock = some g → g ≠ j) (hb : j ≠ b) (o : Nat) (u : Value) : LO b w0 e size v n (w.setCell ⟨j, o, none⟩ u) := by
  obtain ⟨xs, h1, h2⟩ := h.own
  refine ⟨⟨xs, h1, ?_⟩, fun g hg hf => h.nf g hg (hf.set hb)⟩
  rcases h2 with h | ⟨g, cap, cur, hv, hg, hc, r⟩
  · exact Or.inl h
  · exact Or.inr ⟨g, cap, cur, hv, hg, by rw [Below.heap_setCell _ _ _ _ (hj g (by rw [hv]; rfl))]; exact hc, r⟩
theorem LO.grown {b : Nat} {w0 : World} {e : TypeId} {size : Nat} {v : Value} {n : Nat} {w w1 : World} {row : Option Nat} (h : LO b w0 e size v n w) (hb : b < w.heap.size) (hg : w.grownBy w1 row) (hn : ∀ g, row = some g → ¬ FP b w g) (hd : ∀ g, v.ownBlock = some g → row ≠ some g) : LO b w0 e size v n w1 := by
  have hlt := h.lt
  obtain ⟨xs, h1, h2⟩ := h.own
  refine ⟨⟨xs, h1, ?_⟩, fun g hv hf => h.nf g hv (hf.grown hb hg hn)⟩
  rcases h2 with x | ⟨g, cap, cur, hv, hgb, hc, r⟩
  · exact Or.inl x
  · have hv' : v.ownBlock = some g := by rw [hv]; rfl
    exact Or.inr ⟨g, cap, cur, hv, hgb, by rw [hg.block g (hlt g hv') (fun e => hd g hv' e.symm)]; exact hc, r⟩

/-- A call's own struct and its own lists, beside the reader's blocks. -/
structure FX (b : Nat) (w0 : World) (jq : Nat) (vs : List Value) (ls : List (TypeId × Nat × Value × Nat)) (w : World) : Prop where
  rk : RK b w0 w
  lb : b < w.heap.size
  lq : LB b w0 jq vs w
  ll : ∀ (i : Nat) l, ls[i]? = some l → LO b w0 l.1 l.2.1 l.2.2.1 l.2.2.2 w
  dq : ∀ (i : Nat) l, ls[i]? = some l → ∀ g, l.2.2.1.ownBlock = some g → g ≠ jq
  dl : ∀ (i j : Nat) l m, i ≠ j → ls[i]? = some l → ls[j]? = some m → ∀ g, l.2.2.1.ownBlock = some g → m.2.2.1.ownBlock ≠ some g

theorem FX.keep {b : Nat} {w0 : World} {jq : Nat} {vs : List Value} {ls : List (TypeId × Nat × Value × Nat)} {w w' : World} (h : FX b w0 jq vs ls w) (k : RK b w w') : FX b w0 jq vs ls w' :=
  ⟨h.rk.trans k, Nat.lt_of_lt_of_le h.lb k.size, h.lq.keep k, fun i l hl => (h.ll i l hl).keep k, h.dq, h.dl⟩
theorem FX.alloc {b : Nat} {w0 : World} {jq : Nat} {vs : List Value} {ls : List (TypeId × Nat × Value × Nat)} {w : World} (h : FX b w0 jq vs ls w) (o : Obj) : FX b w0 jq vs ls (w.alloc o) := h.keep ((RK.refl b w).alloc h.lb o)
theorem FX.drew {b : Nat} {w0 : World} {jq : Nat} {vs : List Value} {ls : List (TypeId × Nat × Value × Nat)} {w : World} (h : FX b w0 jq vs ls w) : FX b w0 jq vs ls w.drew := h.keep (RK.refl b w).drew
theorem FX.setq {b : Nat} {w0 : World} {jq : Nat} {vs : List Value} {ls : List (TypeId × Nat × Value × Nat)} {w : World} (h : FX b w0 jq vs ls w) (hb0 : b < w0.heap.size) (o : Nat) (ho : o < vs.length) (u : Value) : FX b w0 jq (vs.set o u) ls (w.setCell ⟨jq, o, none⟩ u) :=
  ⟨h.rk.new hb0 (p := ⟨jq, o, none⟩) h.lq.lo u, by simpa using h.lb, h.lq.set o ho u, fun i l hl => (h.ll i l hl).set (h.dq i l hl) h.lq.ne o u, h.dq, h.dl⟩
theorem FX.other {b : Nat} {w0 : World} {jq js : Nat} {vs ss : List Value} {ls : List (TypeId × Nat × Value × Nat)} {w : World} (h : FX b w0 jq vs ls w) (hb0 : b < w0.heap.size) (hl : LB b w0 js ss w) (hne : js ≠ jq) (hd : ∀ (i : Nat) l, ls[i]? = some l → ∀ g, l.2.2.1.ownBlock = some g → g ≠ js) (o : Nat) (u : Value) : FX b w0 jq vs ls (w.setCell ⟨js, o, none⟩ u) :=
  ⟨h.rk.new hb0 (p := ⟨js, o, none⟩) hl.lo u, by simpa using h.lb, h.lq.other hne hl.ne o u, fun i l hi => (h.ll i l hi).set (hd i l hi) hl.ne o u, h.dq, h.dl⟩
theorem FX.lt {b : Nat} {w0 : World} {jq : Nat} {vs : List Value} {ls : List (TypeId × Nat × Value × Nat)} {w : World} (h : FX b w0 jq vs ls w) : ∀ (i : Nat) l, ls[i]? = some l → ∀ g, l.2.2.1.ownBlock = some g → g ≠ w.heap.size := fun i l hl g hg => by have := (h.ll i l hl).lt g hg; omega

/-- Behind an append to one of the lists. -/
theorem FX.grow {b : Nat} {s : ByteArray} {d k : Nat} {c : Ct} {σ : Sp.St} {w0 : World} {jq : Nat} {vs : List Value} {ls : List (TypeId × Nat × Value × Nat)} {w w1 : World} (h : FX b w0 jq vs ls w) (hrs : RS b s d k c σ w) (i : Nat) {e : TypeId} {size : Nat} {v : Value} {n : Nat} (hi : ls[i]? = some (e, size, v, n)) {g cap n' : Nat} {xs : List Value} (hown : w1.ownsRow w0.heap.size e size (.slice (some ⟨g, 0, none⟩) n' cap) n' xs) (hg : w.grownBy w1 v.ownBlock) (hat : v.ownBlock = some g ∨ g = w.heap.size) :
    FX b w0 jq vs (ls.set i (e, size, .slice (some ⟨g, 0, none⟩) n' cap, n')) w1 ∧ RS b s d k c σ w1 := by
  have hl := h.ll i _ hi
  have hlo := hl.lo
  have hil : i < ls.length := by
    rcases Nat.lt_or_ge i ls.length with x | x
    · exact x
    · rw [List.getElem?_eq_none x] at hi; cases hi
  have own1 : ∀ g', (Value.slice (some ⟨g, 0, none⟩) n' cap).ownBlock = some g' → g = g' := fun g' h => by simpa [Value.ownBlock] using h
  refine ⟨⟨h.rk.grown h.lb hg hl.nf hlo, Nat.lt_of_lt_of_le h.lb hg.size, h.lq.grown h.lb hg hl.nf (fun x => h.dq i _ hi _ x rfl), ?_, ?_, ?_⟩, hrs.grown hg hl.nf⟩
  · intro p l hp
    by_cases e1 : i = p
    · subst e1
      rw [List.getElem?_set_self hil] at hp
      injection hp with hp
      subst hp
      exact LO.next hrs hl hown hg hat
    · rw [List.getElem?_set_ne e1] at hp
      exact (h.ll p l hp).grown h.lb hg hl.nf (fun g' hg' => h.dl p i l _ (Ne.symm e1) hp hi g' hg')
  · intro p l hp
    by_cases e1 : i = p
    · subst e1
      rw [List.getElem?_set_self hil] at hp
      injection hp with hp
      subst hp
      intro g' hg'
      have := own1 g' hg'
      subst this
      rcases hat with x | x
      · exact h.dq i _ hi _ x
      · have := h.lq.hi; omega
    · rw [List.getElem?_set_ne e1] at hp
      exact h.dq p l hp
  · intro p q l m hne hp hq
    by_cases e1 : i = p
    · subst e1
      rw [List.getElem?_set_self hil] at hp
      injection hp with hp
      subst hp
      rw [List.getElem?_set_ne hne] at hq
      intro g' hg' hm
      have := own1 g' hg'
      subst this
      rcases hat with x | x
      · exact h.dl i q _ m hne hi hq _ x hm
      · have := (h.ll q m hq).lt _ hm; omega
    · rw [List.getElem?_set_ne e1] at hp
      by_cases e2 : i = q
      · subst e2
        rw [List.getElem?_set_self hil] at hq
        injection hq with hq
        subst hq
        intro g' hg' hm
        have := own1 g' hm
        subst this
        rcases hat with x | x
        · exact h.dl p i l _ hne hp hi _ hg' x
        · have := (h.ll p l hp).lt _ hg'; omega
      · rw [List.getElem?_set_ne e2] at hq
        exact h.dl p q l m hne hp hq

/-- A struct of the call's own, and as many lists as it likes that hold nothing. -/
theorem FX.new {b : Nat} {s : ByteArray} {d k : Nat} {c : Ct} {σ : Sp.St} {w : World} (h : RS b s d k c σ w) (arr : Array Value) (t : TypeId) (ls : List (TypeId × Nat × Value × Nat)) (hls : ∀ l ∈ ls, l.2.2 = (.slice none 0 0, 0)) : FX b w w.heap.size arr.toList ls (w.alloc (.cells arr t)) := by
  have key : ∀ (i : Nat) l, ls[i]? = some l → l.2.2 = (.slice none 0 0, 0) := fun i l hl => hls l (List.mem_of_getElem? hl)
  refine ⟨(RK.refl b w).alloc h.lb _, by have := h.lb; simp; omega, LB.new h (Nat.le_refl _) arr t, fun i l hl => ?_, fun i l hl g hg => ?_, fun i j l m _ hl _ g hg => ?_⟩
  · rw [key i l hl]; exact LO.nil _ _ _ _ _
  · rw [key i l hl] at hg; cases hg
  · rw [key i l hl] at hg; cases hg

theorem far_mustL (s : Sp.Bs) (z : Sp.Bs) (e : Nat) : far s (.live e) + 1 ≤ far s ((Sp.St.live e).must s z) := by
  cases h : (Sp.St.live e).is s z
  · rw [Sp.St.must, h]; exact far_failL
  · rw [Sp.St.must, h]; exact far_is h
theorem far_nameT (s : Sp.Bs) (σ : Sp.St) : far s σ ≤ far s (σ.nameT s) := by
  cases h : σ.isCl s .name
  · rw [Sp.St.nameT, h]; exact far_fail s 2 σ
  · rw [Sp.St.nameT, h]; exact Nat.le_of_lt (far_cl h (by decide) (by decide))
theorem RS.kd {b : Nat} {s : ByteArray} {d k : Nat} {c : Ct} {σ : Sp.St} {w : World} (h : RS b s d k c σ w) (cl : Sp.Cl) (hcl : cl ≠ .bad) : ∃ kd : ByteArray, w.cell? ⟨b, 1, none⟩ = some (.string kd) ∧ (kd.toList == kname cl) = σ.isCl s.data.toList cl := by
  obtain ⟨_, x, hc, _, ht⟩ := h
  exact ⟨x.kd, hc.c1, (rt_cl ht cl hcl).symm⟩
theorem Tryz.info290 : (Tryz.prog.info? 290).map (fun i => (i.zero, i.size, i.bytes)) = some (some (.agg #[.string ⟨#[]⟩, .string ⟨#[]⟩, .int .i64 0, .int .i64 0]), 4, 48) := by kernel_rfl
theorem one4 (a b : ByteArray) (c d : Int) : ∀ u ∈ [Value.string a, .string b, .int .i64 c, .int .i64 d], u.oneCell' = true := by
  intro u hu
  simp only [List.mem_cons, List.not_mem_nil, or_false] at hu
  rcases hu with rfl | rfl | rfl | rfl <;> rfl
theorem news1 (w : World) (cs : Array Value) (t : TypeId) : ∀ j u, cs.toList[j]? = some u → (w.alloc (.cells cs t)).cell? (Addr.add ⟨w.heap.size, 0, none⟩ j) = some u := by
  intro j u hj
  have e : Addr.add ⟨w.heap.size, 0, none⟩ j = ⟨w.heap.size, j, none⟩ := by simp [Addr.add]; omega
  rw [e, World.cell?_alloc_new, ← hj]
  simp
end Go.Proofs.YtgnncnhkgmhngaaGreatDoor
