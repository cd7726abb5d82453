import Derived.Test.YtgnncnhkgmhngaaGreatDoorT3
import Derived.Test.YtgnncnhkgmhngaaGreatDoorP4
import Derived.Deep.LoopGhost
namespace Go.Proofs.YtgnncnhkgmhngaaGreatDoor
open Go.RowKit

/-- The block's first cells. -/
def At (w : World) (b : Nat) (vs : List Value) : Prop := b < w.heap.size ∧ ∀ j, (h : j < vs.length) → w.cell? ⟨b, j, none⟩ = some vs[j]

/-- A piece of [lo, hi) without block b. -/
def Sub (lo hi b m1 m2 : Nat) : Prop := lo ≤ m1 ∧ m1 ≤ m2 ∧ m2 ≤ hi ∧ ¬ (m1 ≤ b ∧ b < m2)

/-- The block of a slice lies in [lo, hi). -/
def SIn (lo hi : Nat) (x : Value) : Prop := ∀ blk off n c, x = .slice (some ⟨blk, off, none⟩) n c → lo ≤ blk ∧ blk < hi

/-- The tables behind a from. -/
def Srcs (w : World) (blk : Nat) : Nat → List (Sp.Nm × Sp.Nm) → Prop
  | _, [] => True
  | off, ((tw, ta), (cw, ca)) :: r => w.cell? ⟨blk, off, none⟩ = some (.string (bz tw)) ∧ w.cell? ⟨blk, off + 1, none⟩ = some (.int .i64 (ta : Int)) ∧ w.cell? ⟨blk, off + 2, none⟩ = some (.string (bz cw)) ∧ w.cell? ⟨blk, off + 3, none⟩ = some (.int .i64 (ca : Int)) ∧ Srcs w blk (off + 4) r

/-- The block's type. -/
def Ty (w : World) (b : Nat) (t : TypeId) : Prop := ∃ arr fz, w.heap[b]? = some (.cells arr t fz)

/-- A value that is no slice. -/
def NoSl (v : Value) : Prop := ∀ a n c, v ≠ .slice a n c

/-- A node as it lies in memory, in [lo, hi). -/
def Rp (w : World) : Sp.Nd → Nat → Nat → Value → Prop
  | .nil, lo, hi, x => lo ≤ hi ∧ ∃ a c, x = .slice a 0 c
  | .cons h t, lo, hi, x => ∃ blk off n c v m1 m2, x = .slice (some ⟨blk, off, none⟩) (n + 1) c ∧ blk < w.heap.size ∧ Sub lo hi blk m1 m2 ∧ w.cell? ⟨blk, off, none⟩ = some v ∧ NoSl v ∧ Rp w h m1 m2 v ∧ Rp w t m2 hi (.slice (some ⟨blk, off + 1, none⟩) n c)
  | .none, lo, hi, x => lo ≤ hi ∧ x = .pointer none
  | .clause a e, lo, hi, x => ∃ b v m1 m2, x = .pointer (some ⟨b, 0, none⟩) ∧ lo ≤ b ∧ b < hi ∧ Sub lo hi b m1 m2 ∧ At w b [.int .i64 (a : Int), v] ∧ NoSl v ∧ Rp w e m1 m2 v
  | .const c, lo, hi, x => ∃ b, x = .iface 358 (.pointer (some ⟨b, 0, none⟩)) ∧ lo ≤ b ∧ b < hi ∧ At w b [.int .i64 c.k, .int .i64 c.n, .string c.s]
  | .col t n a o sr ce, lo, hi, x => ∃ b, x = .iface 361 (.pointer (some ⟨b, 0, none⟩)) ∧ lo ≤ b ∧ b < hi ∧ At w b [.string (bz t), .string (bz n), .int .i64 (a : Int), .int .i64 (o : Int), .int .i64 (sr : Int), .int .i64 ce] ∧ ∀ j, w.frozen? ⟨b, j, none⟩ = false
  | .op wd a args, lo, hi, x => ∃ b sv m1 m2, x = .iface 363 (.pointer (some ⟨b, 0, none⟩)) ∧ lo ≤ b ∧ b < hi ∧ Sub lo hi b m1 m2 ∧ At w b [.string (bz wd), .int .i64 (a : Int), sv] ∧ SIn lo hi sv ∧ Rp w args m1 m2 sv
  | .kase arms els, lo, hi, x => ∃ b av ev m1 m2 m3, x = .iface 365 (.pointer (some ⟨b, 0, none⟩)) ∧ lo ≤ b ∧ b < hi ∧ (lo ≤ m1 ∧ m1 ≤ m2 ∧ m2 ≤ m3 ∧ m3 ≤ hi) ∧ (Ty w b 405 ∧ ¬ (m2 ≤ b ∧ b < m3)) ∧ At w b [av, ev] ∧ SIn lo m2 av ∧ Rp w arms m1 m2 av ∧ NoSl ev ∧ Rp w els m2 m3 ev
  | .arms wa e ta t rest, lo, hi, x => ∃ blk off n c v1 v2 m1 m2 m3, x = .slice (some ⟨blk, off, none⟩) (n + 1) c ∧ blk < w.heap.size ∧ Sub lo hi blk m1 m2 ∧ Sub m2 hi blk m2 m3 ∧ w.cell? ⟨blk, off, none⟩ = some (.int .i64 (wa : Int)) ∧ w.cell? ⟨blk, off + 1, none⟩ = some v1 ∧ w.cell? ⟨blk, off + 2, none⟩ = some (.int .i64 (ta : Int)) ∧ w.cell? ⟨blk, off + 3, none⟩ = some v2 ∧ NoSl v1 ∧ Rp w e m1 m2 v1 ∧ NoSl v2 ∧ Rp w t m2 m3 v2 ∧ Rp w rest m3 hi (.slice (some ⟨blk, off + 4, none⟩) n c)
  | .within wd a args q, lo, hi, x => ∃ b sv qv m1 m2 m3 m4, x = .iface 367 (.pointer (some ⟨b, 0, none⟩)) ∧ lo ≤ b ∧ b < hi ∧ Sub lo hi b m1 m2 ∧ Sub m2 hi b m3 m4 ∧ At w b [.string (bz wd), .int .i64 (a : Int), sv, qv] ∧ SIn lo m3 sv ∧ Rp w args m1 m2 sv ∧ NoSl qv ∧ Rp w q m3 m4 qv
  | .comb wd a all p q, lo, hi, x => ∃ b pv qv m1 m2 m3, x = .iface 280 (.pointer (some ⟨b, 0, none⟩)) ∧ lo ≤ b ∧ b < hi ∧ Sub lo hi b m1 m2 ∧ Sub m2 hi b m2 m3 ∧ At w b [.string (bz wd), .int .i64 (a : Int), .bool all, pv, qv] ∧ NoSl pv ∧ Rp w p m1 m2 pv ∧ NoSl qv ∧ Rp w q m2 m3 qv
  | .sel di st ex src wh, lo, hi, x => ∃ b xv fv wv m1 m2 m3 m4, x = .iface 278 (.pointer (some ⟨b, 0, none⟩)) ∧ lo ≤ b ∧ b < hi ∧ Sub lo hi b m1 m2 ∧ Sub m2 hi b m3 m4 ∧ At w b [.bool di, .int .i64 (st : Int), xv, fv, wv] ∧ SIn lo m2 xv ∧ ((ex = .none ∧ xv = .slice none 0 0) ∨ (ex ≠ .none ∧ Rp w ex m1 m2 xv)) ∧ (src = [] ∧ fv = .slice none 0 0 ∨ ∃ blk c, fv = .slice (some ⟨blk, 0, none⟩) src.length c ∧ src ≠ [] ∧ m2 ≤ blk ∧ blk < m3 ∧ blk < w.heap.size ∧ Srcs w blk 0 src) ∧ NoSl wv ∧ Rp w wh m3 m4 wv

theorem At.same {w w' : World} {b : Nat} {vs : List Value} (h : At w b vs) (hs : w.heap.size ≤ w'.heap.size) (e : w'.heap[b]? = w.heap[b]?) : At w' b vs :=
  ⟨Nat.lt_of_lt_of_le h.1 hs, fun j hj => (World.cell?_of_block (w := w) (a := ⟨b, j, none⟩) e).trans (h.2 j hj)⟩

theorem Srcs.same {w w' : World} {blk : Nat} (e : w'.heap[blk]? = w.heap[blk]?) : ∀ (l : List (Sp.Nm × Sp.Nm)) (off : Nat), Srcs w blk off l → Srcs w' blk off l
  | [], _, _ => trivial
  | ((tw, ta), (cw, ca)) :: r, off, h => by
    have hc : ∀ o, w'.cell? ⟨blk, o, none⟩ = w.cell? ⟨blk, o, none⟩ := fun o => World.cell?_of_block (w := w) (a := ⟨blk, o, none⟩) e
    obtain ⟨h1, h2, h3, h4, h5⟩ := h
    exact ⟨(hc _).trans h1, (hc _).trans h2, (hc _).trans h3, (hc _).trans h4, Srcs.same e r _ h5⟩

theorem NoSl.iface (t : TypeId) (v : Value) : NoSl (.iface t v) := fun _ _ _ h => by cases h
theorem NoSl.ptr (a : Option Addr) : NoSl (.pointer a) := fun _ _ _ h => by cases h

/-- What lies elsewhere may turn. -/
theorem Rp.frame {w w' : World} (hs : w.heap.size ≤ w'.heap.size) : ∀ (nd : Sp.Nd) (lo hi : Nat) (x : Value), Rp w nd lo hi x → (∀ k, lo ≤ k → k < hi → w'.heap[k]? = w.heap[k]?) →
    (∀ blk off n c, x = .slice (some ⟨blk, off, none⟩) n c → w'.heap[blk]? = w.heap[blk]?) → Rp w' nd lo hi x := by
  intro nd
  induction nd with
  | nil => intro lo hi x h _ _; exact h
  | none => intro lo hi x h _ _; exact h
  | cons h t ih1 ih2 =>
    intro lo hi x hr hk hb
    obtain ⟨blk, off, n, c, v, m1, m2, rfl, hl, hS, hc, hn, h1, h2⟩ := hr
    have e := hb blk off (n + 1) c rfl
    refine ⟨blk, off, n, c, v, m1, m2, rfl, Nat.lt_of_lt_of_le hl hs, hS, (World.cell?_of_block (w := w) (a := ⟨blk, off, none⟩) e).trans hc, hn, ih1 _ _ _ h1 (fun k a b => hk k (by have := hS; unfold Sub at this; omega) (by have := hS; unfold Sub at this; omega)) (fun blk off n c e => absurd e (hn _ _ _)), ih2 _ _ _ h2 (fun k a b => hk k (by have := hS; unfold Sub at this; omega) b) ?_⟩
    intro blk' off' n' c' e'
    injection e' with e1 e2 e3; injection e1 with e1; injection e1 with e1; subst e1; exact e
  | clause a e ih =>
    intro lo hi x hr hk hb
    obtain ⟨b, v, m1, m2, rfl, h1, h2, hS, hA, hn, hR⟩ := hr
    exact ⟨b, v, m1, m2, rfl, h1, h2, hS, hA.same hs (hk b h1 h2), hn, ih _ _ _ hR (fun k a b => hk k (by have := hS; unfold Sub at this; omega) (by have := hS; unfold Sub at this; omega)) (fun blk off n c e => absurd e (hn _ _ _))⟩
  | const c =>
    intro lo hi x hr hk hb
    obtain ⟨b, rfl, h1, h2, hA⟩ := hr
    exact ⟨b, rfl, h1, h2, hA.same hs (hk b h1 h2)⟩
  | col t n a o sr ce =>
    intro lo hi x hr hk hb
    obtain ⟨b, rfl, h1, h2, hA, hf⟩ := hr
    exact ⟨b, rfl, h1, h2, hA.same hs (hk b h1 h2), fun j => (World.frozen?_of_block (w := w) (a := ⟨b, j, none⟩) (hk b h1 h2)).trans (hf j)⟩
  | op wd a args ih =>
    intro lo hi x hr hk hb
    obtain ⟨b, sv, m1, m2, rfl, h1, h2, hS, hA, hI, hR⟩ := hr
    exact ⟨b, sv, m1, m2, rfl, h1, h2, hS, hA.same hs (hk b h1 h2), hI, ih _ _ _ hR (fun k a b => hk k (by have := hS; unfold Sub at this; omega) (by have := hS; unfold Sub at this; omega)) (fun blk off n c e => hk blk (hI _ _ _ _ e).1 (hI _ _ _ _ e).2)⟩
  | kase arms els ih1 ih2 =>
    intro lo hi x hr hk hb
    obtain ⟨b, av, ev, m1, m2, m3, rfl, h1, h2, hS, ⟨⟨arr, fz, hT⟩, hS2⟩, hA, hI, hR, hn, hR2⟩ := hr
    exact ⟨b, av, ev, m1, m2, m3, rfl, h1, h2, hS, ⟨⟨arr, fz, (hk b h1 h2).trans hT⟩, hS2⟩, hA.same hs (hk b h1 h2), hI, ih1 _ _ _ hR (fun k a b => hk k (by omega) (by omega)) (fun blk off n c e => hk blk (hI _ _ _ _ e).1 (by have := (hI _ _ _ _ e).2; omega)), hn, ih2 _ _ _ hR2 (fun k a b => hk k (by omega) (by omega)) (fun blk off n c e => absurd e (hn _ _ _))⟩
  | arms wa e ta t rest ih1 ih2 ih3 =>
    intro lo hi x hr hk hb
    obtain ⟨blk, off, n, c, v1, v2, m1, m2, m3, rfl, hl, hS, hS2, c0, c1, c2, c3, n1, r1, n2, r2, r3⟩ := hr
    have e := hb blk off (n + 1) c rfl
    have hc : ∀ o, w'.cell? ⟨blk, o, none⟩ = w.cell? ⟨blk, o, none⟩ := fun o => World.cell?_of_block (w := w) (a := ⟨blk, o, none⟩) e
    unfold Sub at hS hS2
    refine ⟨blk, off, n, c, v1, v2, m1, m2, m3, rfl, Nat.lt_of_lt_of_le hl hs, hS, hS2, (hc _).trans c0, (hc _).trans c1, (hc _).trans c2, (hc _).trans c3, n1, ih1 _ _ _ r1 (fun k a b => hk k (by omega) (by omega)) (fun _ _ _ _ e => absurd e (n1 _ _ _)), n2, ih2 _ _ _ r2 (fun k a b => hk k (by omega) (by omega)) (fun _ _ _ _ e => absurd e (n2 _ _ _)), ih3 _ _ _ r3 (fun k a b => hk k (by omega) (by omega)) ?_⟩
    intro blk' off' n' c' e'
    injection e' with e1 e2 e3; injection e1 with e1; injection e1 with e1; subst e1; exact e
  | within wd a args q ih1 ih2 =>
    intro lo hi x hr hk hb
    obtain ⟨b, sv, qv, m1, m2, m3, m4, rfl, h1, h2, hS, hS2, hA, hI, hR, hn, hR2⟩ := hr
    unfold Sub at hS hS2
    exact ⟨b, sv, qv, m1, m2, m3, m4, rfl, h1, h2, hS, hS2, hA.same hs (hk b h1 h2), hI, ih1 _ _ _ hR (fun k a b => hk k (by omega) (by omega)) (fun blk off n c e => hk blk (hI _ _ _ _ e).1 (by have := (hI _ _ _ _ e).2; omega)), hn, ih2 _ _ _ hR2 (fun k a b => hk k (by omega) (by omega)) (fun blk off n c e => absurd e (hn _ _ _))⟩
  | comb wd a all p q ih1 ih2 =>
    intro lo hi x hr hk hb
    obtain ⟨b, pv, qv, m1, m2, m3, rfl, h1, h2, hS, hS2, hA, n1, r1, n2, r2⟩ := hr
    unfold Sub at hS hS2
    exact ⟨b, pv, qv, m1, m2, m3, rfl, h1, h2, hS, hS2, hA.same hs (hk b h1 h2), n1, ih1 _ _ _ r1 (fun k a b => hk k (by omega) (by omega)) (fun _ _ _ _ e => absurd e (n1 _ _ _)), n2, ih2 _ _ _ r2 (fun k a b => hk k (by omega) (by omega)) (fun _ _ _ _ e => absurd e (n2 _ _ _))⟩
  | sel di st ex src wh ih1 ih2 =>
    intro lo hi x hr hk hb
    obtain ⟨b, xv, fv, wv, m1, m2, m3, m4, rfl, h1, h2, hS, hS2, hA, hI, hX, hF, hn, hR⟩ := hr
    unfold Sub at hS hS2
    refine ⟨b, xv, fv, wv, m1, m2, m3, m4, rfl, h1, h2, hS, hS2, hA.same hs (hk b h1 h2), hI, ?_, ?_, hn, ih2 _ _ _ hR (fun k a b => hk k (by omega) (by omega)) (fun blk off n c e => absurd e (hn _ _ _))⟩
    · rcases hX with h | ⟨h, hX⟩
      · exact Or.inl h
      · exact Or.inr ⟨h, ih1 _ _ _ hX (fun k a b => hk k (by omega) (by omega)) (fun blk off n c e => hk blk (hI _ _ _ _ e).1 (by have := (hI _ _ _ _ e).2; omega))⟩
    · rcases hF with h | ⟨blk, c, e, hne, l1, l2, l3, hs'⟩
      · exact Or.inl h
      · exact Or.inr ⟨blk, c, e, hne, l1, l2, Nat.lt_of_lt_of_le l3 hs, hs'.same (hk blk (by omega) (by omega))⟩

theorem SIn.wide {lo hi lo' hi' : Nat} {x : Value} (h : SIn lo hi x) (a : lo' ≤ lo) (b : hi ≤ hi') : SIn lo' hi' x := fun blk off n c e => by have := h blk off n c e; omega

/-- A wider place. -/
theorem Rp.wide {w : World} : ∀ (nd : Sp.Nd) (lo hi lo' hi' : Nat) (x : Value), Rp w nd lo hi x → lo' ≤ lo → hi ≤ hi' → Rp w nd lo' hi' x := by
  intro nd
  induction nd with
  | nil => intro lo hi lo' hi' x h a b; exact ⟨by have := h.1; omega, h.2⟩
  | none => intro lo hi lo' hi' x h a b; exact ⟨by have := h.1; omega, h.2⟩
  | cons h t ih1 ih2 =>
    intro lo hi lo' hi' x hr ha hb
    obtain ⟨blk, off, n, c, v, m1, m2, rfl, hl, hS, hc, hn, h1, h2⟩ := hr
    unfold Sub at hS
    exact ⟨blk, off, n, c, v, m1, m2, rfl, hl, by unfold Sub; omega, hc, hn, h1, ih2 _ _ _ _ _ h2 (Nat.le_refl _) hb⟩
  | clause a e ih =>
    intro lo hi lo' hi' x hr ha hb
    obtain ⟨b, v, m1, m2, rfl, h1, h2, hS, hA, hn, hR⟩ := hr
    unfold Sub at hS
    exact ⟨b, v, m1, m2, rfl, by omega, by omega, by unfold Sub; omega, hA, hn, hR⟩
  | const c =>
    intro lo hi lo' hi' x hr ha hb
    obtain ⟨b, rfl, h1, h2, hA⟩ := hr
    exact ⟨b, rfl, by omega, by omega, hA⟩
  | col t n a o sr ce =>
    intro lo hi lo' hi' x hr ha hb
    obtain ⟨b, rfl, h1, h2, hA, hf⟩ := hr
    exact ⟨b, rfl, by omega, by omega, hA, hf⟩
  | op wd a args ih =>
    intro lo hi lo' hi' x hr ha hb
    obtain ⟨b, sv, m1, m2, rfl, h1, h2, hS, hA, hI, hR⟩ := hr
    unfold Sub at hS
    exact ⟨b, sv, m1, m2, rfl, by omega, by omega, by unfold Sub; omega, hA, hI.wide ha hb, hR⟩
  | kase arms els ih1 ih2 =>
    intro lo hi lo' hi' x hr ha hb
    obtain ⟨b, av, ev, m1, m2, m3, rfl, h1, h2, hS, hS2, hA, hI, hR, hn, hR2⟩ := hr
    exact ⟨b, av, ev, m1, m2, m3, rfl, by omega, by omega, by omega, hS2, hA, hI.wide ha (Nat.le_refl _), hR, hn, hR2⟩
  | arms wa e ta t rest ih1 ih2 ih3 =>
    intro lo hi lo' hi' x hr ha hb
    obtain ⟨blk, off, n, c, v1, v2, m1, m2, m3, rfl, hl, hS, hS2, c0, c1, c2, c3, n1, r1, n2, r2, r3⟩ := hr
    unfold Sub at hS hS2
    exact ⟨blk, off, n, c, v1, v2, m1, m2, m3, rfl, hl, by unfold Sub; omega, by unfold Sub; omega, c0, c1, c2, c3, n1, r1, n2, r2, ih3 _ _ _ _ _ r3 (Nat.le_refl _) hb⟩
  | within wd a args q ih1 ih2 =>
    intro lo hi lo' hi' x hr ha hb
    obtain ⟨b, sv, qv, m1, m2, m3, m4, rfl, h1, h2, hS, hS2, hA, hI, hR, hn, hR2⟩ := hr
    unfold Sub at hS hS2
    exact ⟨b, sv, qv, m1, m2, m3, m4, rfl, by omega, by omega, by unfold Sub; omega, by unfold Sub; omega, hA, hI.wide ha (Nat.le_refl _), hR, hn, hR2⟩
  | comb wd a all p q ih1 ih2 =>
    intro lo hi lo' hi' x hr ha hb
    obtain ⟨b, pv, qv, m1, m2, m3, rfl, h1, h2, hS, hS2, hA, n1, r1, n2, r2⟩ := hr
    unfold Sub at hS hS2
    exact ⟨b, pv, qv, m1, m2, m3, rfl, by omega, by omega, by unfold Sub; omega, by unfold Sub; omega, hA, n1, r1, n2, r2⟩
  | sel di st ex src wh ih1 ih2 =>
    intro lo hi lo' hi' x hr ha hb
    obtain ⟨b, xv, fv, wv, m1, m2, m3, m4, rfl, h1, h2, hS, hS2, hA, hI, hX, hF, hn, hR⟩ := hr
    unfold Sub at hS hS2
    exact ⟨b, xv, fv, wv, m1, m2, m3, m4, rfl, by omega, by omega, by unfold Sub; omega, by unfold Sub; omega, hA, hI.wide ha (Nat.le_refl _), hX, hF, hn, hR⟩

/-- The place's ends are in order. -/
theorem Rp.le {w : World} : ∀ (nd : Sp.Nd) (lo hi : Nat) (x : Value), Rp w nd lo hi x → lo ≤ hi := by
  intro nd
  cases nd with
  | nil => intro lo hi x h; exact h.1
  | none => intro lo hi x h; exact h.1
  | cons h t =>
    intro lo hi x hr
    obtain ⟨blk, off, n, c, v, m1, m2, rfl, hl, hS, _⟩ := hr
    unfold Sub at hS; omega
  | arms =>
    intro lo hi x hr
    obtain ⟨blk, off, n, c, v1, v2, m1, m2, m3, rfl, hl, hS, _⟩ := hr
    unfold Sub at hS; omega
  | clause a e => intro lo hi x hr; obtain ⟨b, v, m1, m2, rfl, h1, h2, _⟩ := hr; omega
  | const c => intro lo hi x hr; obtain ⟨b, rfl, h1, h2, _⟩ := hr; omega
  | col => intro lo hi x hr; obtain ⟨b, rfl, h1, h2, _⟩ := hr; omega
  | op => intro lo hi x hr; obtain ⟨b, _, _, _, rfl, h1, h2, _⟩ := hr; omega
  | kase => intro lo hi x hr; obtain ⟨b, _, _, _, _, _, rfl, h1, h2, _⟩ := hr; omega
  | within => intro lo hi x hr; obtain ⟨b, _, _, _, _, _, _, rfl, h1, h2, _⟩ := hr; omega
  | comb => intro lo hi x hr; obtain ⟨b, _, _, _, _, _, rfl, h1, h2, _⟩ := hr; omega
  | sel => intro lo hi x hr; obtain ⟨b, _, _, _, _, _, _, _, rfl, h1, h2, _⟩ := hr; omega

/-- Under the parser's hands: its own block lies below. -/
theorem Rp.kept {b : Nat} {w w' : World} {nd : Sp.Nd} {lo hi : Nat} {x : Value} (h : Rp w nd lo hi x) (k : Kept b w w') (hb : b < lo) (hhi : hi ≤ w.heap.size) (hx : SIn lo hi x) : Rp w' nd lo hi x :=
  h.frame k.size _ _ _ _ (fun j a c => k.block j (by omega) (by omega)) (fun blk off n c e => by have := hx blk off n c e; exact k.block blk (by omega) (by omega))

end Go.Proofs.YtgnncnhkgmhngaaGreatDoor

namespace Go.Proofs.YtgnncnhkgmhngaaGreatDoor
open Go.RowKit

/-- An interface's value; a slice; a pointer; a name. -/
def IsIf (v : Value) : Prop := v = .nilIface ∨ ∃ t u, v = .iface t u
def IsSl (v : Value) : Prop := ∃ a n c, v = .slice a n c
def IsPt (v : Value) : Prop := ∃ a, v = .pointer a
def IsNm (v : Value) : Prop := ∃ wd a, v = .agg #[.string wd, .int .i64 a]
def IsCl (v : Value) : Prop := ∃ a x, v = .agg #[.int .i64 a, x] ∧ IsIf x
abbrev enN (x : Sp.Nm) : Value := .agg #[.string (bz x.1), .int .i64 (x.2 : Nat)]

theorem IsIf.noSl {v : Value} (h : IsIf v) : NoSl v := by
  rcases h with rfl | ⟨t, u, rfl⟩ <;> exact fun _ _ _ h => by cases h
theorem IsPt.noSl {v : Value} (h : IsPt v) : NoSl v := by
  obtain ⟨a, rfl⟩ := h; exact fun _ _ _ h => by cases h
theorem NoSl.sin {v : Value} (h : NoSl v) (lo hi : Nat) : SIn lo hi v := fun _ _ _ _ e => absurd e (h _ _ _)

/-- The post of a call that gives a value: its shape always, what it is where nothing is wrong. -/
def PostV (b c cap len : Nat) (s : Sp.Bs) (d : Nat) (σ : Sp.St) (w : World) (Sh : Value → Prop) (R : World → Value → Prop) (r : Ending) (w' : World) : Prop :=
  ∃ v, r = .returned v ∧ PS b c cap len s d σ w' ∧ Kept b w w' ∧ Sh v ∧ (σ.isLive = true → R w' v)

theorem ba_eq (x : ByteArray) : bz x.toList = x := by
  cases x with | mk d => simp [bz, ByteArray.toList_eq]

/-- The token that comes is the state's. -/
theorem tok_live {c : Nat} {s : Sp.Bs} {len i : Nat} {σ : Sp.St} {w : World} {wd : ByteArray} (hi : IX s len i σ) (tc : TC c s w i wd) (hl : σ.isLive = true) : Sp.tokAt s (pos s i) = σ.at_ s ∧ ((∀ e, σ = .live e → Sp.tokCl s e ≠ .bad) → wd = bz (σ.word s)) := by
  cases σ with
  | dead x a => cases hl
  | live e =>
    have h1 := hi.2
    have h2 := tc.wq
    rw [h1] at h2 ⊢
    refine ⟨rfl, fun hb => ?_⟩
    have h3 := h2 (hb e rfl)
    show wd = bz (Sp.tokWord s e)
    rw [← h3]
    exact (ba_eq wd).symm

theorem not_bad {s : Sp.Bs} {k : Sp.Cl} {σ : Sp.St} (h : σ.isCl s k = true) (hb : k ≠ .bad) : ∀ e, σ = .live e → Sp.tokCl s e ≠ .bad := by
  intro e he
  subst he
  have : Sp.tokCl s e = k := by simpa [Sp.St.isCl] using h
  rw [this]; exact hb
theorem not_bad_is {s z : Sp.Bs} {σ : Sp.St} (h : σ.is s z = true) : ∀ e, σ = .live e → Sp.tokCl s e ≠ .bad := by
  intro e he
  subst he
  have : Sp.tokCl s e = .key := by simp [Sp.St.is] at h; exact h.1
  rw [this]; decide
theorem not_bad_sees {s : Sp.Bs} {zs : List Sp.Bs} {σ : Sp.St} (h : seesOne s zs σ = true) : ∀ e, σ = .live e → Sp.tokCl s e ≠ .bad := by
  unfold seesOne at h
  obtain ⟨z, _, hz⟩ := List.any_eq_true.1 h
  exact not_bad_is hz
theorem live_sees {s : Sp.Bs} {zs : List Sp.Bs} {σ : Sp.St} (h : seesOne s zs σ = true) : σ.isLive = true := by
  unfold seesOne at h
  obtain ⟨z, _, hz⟩ := List.any_eq_true.1 h
  exact Sp.live_is hz

/-- A block of one's own. -/
structure Bk (w : World) (q : Nat) (vs : List Value) : Prop where
  lt : q < w.heap.size
  c : ∀ j, (h : j < vs.length) → w.cell? ⟨q, j, none⟩ = some vs[j]
  f : ∀ j, w.frozen? ⟨q, j, none⟩ = false

theorem Bk.new (w : World) (arr : Array Value) (t : TypeId) : Bk (w.alloc (.cells arr t)) w.heap.size arr.toList := by
  refine ⟨by simp, fun j h => ?_, fun j => by go_simp⟩
  rw [World.cell?_alloc_new]
  have : j < arr.size := by simpa using h
  simp [this]
theorem Bk.same {w w' : World} {q : Nat} {vs : List Value} (h : Bk w q vs) (hs : w.heap.size ≤ w'.heap.size) (e : w'.heap[q]? = w.heap[q]?) : Bk w' q vs :=
  ⟨Nat.lt_of_lt_of_le h.lt hs, fun j hj => (World.cell?_of_block (w := w) (a := ⟨q, j, none⟩) e).trans (h.c j hj), fun j => (World.frozen?_of_block (w := w) (a := ⟨q, j, none⟩) e).trans (h.f j)⟩
theorem Bk.kept {b : Nat} {w w' : World} {q : Nat} {vs : List Value} (h : Bk w q vs) (k : Kept b w w') (ne : q ≠ b) : Bk w' q vs := h.same k.size (k.block q h.lt ne)
theorem Bk.alloc {w : World} {q : Nat} {vs : List Value} (h : Bk w q vs) (o : Obj) : Bk (w.alloc o) q vs := h.same (by simp) (Below.heap_alloc _ _ _ h.lt)
theorem Bk.below {w w' : World} {q : Nat} {vs : List Value} (h : Bk w q vs) (k : Below w.heap.size w w') : Bk w' q vs := h.same k.size (k.block q h.lt)
theorem Bk.at_ {w : World} {q : Nat} {vs : List Value} (h : Bk w q vs) : At w q vs := ⟨h.lt, h.c⟩

/-- Another block turns. -/
theorem PS.put {b c cap len : Nat} {s : Sp.Bs} {d : Nat} {σ : Sp.St} {w : World} (h : PS b c cap len s d σ w) (q o : Nat) (hb : q ≠ b) (hc : c < q) (u : Value) : PS b c cap len s d σ (w.setCell ⟨q, o, none⟩ u) := by
  have e : ∀ k, k ≠ q → (w.setCell ⟨q, o, none⟩ u).heap[k]? = w.heap[k]? := fun k hk => Below.heap_setCell _ _ _ _ hk
  have eb : ∀ i, (w.setCell ⟨q, o, none⟩ u).cell? ⟨b, i, none⟩ = w.cell? ⟨b, i, none⟩ := fun i => World.cell?_of_block (w := w) (a := ⟨b, i, none⟩) (e b (Ne.symm hb))
  have ec : ∀ i, (w.setCell ⟨q, o, none⟩ u).cell? ⟨c, i, none⟩ = w.cell? ⟨c, i, none⟩ := fun i => World.cell?_of_block (w := w) (a := ⟨c, i, none⟩) (e c (by omega))
  have ef : ∀ i, (w.setCell ⟨q, o, none⟩ u).frozen? ⟨b, i, none⟩ = w.frozen? ⟨b, i, none⟩ := fun i => World.frozen?_of_block (w := w) (a := ⟨b, i, none⟩) (e b (Ne.symm hb))
  obtain ⟨i, hi, h1⟩ := h.h1
  refine ⟨by simpa using h.lb, by simpa using h.lc, h.ne, h.tk, (eb 0).trans h.h0, ⟨i, hi, (eb 1).trans h1⟩, (eb 2).trans h.h2, (eb 3).trans h.h3, (eb 4).trans h.h4, fun o => (ef o).trans (h.fz o), fun j hj => ?_, h.h5, ?_⟩
  · obtain ⟨wd, t⟩ := h.tc j hj
    exact ⟨wd, (ec _).trans t.k, (ec _).trans t.a, (ec _).trans t.t, t.ok, t.wq⟩
  · obtain ⟨m, hm⟩ := h.vm
    have := h.h5
    exact ⟨m, (World.cell?_of_block (w := w) (a := ⟨5, 0, none⟩) (e 5 (by omega))).trans hm⟩

set_option maxHeartbeats 1000000 in
theorem name_any {b c cap len : Nat} {s : Sp.Bs} {d : Nat} {σ : Sp.St} {w : World} (h : PS b c cap len s d σ w) :
    Calls Tryz.prog 79 #[.pointer (some ⟨b, 0, none⟩)] w (PostV b c cap len s d (σ.nameT s) w IsNm fun _ v => v = enN (σ.nm s)) := by
  obtain ⟨i, wd, hi, tc, P⟩ := peek_any (h.alloc (.cells #[.string ⟨#[]⟩, .int .i64 0] 165))
  have HL : Hid ((σ.nameT s).isLive = true → Value.agg #[.string wd, .int .i64 (Sp.tokAt s (pos s i) : Nat)] = enN (σ.nm s)) := by
    intro hl
    have hl' := Sp.live_nameT hl
    have hn : σ.isCl s .name = true := by
      cases hn : σ.isCl s .name
      · rw [Sp.St.nameT, hn] at hl; exact (Sp.live_fail hl).elim
      · rfl
    obtain ⟨h1, h2⟩ := tok_live hi tc hl'
    rw [h1, h2 (not_bad hn (by decide))]
    rfl
  have hb := h.lb
  have hc := h.lc
  have HH : Hid (PS b c cap len s d σ (w.alloc (.cells #[.string ⟨#[]⟩, .int .i64 0] 165))) := h.alloc _
  have HP : Hid (∀ w', w' = w.alloc (.cells #[.string ⟨#[]⟩, .int .i64 0] 165) → Calls Tryz.prog 75 #[.pointer (some ⟨b, 0, none⟩)] w' fun r w'' => r = .returned (.agg #[.int .i64 (kn (Sp.tokCl s (pos s i))), .int .i64 (Sp.tokAt s (pos s i) : Nat), .string wd]) ∧ Below (w.alloc (.cells #[.string ⟨#[]⟩, .int .i64 0] 165)).heap.size (w.alloc (.cells #[.string ⟨#[]⟩, .int .i64 0] 165)) w'') := fun w' e => by subst e; exact P
  have HB0 : Hid (Bk (w.alloc (.cells #[.string ⟨#[]⟩, .int .i64 0] 165)) w.heap.size [.string ⟨#[]⟩, .int .i64 0]) := Bk.new _ _ _
  have HK0 : Hid (Kept b w (w.alloc (.cells #[.string ⟨#[]⟩, .int .i64 0] 165))) := (Kept.refl b w).alloc _
  clear h tc hi P
  generalize kn (Sp.tokCl s (pos s i)) = kk at HP
  generalize Sp.tokAt s (pos s i) = aa at *
  go_enter Tryz.func79, Tryz.ntmps79
  go_wp2_with fail
  refine (HP.out _ rfl).mono ?_
  rintro r w1 ⟨rfl, hb1⟩
  clear HP
  generalize w.alloc (.cells #[.string ⟨#[]⟩, .int .i64 0] 165) = w0 at *
  have HP1 : Hid (PS b c cap len s d σ w1) := HH.out.below hb1
  have HK1 : Hid (Kept b w w1) := HK0.out.trans (Kept.below hb1)
  have HB1 : Hid (Bk w1 w.heap.size [.string ⟨#[]⟩, .int .i64 0]) := HB0.out.below hb1
  clear hb1 HH HK0 HB0
  have HX : Hid (Bk (w1.alloc (.cells #[.int .i64 kk, .int .i64 aa, .string wd] 155)) w1.heap.size [.int .i64 kk, .int .i64 aa, .string wd]) := Bk.new _ _ _
  have hbl := HP1.out.lb
  cases hs : σ.isCl s .name
  · have HM : Hid (σ.nameT s = σ.fail s 2) := by show _ = _; simp [Sp.St.nameT, hs]
    go_wp2_with fail
    refine (acceptKind_any (HP1.out.alloc _) .name (by decide) (by decide) _ rfl).mono ?_
    rintro r w2 ⟨rfl, hp2, hk2⟩
    rw [hs] at hp2
    have HP2 : Hid (PS b c cap len s d σ w2) := hp2
    have HK2 : Hid (Kept b w w2) := (HK1.out.alloc _).trans hk2
    have HB2 : Hid (Bk w2 w.heap.size [.string ⟨#[]⟩, .int .i64 0]) := (HB1.out.alloc _).kept hk2 (by omega)
    have HX2 : Hid (Bk w2 w1.heap.size [.int .i64 kk, .int .i64 aa, .string wd]) := HX.out.kept hk2 (by omega)
    clear hp2 hk2 HX HB1
    go_wp2_with fail
    refine (refuse_any HP2.out).mono ?_
    rintro r w3 ⟨rfl, hp3, hk3⟩
    have HP3 : Hid (PS b c cap len s d (σ.fail s 2) w3) := hp3
    have HK3 : Hid (Kept b w w3) := HK2.out.trans hk3
    have hB3 := HB2.out.kept hk3 (by omega)
    have hX3 := HX2.out.kept hk3 (by omega)
    have c0 := hB3.c 0 (by decide)
    have c1 := hB3.c 1 (by decide)
    have f0 := hB3.f 0
    have f1 := hB3.f 1
    have x1 := hX3.c 1 (by simp)
    have x2 := hX3.c 2 (by simp)
    simp only [List.getElem_cons_zero, List.getElem_cons_succ] at c0 c1 x1 x2
    clear hp3 hk3 hB3 hX3
    go_wp2_with fail
    exact bodyPost_ret (v := .agg #[.string wd, .int .i64 aa]) (by simp [results, Tryz.results79, go_sem, *]) rfl ⟨_, rfl, by rw [HM.out]; exact (HP3.out.put w.heap.size 0 (by omega) (by omega) _).put w.heap.size 1 (by omega) (by omega) _, (HK3.out.setNew (by simp) _).setNew (by simp) _, ⟨_, _, rfl⟩, fun hl => HL.out hl⟩
  · have HM : Hid (σ.nameT s = σ.step s) := by show _ = _; simp [Sp.St.nameT, hs]
    go_wp2_with fail
    refine (acceptKind_any (HP1.out.alloc _) .name (by decide) (by decide) _ rfl).mono ?_
    rintro r w2 ⟨rfl, hp2, hk2⟩
    rw [hs] at hp2
    have HP2 : Hid (PS b c cap len s d (σ.step s) w2) := hp2
    have HK2 : Hid (Kept b w w2) := (HK1.out.alloc _).trans hk2
    have hB3 := (HB1.out.alloc _).kept hk2 (by omega)
    have hX3 := HX.out.kept hk2 (by omega)
    have c0 := hB3.c 0 (by decide)
    have c1 := hB3.c 1 (by decide)
    have f0 := hB3.f 0
    have f1 := hB3.f 1
    have x1 := hX3.c 1 (by simp)
    have x2 := hX3.c 2 (by simp)
    simp only [List.getElem_cons_zero, List.getElem_cons_succ] at c0 c1 x1 x2
    clear hp2 hk2 hB3 hX3
    go_wp2_with fail
    exact bodyPost_ret (v := .agg #[.string wd, .int .i64 aa]) (by simp [results, Tryz.results79, go_sem, *]) rfl ⟨_, rfl, by rw [HM.out]; exact (HP2.out.put w.heap.size 0 (by omega) (by omega) _).put w.heap.size 1 (by omega) (by omega) _, (HK2.out.setNew (by simp) _).setNew (by simp) _, ⟨_, _, rfl⟩, fun hl => HL.out hl⟩

end Go.Proofs.YtgnncnhkgmhngaaGreatDoor
