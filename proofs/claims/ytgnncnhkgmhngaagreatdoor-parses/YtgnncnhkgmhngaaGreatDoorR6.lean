import Derived.Test.YtgnncnhkgmhngaaGreatDoorR2
import Derived.Test.YtgnncnhkgmhngaaGreatDoorR3
import Derived.Test.YtgnncnhkgmhngaaGreatDoorR5
import Derived.Deep.AppendLies
import Derived.Deep.RegionLaw
namespace Go.Proofs.YtgnncnhkgmhngaaGreatDoor
open Go.RowKit

theorem token_any (s : ByteArray) (a : Nat) (w : World) (hs : s.size ≤ 2000) (ha : a ≤ s.size) :
    Calls Tryz.prog 62 #[.string s, .int .i64 a] w (TR s a w) := by
  have hle : Sp.tokAt s.data.toList a ≤ s.size := by
    unfold Sp.tokAt
    have := many_le Sp.isSp (s.data.toList.drop a); rw [List.length_drop, size_data] at this; omega
  by_cases hA : Sp.tokAt s.data.toList a < s.size
  · cases hl : Sp.isLo s[Sp.tokAt s.data.toList a]
    · cases hd : Sp.isDg s[Sp.tokAt s.data.toList a]
      · cases hq : (s[Sp.tokAt s.data.toList a] == 39)
        · exact token_sign s a w hs ha _ rfl hA hl hd hq
        · exact token_txt s a w hs ha _ rfl hA hl hd hq
      · exact token_num s a w hs ha _ rfl hA hl hd
    · exact token_word s a w hs ha _ rfl hA hl
  · exact token_end s a w hs ha (by show _ = _; omega)

/-- What the reader's cells hold. -/
structure RD where
  (kd ts does table : ByteArray)
  (ta tn en at_ wh wa q ia : Int)
  (vc vr vg vn vq : Value)

/-- The reader in block b. -/
structure RC (b : Nat) (s : ByteArray) (x : RD) (d e a : Nat) (w : World) : Prop where
  lb : b < w.heap.size
  c0 : w.cell? ⟨b, 0, none⟩ = some (.string s)
  c1 : w.cell? ⟨b, 1, none⟩ = some (.string x.kd)
  c2 : w.cell? ⟨b, 2, none⟩ = some (.int .i64 x.ta)
  c3 : w.cell? ⟨b, 3, none⟩ = some (.string x.ts)
  c4 : w.cell? ⟨b, 4, none⟩ = some (.int .i64 x.tn)
  c5 : w.cell? ⟨b, 5, none⟩ = some (.int .i64 x.en)
  c6 : w.cell? ⟨b, 6, none⟩ = some (.int .i64 d)
  c7 : w.cell? ⟨b, 7, none⟩ = some (.int .i64 e)
  c8 : w.cell? ⟨b, 8, none⟩ = some (.int .i64 a)
  c9 : w.cell? ⟨b, 9, none⟩ = some (.string x.does)
  c10 : w.cell? ⟨b, 10, none⟩ = some (.string x.table)
  c11 : w.cell? ⟨b, 11, none⟩ = some (.int .i64 x.at_)
  c12 : w.cell? ⟨b, 12, none⟩ = some x.vc
  c13 : w.cell? ⟨b, 13, none⟩ = some x.vr
  c14 : w.cell? ⟨b, 14, none⟩ = some x.vg
  c15 : w.cell? ⟨b, 15, none⟩ = some (.int .i64 x.wh)
  c16 : w.cell? ⟨b, 16, none⟩ = some (.int .i64 x.wa)
  c17 : w.cell? ⟨b, 17, none⟩ = some (.int .i64 x.q)
  c18 : w.cell? ⟨b, 18, none⟩ = some (.int .i64 x.ia)
  c19 : w.cell? ⟨b, 19, none⟩ = some x.vn
  c20 : w.cell? ⟨b, 20, none⟩ = some x.vq
  fz : ∀ o, w.frozen? ⟨b, o, none⟩ = false

/-- A list that the reader owns: how long it is. -/
def Ow (b : Nat) (e : TypeId) (size : Nat) (v : Value) (n : Nat) (w : World) : Prop := ∃ xs, w.ownsRow (b + 1) e size v n xs

/-- How far the reading is: what is appended is never more. -/
def far (s : Sp.Bs) : Sp.St → Nat
  | .live e => min e s.length
  | .dead _ _ => s.length + 1

/-- How many columns, rows and changes there are. -/
structure Ct where
  (nc nr ng : Nat)

/-- The reader's lists; k: so many nodes and queries more could be there by how far the reading is. -/
structure RO (b : Nat) (s : Sp.Bs) (k : Nat) (c : Ct) (σ : Sp.St) (x : RD) (w : World) : Prop where
  oc : Ow b 201 3 x.vc c.nc w
  or : Ow b 210 2 x.vr c.nr w
  og : Ow b 214 4 x.vg c.ng w
  on : ∃ n, Ow b 294 9 x.vn n w ∧ n + k ≤ far s σ
  oq : ∃ n, Ow b 219 11 x.vq n w ∧ n + k ≤ far s σ

/-- The token that comes. -/
def RT (s : Sp.Bs) (x : RD) : Sp.St → Prop
  | .live e => e ≤ s.length ∧ x.kd.toList = kname (Sp.tokCl s e) ∧ x.ta = (Sp.tokAt s e : Nat) ∧ (Sp.tokCl s e = .key → x.ts.toList = Sp.tokWord s e) ∧ (Sp.tokCl s e ≠ .bad → x.en = (Sp.tokEnd s e : Nat))
  | .dead y _ => y ≠ 0 ∧ x.kd.toList = [98, 97, 100]

/-- The reader stands at σ, d things are open. -/
def RS (b : Nat) (s : ByteArray) (d k : Nat) (c : Ct) (σ : Sp.St) (w : World) : Prop :=
  s.size ≤ 2000 ∧ ∃ x, RC b s x d (er σ) (ea σ) w ∧ RO b s.data.toList k c σ x w ∧ RT s.data.toList x σ
end Go.Proofs.YtgnncnhkgmhngaaGreatDoor
