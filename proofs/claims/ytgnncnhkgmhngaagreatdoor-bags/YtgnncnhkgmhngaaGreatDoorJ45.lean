import Derived.Test.YtgnncnhkgmhngaaGreatDoorJ44
set_option maxHeartbeats 4000000
set_option maxRecDepth 100000
namespace Go.Proofs.YtgnncnhkgmhngaaGreatDoor
open Go.RowKit Go.Sort
attribute [local go_sem] Oper.semAt_some
structure Zc (w:World) (ta:Option Addr) (tn tc q:Nat) (V:TV) (W:World) (tB:Nat):Prop where
 bel:RowKit.Below w.heap.size w W
 lt:w.heap.size+3<=tB
 tab:B3 W tB (.string V.name) V.cv V.rv
 res:Bk W (w.heap.size+2) [.int .i64 0, .int .i64 0, .int .i64 0, .slice none 0 0, .int .i64 0]
 c0:W.cell? ⟨w.heap.size,0,none⟩=some (.slice ta tn tc)
 c1:W.cell? ⟨w.heap.size+1,0,none⟩=some (.pointer (some ⟨q,0,none⟩))
theorem fA {α:Type} (xs:List α):aK [xs]=xs.map λv => [v]:=by
 simp [aK]
 induction xs with
 | nil=>rfl
 | cons a l ih=>simp [ih]
theorem cD.sl {C:Nat->Prop} {w:World} {T:List Sp.Tb} {v:Value} (h:cD C w T v):∃ a n c,v = .slice a n c:=by
 rcases h.2 with ⟨_,e⟩ | ⟨b,off,c,V,e,_⟩
 ·exact ⟨_,_,_,e⟩
 ·exact ⟨_,_,_,e⟩
end Go.Proofs.YtgnncnhkgmhngaaGreatDoor
