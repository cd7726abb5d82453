import Derived.Test.YtgnncnhkgmhngaaGreatDoorRows
import Derived.JoinedOf
import Derived.ProofKit
namespace Go.Proofs.YtgnncnhkgmhngaaGreatDoor
open Go

theorem and_both {a b : Bool} (h : a = true) (k : b = true) : (a && b) = true := by rw [h, k]; rfl
theorem pf_laidOut : laidOutB Tryz.prog = true := by kernel_rfl
theorem pf_maps : mapsRowed Tryz.prog = true := by kernel_rfl
theorem pf_place : (Rows.parsesRow.inPlace == Tryz.prog.inPlace 3) = true := by kernel_rfl
theorem pf_unf : (Rows.parsesRow.unfollowed == Tryz.prog.unfollowed 3) = true := by kernel_rfl
theorem pf_rec : (Rows.parsesRow.recurses == Tryz.prog.recurses 3) = true := by kernel_rfl
theorem pf_named : (Rows.parsesRow.named == Tryz.prog.varsNamed 3) = true := by kernel_rfl
theorem pf_tie : namedTie Tryz.prog Rows.parsesRow.named Rows.parsesSpec.vars = true := by kernel_rfl
theorem pf_wf : Rows.parsesRow.wf (OpenSpec.ofChange Rows.parsesSpec) = true := by kernel_rfl
end Go.Proofs.YtgnncnhkgmhngaaGreatDoor
