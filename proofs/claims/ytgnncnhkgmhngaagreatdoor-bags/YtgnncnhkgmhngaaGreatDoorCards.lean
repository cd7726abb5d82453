/-
  DERIVED. GIVEN WITH THE SEED: THE CARDS: each row of YtgnncnhkgmhngaaGreatDoorRows.lean that lists a variable, with what it lists TIED to the program's text (the seventh form; the later family's looks); each row that meets fmt, with fmt's text TOLD by the authors' own Lean function (tested against real Go, not proved from fmt's source: count such statements apart). THE CARD IS WHAT COUNTS. Prove the row's statement (the work); the ties are given (YtgnncnhkgmhngaaGreatDoorTie.lean); close each card by the builder's one call (the guide's Derived/Test/ToyasCard.lean, 'card_holds'). Laid BY PROGRAM, IN A SANDBOX (cutbox-door.mjs). By AI agents, Wed Nov 11 2026. No macro, syntax, notation, axiom, sorry.
-/
import Derived.Test.YtgnncnhkgmhngaaGreatDoorRows
import GoSem.ClaimSeven
namespace Go.Proofs.YtgnncnhkgmhngaaGreatDoor
namespace Rows

/-- THE TIED CARD OF 'satchellaw.Parses'. -/
def parsesCard : Claim7 := { stood := { row := parsesRow, standIns := [], harness := (true, "02cbb97f727a8cb6318459a5ba3a299f2849ef90385e85bc56462d3986ac1eba"), looks := true }, kinds := [], alts := [], goes := true, laidByText := true, laidKinds := [.data, .data, .data, .data, .sentinel, .sentinel, .pinned], laidTests := true, laidLooks := .later }
def ParsesCardSaid : Prop := Claim7.holds Tryz.pinned (.plain (OpenSpec.ofChange parsesSpec)) parsesCard

/-- THE TIED CARD OF 'satchellaw.Flat'. -/
def flatCard : Claim7 := { stood := { row := flatRow, standIns := [], harness := (true, "02cbb97f727a8cb6318459a5ba3a299f2849ef90385e85bc56462d3986ac1eba"), looks := true }, kinds := [], alts := [], goes := true, laidByText := true, laidKinds := [.data, .data, .data, .data, .sentinel, .sentinel, .pinned], laidTests := true, laidLooks := .later }
def FlatCardSaid : Prop := Claim7.holds Tryz.pinned (.plain (OpenSpec.ofChange flatSpec)) flatCard

/-- THE TIED CARD OF 'satchelkeep.Kept'. -/
def keptCard : Claim7 := { stood := { row := keptRow, standIns := [], harness := (true, "02cbb97f727a8cb6318459a5ba3a299f2849ef90385e85bc56462d3986ac1eba"), looks := true }, kinds := [], alts := [], goes := true, laidByText := true, laidKinds := [.data, .data, .data, .data, .sentinel, .sentinel, .pinned], laidTests := true, laidLooks := .later }
def KeptCardSaid : Prop := Claim7.holds Tryz.pinned (.plain (OpenSpec.ofChange keptSpec)) keptCard

/-- THE TIED CARD OF 'satchelkeep.Changed'. -/
def changedCard : Claim7 := { stood := { row := changedRow, standIns := [], harness := (true, "02cbb97f727a8cb6318459a5ba3a299f2849ef90385e85bc56462d3986ac1eba"), looks := true }, kinds := [], alts := [], goes := true, laidByText := true, laidKinds := [.data, .data, .data, .data, .sentinel, .sentinel, .pinned], laidTests := true, laidLooks := .later }
def ChangedCardSaid : Prop := Claim7.holds Tryz.pinned (.plain (OpenSpec.ofChange changedSpec)) changedCard

/-- THE TIED CARD OF 'satchellaw.Execs'. -/
def execsCard : Claim7 := { stood := { row := execsRow, standIns := [], harness := (true, "02cbb97f727a8cb6318459a5ba3a299f2849ef90385e85bc56462d3986ac1eba"), looks := true }, kinds := [], alts := [], goes := true, laidByText := true, laidKinds := [.data, .data, .data, .data, .sentinel, .sentinel, .pinned], laidTests := true, laidLooks := .later }
def ExecsCardSaid : Prop := Claim7.holds Tryz.pinned (.plain (OpenSpec.ofChange execsSpec)) execsCard

/-- THE TIED CARD OF 'satchelkeep.Bags'. -/
def bagsCard : Claim7 := { stood := { row := bagsRow, standIns := [], harness := (true, "02cbb97f727a8cb6318459a5ba3a299f2849ef90385e85bc56462d3986ac1eba"), looks := true }, kinds := [], alts := [], goes := true, laidByText := true, laidKinds := [.data, .data, .data, .data, .sentinel, .sentinel, .pinned], laidTests := true, laidLooks := .later }
def BagsCardSaid : Prop := Claim7.holds Tryz.pinned (.plain (OpenSpec.ofChange bagsSpec)) bagsCard

/-- THE TIED CARD OF 'satchelkeep.Thirds'. -/
def thirdsCard : Claim7 := { stood := { row := thirdsRow, standIns := [], harness := (true, "02cbb97f727a8cb6318459a5ba3a299f2849ef90385e85bc56462d3986ac1eba"), looks := true }, kinds := [], alts := [], goes := true, laidByText := true, laidKinds := [.data, .data, .data, .data, .sentinel, .sentinel, .pinned], laidTests := true, laidLooks := .later }
def ThirdsCardSaid : Prop := Claim7.holds Tryz.pinned (.plain (OpenSpec.ofChange thirdsSpec)) thirdsCard

/-- THE TIED CARD OF 'satchelkeep.Joined'. -/
def joinedCard : Claim7 := { stood := { row := joinedRow, standIns := [], harness := (true, "02cbb97f727a8cb6318459a5ba3a299f2849ef90385e85bc56462d3986ac1eba"), looks := true }, kinds := [], alts := [], goes := true, laidByText := true, laidKinds := [.data, .data, .data, .data, .sentinel, .sentinel, .pinned], laidTests := true, laidLooks := .later }
def JoinedCardSaid : Prop := Claim7.holds Tryz.pinned (.plain (OpenSpec.ofChange joinedSpec)) joinedCard

/-- THE TIED CARD OF 'satchelkeep.Undone'. -/
def undoneCard : Claim7 := { stood := { row := undoneRow, standIns := [], harness := (true, "02cbb97f727a8cb6318459a5ba3a299f2849ef90385e85bc56462d3986ac1eba"), looks := true }, kinds := [], alts := [], goes := true, laidByText := true, laidKinds := [.data, .data, .data, .data, .sentinel, .sentinel, .pinned], laidTests := true, laidLooks := .later }
def UndoneCardSaid : Prop := Claim7.holds Tryz.pinned (.plain (OpenSpec.ofChange undoneSpec)) undoneCard

/-- THE TIED CARD OF 'satchellaw.All'. -/
def allCard : Claim7 := { stood := { row := allRow, standIns := [], harness := (true, "02cbb97f727a8cb6318459a5ba3a299f2849ef90385e85bc56462d3986ac1eba"), looks := true }, kinds := [], alts := [], goes := true, laidByText := true, laidKinds := [.data, .data, .data, .data, .sentinel, .sentinel, .pinned], laidTests := true, laidLooks := .later }
def AllCardSaid : Prop := Claim7.holds Tryz.pinned (.plain (OpenSpec.ofChange allSpec)) allCard

/-- THE SECOND FORM's CARD OF 'satchellaw.Parses'. -/
def parsesUptoCard : Claim7 := { stood := { row := parsesUptoRow, standIns := [], harness := (true, "02cbb97f727a8cb6318459a5ba3a299f2849ef90385e85bc56462d3986ac1eba"), looks := true }, kinds := [], alts := [], goes := true, laidByText := true, laidKinds := [.data, .data, .data, .data, .sentinel, .sentinel, .pinned], laidTests := true, laidLooks := .later }
def ParsesUptoCardSaid : Prop := Claim7.holds Tryz.pinned (.plain (OpenSpec.upto parsesSpec)) parsesUptoCard

/-- THE SECOND FORM's CARD OF 'satchellaw.Flat'. -/
def flatUptoCard : Claim7 := { stood := { row := flatUptoRow, standIns := [], harness := (true, "02cbb97f727a8cb6318459a5ba3a299f2849ef90385e85bc56462d3986ac1eba"), looks := true }, kinds := [], alts := [], goes := true, laidByText := true, laidKinds := [.data, .data, .data, .data, .sentinel, .sentinel, .pinned], laidTests := true, laidLooks := .later }
def FlatUptoCardSaid : Prop := Claim7.holds Tryz.pinned (.plain (OpenSpec.upto flatSpec)) flatUptoCard

/-- THE SECOND FORM's CARD OF 'satchelkeep.Kept'. -/
def keptUptoCard : Claim7 := { stood := { row := keptUptoRow, standIns := [], harness := (true, "02cbb97f727a8cb6318459a5ba3a299f2849ef90385e85bc56462d3986ac1eba"), looks := true }, kinds := [], alts := [], goes := true, laidByText := true, laidKinds := [.data, .data, .data, .data, .sentinel, .sentinel, .pinned], laidTests := true, laidLooks := .later }
def KeptUptoCardSaid : Prop := Claim7.holds Tryz.pinned (.plain (OpenSpec.upto keptSpec)) keptUptoCard

/-- THE SECOND FORM's CARD OF 'satchelkeep.Changed'. -/
def changedUptoCard : Claim7 := { stood := { row := changedUptoRow, standIns := [], harness := (true, "02cbb97f727a8cb6318459a5ba3a299f2849ef90385e85bc56462d3986ac1eba"), looks := true }, kinds := [], alts := [], goes := true, laidByText := true, laidKinds := [.data, .data, .data, .data, .sentinel, .sentinel, .pinned], laidTests := true, laidLooks := .later }
def ChangedUptoCardSaid : Prop := Claim7.holds Tryz.pinned (.plain (OpenSpec.upto changedSpec)) changedUptoCard

/-- THE SECOND FORM's CARD OF 'satchellaw.Execs'. -/
def execsUptoCard : Claim7 := { stood := { row := execsUptoRow, standIns := [], harness := (true, "02cbb97f727a8cb6318459a5ba3a299f2849ef90385e85bc56462d3986ac1eba"), looks := true }, kinds := [], alts := [], goes := true, laidByText := true, laidKinds := [.data, .data, .data, .data, .sentinel, .sentinel, .pinned], laidTests := true, laidLooks := .later }
def ExecsUptoCardSaid : Prop := Claim7.holds Tryz.pinned (.plain (OpenSpec.upto execsSpec)) execsUptoCard

/-- THE SECOND FORM's CARD OF 'satchelkeep.Bags'. -/
def bagsUptoCard : Claim7 := { stood := { row := bagsUptoRow, standIns := [], harness := (true, "02cbb97f727a8cb6318459a5ba3a299f2849ef90385e85bc56462d3986ac1eba"), looks := true }, kinds := [], alts := [], goes := true, laidByText := true, laidKinds := [.data, .data, .data, .data, .sentinel, .sentinel, .pinned], laidTests := true, laidLooks := .later }
def BagsUptoCardSaid : Prop := Claim7.holds Tryz.pinned (.plain (OpenSpec.upto bagsSpec)) bagsUptoCard

/-- THE SECOND FORM's CARD OF 'satchelkeep.Thirds'. -/
def thirdsUptoCard : Claim7 := { stood := { row := thirdsUptoRow, standIns := [], harness := (true, "02cbb97f727a8cb6318459a5ba3a299f2849ef90385e85bc56462d3986ac1eba"), looks := true }, kinds := [], alts := [], goes := true, laidByText := true, laidKinds := [.data, .data, .data, .data, .sentinel, .sentinel, .pinned], laidTests := true, laidLooks := .later }
def ThirdsUptoCardSaid : Prop := Claim7.holds Tryz.pinned (.plain (OpenSpec.upto thirdsSpec)) thirdsUptoCard

/-- THE SECOND FORM's CARD OF 'satchelkeep.Joined'. -/
def joinedUptoCard : Claim7 := { stood := { row := joinedUptoRow, standIns := [], harness := (true, "02cbb97f727a8cb6318459a5ba3a299f2849ef90385e85bc56462d3986ac1eba"), looks := true }, kinds := [], alts := [], goes := true, laidByText := true, laidKinds := [.data, .data, .data, .data, .sentinel, .sentinel, .pinned], laidTests := true, laidLooks := .later }
def JoinedUptoCardSaid : Prop := Claim7.holds Tryz.pinned (.plain (OpenSpec.upto joinedSpec)) joinedUptoCard

/-- THE SECOND FORM's CARD OF 'satchelkeep.Undone'. -/
def undoneUptoCard : Claim7 := { stood := { row := undoneUptoRow, standIns := [], harness := (true, "02cbb97f727a8cb6318459a5ba3a299f2849ef90385e85bc56462d3986ac1eba"), looks := true }, kinds := [], alts := [], goes := true, laidByText := true, laidKinds := [.data, .data, .data, .data, .sentinel, .sentinel, .pinned], laidTests := true, laidLooks := .later }
def UndoneUptoCardSaid : Prop := Claim7.holds Tryz.pinned (.plain (OpenSpec.upto undoneSpec)) undoneUptoCard

/-- THE SECOND FORM's CARD OF 'satchellaw.All'. -/
def allUptoCard : Claim7 := { stood := { row := allUptoRow, standIns := [], harness := (true, "02cbb97f727a8cb6318459a5ba3a299f2849ef90385e85bc56462d3986ac1eba"), looks := true }, kinds := [], alts := [], goes := true, laidByText := true, laidKinds := [.data, .data, .data, .data, .sentinel, .sentinel, .pinned], laidTests := true, laidLooks := .later }
def AllUptoCardSaid : Prop := Claim7.holds Tryz.pinned (.plain (OpenSpec.upto allSpec)) allUptoCard
end Rows
end Go.Proofs.YtgnncnhkgmhngaaGreatDoor
