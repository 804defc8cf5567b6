/-
  DERIVED. GIVEN WITH THE SEED: THE CARDS: each row of YtpjohnjjjoobjabGreatDoorRows.lean that lists a variable, with what it lists TIED to the program's text (the seventh form; the later family's looks); each row that meets fmt, with fmt's text TOLD by the authors' own Lean function (tested against real Go, not proved from fmt's source: count such statements apart). THE CARD IS WHAT COUNTS. Prove the row's statement (the work); the ties are given (YtpjohnjjjoobjabGreatDoorTie.lean); close each card by the builder's one call (the guide's Derived/Test/ToyasCard.lean, 'card_holds'). Laid BY PROGRAM, IN A SANDBOX (cutbox-door.mjs). By AI agents, Wed Nov 11 2026. No macro, syntax, notation, axiom, sorry.
-/
import Derived.Test.YtpjohnjjjoobjabGreatDoorRows
import GoSem.ClaimSeven
namespace Go.Proofs.YtpjohnjjjoobjabGreatDoor
namespace Rows

/-- THE TIED CARD OF 'marqueelaw.AsmBuild'. -/
def asmBuildCard : Claim7 := { stood := { row := asmBuildRow, standIns := [], harness := (true, "c390720a5f9c620efda85a1aaf49606287be1734074da14bc37f7075289e6cb0"), looks := true }, kinds := [], alts := [], laidByText := true, laidKinds := [.wider, .data, .data, .data, .data, .sentinel, .sentinel, .listed, .data, .pinned], laidTests := true, laidLooks := .later }
def AsmBuildCardSaid : Prop := Claim7.holds Tryz.pinned (.plain (OpenSpec.ofChange asmBuildSpec)) asmBuildCard

/-- THE TIED CARD OF 'marqueelaw.AsmList'. -/
def asmListCard : Claim7 := { stood := { row := asmListRow, standIns := [], harness := (true, "c390720a5f9c620efda85a1aaf49606287be1734074da14bc37f7075289e6cb0"), looks := true }, kinds := [], alts := [], laidByText := true, laidKinds := [.wider, .data, .data, .data, .data, .sentinel, .sentinel, .listed, .data, .pinned], laidTests := true, laidLooks := .later }
def AsmListCardSaid : Prop := Claim7.holds Tryz.pinned (.plain (OpenSpec.ofChange asmListSpec)) asmListCard

/-- THE TIED CARD OF 'marqueelaw.AsmBack'. -/
def asmBackCard : Claim7 := { stood := { row := asmBackRow, standIns := [], harness := (true, "c390720a5f9c620efda85a1aaf49606287be1734074da14bc37f7075289e6cb0"), looks := true }, kinds := [], alts := [], laidByText := true, laidKinds := [.wider, .data, .data, .data, .data, .sentinel, .sentinel, .pinned], laidTests := true, laidLooks := .later }
def AsmBackCardSaid : Prop := Claim7.holds Tryz.pinned (.plain (OpenSpec.ofChange asmBackSpec)) asmBackCard

/-- THE SECOND FORM's CARD OF 'marqueelaw.AsmBuild'. -/
def asmBuildUptoCard : Claim7 := { stood := { row := asmBuildUptoRow, standIns := [], harness := (true, "c390720a5f9c620efda85a1aaf49606287be1734074da14bc37f7075289e6cb0"), looks := true }, kinds := [], alts := [], laidByText := true, laidKinds := [.wider, .data, .data, .data, .data, .sentinel, .sentinel, .listed, .data, .pinned], laidTests := true, laidLooks := .later }
def AsmBuildUptoCardSaid : Prop := Claim7.holds Tryz.pinned (.plain (OpenSpec.upto asmBuildSpec)) asmBuildUptoCard

/-- THE SECOND FORM's CARD OF 'marqueelaw.AsmList'. -/
def asmListUptoCard : Claim7 := { stood := { row := asmListUptoRow, standIns := [], harness := (true, "c390720a5f9c620efda85a1aaf49606287be1734074da14bc37f7075289e6cb0"), looks := true }, kinds := [], alts := [], laidByText := true, laidKinds := [.wider, .data, .data, .data, .data, .sentinel, .sentinel, .listed, .data, .pinned], laidTests := true, laidLooks := .later }
def AsmListUptoCardSaid : Prop := Claim7.holds Tryz.pinned (.plain (OpenSpec.upto asmListSpec)) asmListUptoCard

/-- THE SECOND FORM's CARD OF 'marqueelaw.AsmBack'. -/
def asmBackUptoCard : Claim7 := { stood := { row := asmBackUptoRow, standIns := [], harness := (true, "c390720a5f9c620efda85a1aaf49606287be1734074da14bc37f7075289e6cb0"), looks := true }, kinds := [], alts := [], laidByText := true, laidKinds := [.wider, .data, .data, .data, .data, .sentinel, .sentinel, .pinned], laidTests := true, laidLooks := .later }
def AsmBackUptoCardSaid : Prop := Claim7.holds Tryz.pinned (.plain (OpenSpec.upto asmBackSpec)) asmBackUptoCard
end Rows
end Go.Proofs.YtpjohnjjjoobjabGreatDoor
