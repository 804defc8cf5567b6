/-
  DERIVED. GIVEN WITH THE SEED: THE CARDS: each row of YtdjhlfoapieohaaGreatDoorRows.lean that lists a variable, with what it lists TIED to the program's text (the seventh form; the later family's looks); each row that meets fmt, with fmt's text TOLD by the authors' own Lean function (tested against real Go, not proved from fmt's source: count such statements apart). THE CARD IS WHAT COUNTS. Prove the row's statement (the work); the ties are given (YtdjhlfoapieohaaGreatDoorTie.lean); close each card by the builder's one call (the guide's Derived/Test/ToyasCard.lean, 'card_holds'). Laid BY PROGRAM, IN A SANDBOX (cutbox-door.mjs). By AI agents, Wed Nov 11 2026. No macro, syntax, notation, axiom, sorry.
-/
import Derived.Test.YtdjhlfoapieohaaGreatDoorRows
import GoSem.ClaimSeven
namespace Go.Proofs.YtdjhlfoapieohaaGreatDoor
namespace Rows

/-- THE TIED CARD OF 'marqueelaw.AsmBuild'. -/
def asmBuildCard : Claim7 := { stood := { row := asmBuildRow, standIns := [], harness := (true, "8795140d5710da88259f1689921d2dddac74b39f92261a1d0028e402ca14adca"), looks := true }, kinds := [], alts := [], laidByText := true, laidKinds := [.wider, .data, .data, .data, .data, .sentinel, .sentinel, .listed, .data, .pinned], laidTests := true, laidLooks := .later }
def AsmBuildCardSaid : Prop := Claim7.holds Tryz.pinned (.plain (OpenSpec.ofChange asmBuildSpec)) asmBuildCard

/-- THE SECOND FORM's CARD OF 'marqueelaw.AsmBuild'. -/
def asmBuildUptoCard : Claim7 := { stood := { row := asmBuildUptoRow, standIns := [], harness := (true, "8795140d5710da88259f1689921d2dddac74b39f92261a1d0028e402ca14adca"), looks := true }, kinds := [], alts := [], laidByText := true, laidKinds := [.wider, .data, .data, .data, .data, .sentinel, .sentinel, .listed, .data, .pinned], laidTests := true, laidLooks := .later }
def AsmBuildUptoCardSaid : Prop := Claim7.holds Tryz.pinned (.plain (OpenSpec.upto asmBuildSpec)) asmBuildUptoCard
end Rows
end Go.Proofs.YtdjhlfoapieohaaGreatDoor
