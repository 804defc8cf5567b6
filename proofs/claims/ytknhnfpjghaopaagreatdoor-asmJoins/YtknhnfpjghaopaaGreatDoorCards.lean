/-
  DERIVED. GIVEN WITH THE SEED: THE CARDS: each row of YtknhnfpjghaopaaGreatDoorRows.lean that lists a variable, with what it lists TIED to the program's text (the seventh form; the later family's looks); each row that meets fmt, with fmt's text TOLD by the authors' own Lean function (tested against real Go, not proved from fmt's source: count such statements apart). THE CARD IS WHAT COUNTS. Prove the row's statement (the work); the ties are given (YtknhnfpjghaopaaGreatDoorTie.lean); close each card by the builder's one call (the guide's Derived/Test/ToyasCard.lean, 'card_holds'). Laid BY PROGRAM, IN A SANDBOX (cutbox-door.mjs). By AI agents, Wed Nov 11 2026. No macro, syntax, notation, axiom, sorry.
-/
import Derived.Test.YtknhnfpjghaopaaGreatDoorRows
import GoSem.ClaimSeven
namespace Go.Proofs.YtknhnfpjghaopaaGreatDoor
namespace Rows

/-- THE TIED CARD OF 'marqueelaw.AsmBuild'. -/
def asmBuildCard : Claim7 := { stood := { row := asmBuildRow, standIns := [], harness := (true, "422ee34046683d93f6a008d074f46859b69b254f778b3d33bc7ca71093d43686"), looks := true }, kinds := [], alts := [], laidByText := true, laidKinds := [.wider, .data, .data, .data, .data, .sentinel, .sentinel, .listed, .data, .pinned], laidTests := true, laidLooks := .later }
def AsmBuildCardSaid : Prop := Claim7.holds Tryz.pinned (.plain (OpenSpec.ofChange asmBuildSpec)) asmBuildCard

/-- THE TIED CARD OF 'marqueelaw.AsmJoins'. -/
def asmJoinsCard : Claim7 := { stood := { row := asmJoinsRow, standIns := [], harness := (true, "422ee34046683d93f6a008d074f46859b69b254f778b3d33bc7ca71093d43686"), looks := true }, kinds := [], alts := [], laidByText := true, laidKinds := [.wider, .data, .data, .data, .data, .sentinel, .sentinel, .pinned], laidTests := true, laidLooks := .later }
def AsmJoinsCardSaid : Prop := Claim7.holds Tryz.pinned (.plain (OpenSpec.ofChange asmJoinsSpec)) asmJoinsCard

/-- THE SECOND FORM's CARD OF 'marqueelaw.AsmBuild'. -/
def asmBuildUptoCard : Claim7 := { stood := { row := asmBuildUptoRow, standIns := [], harness := (true, "422ee34046683d93f6a008d074f46859b69b254f778b3d33bc7ca71093d43686"), looks := true }, kinds := [], alts := [], laidByText := true, laidKinds := [.wider, .data, .data, .data, .data, .sentinel, .sentinel, .listed, .data, .pinned], laidTests := true, laidLooks := .later }
def AsmBuildUptoCardSaid : Prop := Claim7.holds Tryz.pinned (.plain (OpenSpec.upto asmBuildSpec)) asmBuildUptoCard

/-- THE SECOND FORM's CARD OF 'marqueelaw.AsmJoins'. -/
def asmJoinsUptoCard : Claim7 := { stood := { row := asmJoinsUptoRow, standIns := [], harness := (true, "422ee34046683d93f6a008d074f46859b69b254f778b3d33bc7ca71093d43686"), looks := true }, kinds := [], alts := [], laidByText := true, laidKinds := [.wider, .data, .data, .data, .data, .sentinel, .sentinel, .pinned], laidTests := true, laidLooks := .later }
def AsmJoinsUptoCardSaid : Prop := Claim7.holds Tryz.pinned (.plain (OpenSpec.upto asmJoinsSpec)) asmJoinsUptoCard
end Rows
end Go.Proofs.YtknhnfpjghaopaaGreatDoor
