/-
  DERIVED. GIVEN WITH THE SEED: THE CARDS: each row of YtbennamieealbaaGreatDoorRows.lean that lists a variable, with what it lists TIED to the program's text (the seventh form; the later family's looks); each row that meets fmt, with fmt's text TOLD by the authors' own Lean function (tested against real Go, not proved from fmt's source: count such statements apart). THE CARD IS WHAT COUNTS. Prove the row's statement (the work); the ties are given (YtbennamieealbaaGreatDoorTie.lean); close each card by the builder's one call (the guide's Derived/Test/ToyasCard.lean, 'card_holds'). Laid BY PROGRAM, IN A SANDBOX (cutbox-door.mjs). By AI agents, Wed Nov 11 2026. No macro, syntax, notation, axiom, sorry.
-/
import Derived.Test.YtbennamieealbaaGreatDoorRows
import GoSem.ClaimSeven
namespace Go.Proofs.YtbennamieealbaaGreatDoor
namespace Rows

/-- THE TIED CARD OF 'marqueelaw.CatchLock'. -/
def catchLockCard : Claim7 := { stood := { row := catchLockRow, standIns := [], harness := (true, "6bcd81cf561f264c33378071517666f3c157e5f1b3a88c670d21a1c4100748ca"), looks := true }, kinds := [], alts := [], laidByText := true, laidKinds := [.wider, .data, .data, .data, .data, .sentinel, .sentinel, .pinned], laidTests := true, laidLooks := .later }
def CatchLockCardSaid : Prop := Claim7.holds Tryz.pinned (.plain (OpenSpec.ofChange catchLockSpec)) catchLockCard

/-- THE TIED CARD OF 'marqueelaw.CatchParts'. -/
def catchPartsCard : Claim7 := { stood := { row := catchPartsRow, standIns := [], harness := (true, "6bcd81cf561f264c33378071517666f3c157e5f1b3a88c670d21a1c4100748ca"), looks := true }, kinds := [], alts := [], laidByText := true, laidKinds := [.wider, .data, .data, .data, .data, .sentinel, .sentinel, .pinned], laidTests := true, laidLooks := .later }
def CatchPartsCardSaid : Prop := Claim7.holds Tryz.pinned (.plain (OpenSpec.ofChange catchPartsSpec)) catchPartsCard

/-- THE TIED CARD OF 'marqueelaw.SaveGoesOn'. -/
def saveGoesOnCard : Claim7 := { stood := { row := saveGoesOnRow, standIns := [], harness := (true, "6bcd81cf561f264c33378071517666f3c157e5f1b3a88c670d21a1c4100748ca"), looks := true }, kinds := [], alts := [], laidByText := true, laidKinds := [.wider], laidTests := true, laidLooks := .later }
def SaveGoesOnCardSaid : Prop := Claim7.holds Tryz.pinned (.plain (OpenSpec.ofChange saveGoesOnSpec)) saveGoesOnCard

/-- THE TIED CARD OF 'marqueelaw.CatchRun'. -/
def catchRunCard : Claim7 := { stood := { row := catchRunRow, standIns := [], harness := (true, "6bcd81cf561f264c33378071517666f3c157e5f1b3a88c670d21a1c4100748ca"), looks := true }, kinds := [], alts := [], laidByText := true, laidKinds := [.wider, .data, .data, .data, .data, .sentinel, .sentinel, .listed, .data, .pinned], laidTests := true, laidLooks := .later }
def CatchRunCardSaid : Prop := Claim7.holds Tryz.pinned (.plain (OpenSpec.ofChange catchRunSpec)) catchRunCard

/-- THE SECOND FORM's CARD OF 'marqueelaw.CatchLock'. -/
def catchLockUptoCard : Claim7 := { stood := { row := catchLockUptoRow, standIns := [], harness := (true, "6bcd81cf561f264c33378071517666f3c157e5f1b3a88c670d21a1c4100748ca"), looks := true }, kinds := [], alts := [], laidByText := true, laidKinds := [.wider, .data, .data, .data, .data, .sentinel, .sentinel, .pinned], laidTests := true, laidLooks := .later }
def CatchLockUptoCardSaid : Prop := Claim7.holds Tryz.pinned (.plain (OpenSpec.upto catchLockSpec)) catchLockUptoCard

/-- THE SECOND FORM's CARD OF 'marqueelaw.CatchParts'. -/
def catchPartsUptoCard : Claim7 := { stood := { row := catchPartsUptoRow, standIns := [], harness := (true, "6bcd81cf561f264c33378071517666f3c157e5f1b3a88c670d21a1c4100748ca"), looks := true }, kinds := [], alts := [], laidByText := true, laidKinds := [.wider, .data, .data, .data, .data, .sentinel, .sentinel, .pinned], laidTests := true, laidLooks := .later }
def CatchPartsUptoCardSaid : Prop := Claim7.holds Tryz.pinned (.plain (OpenSpec.upto catchPartsSpec)) catchPartsUptoCard

/-- THE SECOND FORM's CARD OF 'marqueelaw.SaveGoesOn'. -/
def saveGoesOnUptoCard : Claim7 := { stood := { row := saveGoesOnUptoRow, standIns := [], harness := (true, "6bcd81cf561f264c33378071517666f3c157e5f1b3a88c670d21a1c4100748ca"), looks := true }, kinds := [], alts := [], laidByText := true, laidKinds := [.wider], laidTests := true, laidLooks := .later }
def SaveGoesOnUptoCardSaid : Prop := Claim7.holds Tryz.pinned (.plain (OpenSpec.upto saveGoesOnSpec)) saveGoesOnUptoCard

/-- THE SECOND FORM's CARD OF 'marqueelaw.CatchRun'. -/
def catchRunUptoCard : Claim7 := { stood := { row := catchRunUptoRow, standIns := [], harness := (true, "6bcd81cf561f264c33378071517666f3c157e5f1b3a88c670d21a1c4100748ca"), looks := true }, kinds := [], alts := [], laidByText := true, laidKinds := [.wider, .data, .data, .data, .data, .sentinel, .sentinel, .listed, .data, .pinned], laidTests := true, laidLooks := .later }
def CatchRunUptoCardSaid : Prop := Claim7.holds Tryz.pinned (.plain (OpenSpec.upto catchRunSpec)) catchRunUptoCard
end Rows
end Go.Proofs.YtbennamieealbaaGreatDoor
