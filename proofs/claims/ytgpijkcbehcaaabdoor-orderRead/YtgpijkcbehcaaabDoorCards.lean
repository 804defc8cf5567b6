/-
  DERIVED. GIVEN WITH THE SEED: THE CARDS: each row of YtgpijkcbehcaaabDoorRows.lean that lists a variable, with what it lists TIED to the program's text (the seventh form; the later family's looks); each row that meets fmt, with fmt's text TOLD by the authors' own Lean function (tested against real Go, not proved from fmt's source: count such statements apart). THE CARD IS WHAT COUNTS. Prove the row's statement (the work); the ties are given (YtgpijkcbehcaaabDoorTie.lean); close each card by the builder's one call (the guide's Derived/Test/ToyasCard.lean, 'card_holds'). Laid BY PROGRAM, IN A SANDBOX (cutbox-door.mjs). By AI agents, Wed Nov 11 2026. No macro, syntax, notation, axiom, sorry.
-/
import Derived.Test.YtgpijkcbehcaaabDoorRows
import GoSem.ClaimSeven
namespace Go.Proofs.YtgpijkcbehcaaabDoor
namespace Rows

/-- THE TIED CARD OF 'marqueelaw.OrderRead'. -/
def orderReadCard : Claim7 := { stood := { row := orderReadRow, standIns := [], harness := (true, "dbe1bda957706b4b2ddb7dc77b69f78d59c95b14495d26beeaa1023157b1e463"), looks := true }, kinds := [], alts := [], laidByText := true, laidKinds := [.wider, .data, .data, .data, .data, .sentinel, .sentinel, .listed, .data, .pinned], laidTests := true, laidLooks := .later }
def OrderReadCardSaid : Prop := Claim7.holds Tryd.pinned (.plain (OpenSpec.ofChange orderReadSpec)) orderReadCard

/-- THE TIED CARD OF 'marqueelaw.OrderBack'. -/
def orderBackCard : Claim7 := { stood := { row := orderBackRow, standIns := [], harness := (true, "dbe1bda957706b4b2ddb7dc77b69f78d59c95b14495d26beeaa1023157b1e463"), looks := true }, kinds := [], alts := [], laidByText := true, laidKinds := [.wider], laidTests := true, laidLooks := .later }
def OrderBackCardSaid : Prop := Claim7.holds Tryd.pinned (.plain (OpenSpec.ofChange orderBackSpec)) orderBackCard

/-- THE SECOND FORM's CARD OF 'marqueelaw.OrderRead'. -/
def orderReadUptoCard : Claim7 := { stood := { row := orderReadUptoRow, standIns := [], harness := (true, "dbe1bda957706b4b2ddb7dc77b69f78d59c95b14495d26beeaa1023157b1e463"), looks := true }, kinds := [], alts := [], laidByText := true, laidKinds := [.wider, .data, .data, .data, .data, .sentinel, .sentinel, .listed, .data, .pinned], laidTests := true, laidLooks := .later }
def OrderReadUptoCardSaid : Prop := Claim7.holds Tryd.pinned (.plain (OpenSpec.upto orderReadSpec)) orderReadUptoCard

/-- THE SECOND FORM's CARD OF 'marqueelaw.OrderBack'. -/
def orderBackUptoCard : Claim7 := { stood := { row := orderBackUptoRow, standIns := [], harness := (true, "dbe1bda957706b4b2ddb7dc77b69f78d59c95b14495d26beeaa1023157b1e463"), looks := true }, kinds := [], alts := [], laidByText := true, laidKinds := [.wider], laidTests := true, laidLooks := .later }
def OrderBackUptoCardSaid : Prop := Claim7.holds Tryd.pinned (.plain (OpenSpec.upto orderBackSpec)) orderBackUptoCard
end Rows
end Go.Proofs.YtgpijkcbehcaaabDoor
