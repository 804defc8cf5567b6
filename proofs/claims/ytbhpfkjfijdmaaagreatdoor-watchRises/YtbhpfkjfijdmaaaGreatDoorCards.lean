/-
  DERIVED. GIVEN WITH THE SEED: THE CARDS: each row of YtbhpfkjfijdmaaaGreatDoorRows.lean that lists a variable, with what it lists TIED to the program's text (the seventh form; the later family's looks); each row that meets fmt, with fmt's text TOLD by the authors' own Lean function (tested against real Go, not proved from fmt's source: count such statements apart). THE CARD IS WHAT COUNTS. Prove the row's statement (the work); the ties are given (YtbhpfkjfijdmaaaGreatDoorTie.lean); close each card by the builder's one call (the guide's Derived/Test/ToyasCard.lean, 'card_holds'). Laid BY PROGRAM, IN A SANDBOX (cutbox-door.mjs). By AI agents, Wed Nov 11 2026. No macro, syntax, notation, axiom, sorry.
-/
import Derived.Test.YtbhpfkjfijdmaaaGreatDoorRows
import GoSem.ClaimSeven
namespace Go.Proofs.YtbhpfkjfijdmaaaGreatDoor
namespace Rows

/-- THE TIED CARD OF 'marqueelaw.LockParts'. -/
def lockPartsCard : Claim7 := { stood := { row := lockPartsRow, standIns := [], harness := (true, "97133989b6d2e9c41d812539613d053382f2083a154d5d58b4fce59a40fffd0f"), looks := true }, kinds := [], alts := [], laidByText := true, laidKinds := [.wider, .data, .data, .data, .data, .sentinel, .sentinel, .pinned], laidTests := true, laidLooks := .later }
def LockPartsCardSaid : Prop := Claim7.holds Tryz.pinned (.plain (OpenSpec.ofChange lockPartsSpec)) lockPartsCard

/-- THE TIED CARD OF 'marqueelaw.TapeCounts'. -/
def tapeCountsCard : Claim7 := { stood := { row := tapeCountsRow, standIns := [], harness := (true, "97133989b6d2e9c41d812539613d053382f2083a154d5d58b4fce59a40fffd0f"), looks := true }, kinds := [], alts := [], laidByText := true, laidKinds := [.wider, .data, .data, .data, .data, .sentinel, .sentinel, .pinned], laidTests := true, laidLooks := .later }
def TapeCountsCardSaid : Prop := Claim7.holds Tryz.pinned (.plain (OpenSpec.ofChange tapeCountsSpec)) tapeCountsCard

/-- THE TIED CARD OF 'marqueelaw.WatchQuiet'. -/
def watchQuietCard : Claim7 := { stood := { row := watchQuietRow, standIns := [], harness := (true, "97133989b6d2e9c41d812539613d053382f2083a154d5d58b4fce59a40fffd0f"), looks := true }, kinds := [], alts := [], laidByText := true, laidKinds := [.wider, .data, .data, .data], laidTests := true, laidLooks := .later }
def WatchQuietCardSaid : Prop := Claim7.holds Tryz.pinned (.plain (OpenSpec.ofChange watchQuietSpec)) watchQuietCard

/-- THE TIED CARD OF 'marqueelaw.WatchRises'. -/
def watchRisesCard : Claim7 := { stood := { row := watchRisesRow, standIns := [], harness := (true, "97133989b6d2e9c41d812539613d053382f2083a154d5d58b4fce59a40fffd0f"), looks := true }, kinds := [], alts := [], laidByText := true, laidKinds := [.wider, .data, .data, .data], laidTests := true, laidLooks := .later }
def WatchRisesCardSaid : Prop := Claim7.holds Tryz.pinned (.plain (OpenSpec.ofChange watchRisesSpec)) watchRisesCard

/-- THE SECOND FORM's CARD OF 'marqueelaw.LockParts'. -/
def lockPartsUptoCard : Claim7 := { stood := { row := lockPartsUptoRow, standIns := [], harness := (true, "97133989b6d2e9c41d812539613d053382f2083a154d5d58b4fce59a40fffd0f"), looks := true }, kinds := [], alts := [], laidByText := true, laidKinds := [.wider, .data, .data, .data, .data, .sentinel, .sentinel, .pinned], laidTests := true, laidLooks := .later }
def LockPartsUptoCardSaid : Prop := Claim7.holds Tryz.pinned (.plain (OpenSpec.upto lockPartsSpec)) lockPartsUptoCard

/-- THE SECOND FORM's CARD OF 'marqueelaw.TapeCounts'. -/
def tapeCountsUptoCard : Claim7 := { stood := { row := tapeCountsUptoRow, standIns := [], harness := (true, "97133989b6d2e9c41d812539613d053382f2083a154d5d58b4fce59a40fffd0f"), looks := true }, kinds := [], alts := [], laidByText := true, laidKinds := [.wider, .data, .data, .data, .data, .sentinel, .sentinel, .pinned], laidTests := true, laidLooks := .later }
def TapeCountsUptoCardSaid : Prop := Claim7.holds Tryz.pinned (.plain (OpenSpec.upto tapeCountsSpec)) tapeCountsUptoCard

/-- THE SECOND FORM's CARD OF 'marqueelaw.WatchQuiet'. -/
def watchQuietUptoCard : Claim7 := { stood := { row := watchQuietUptoRow, standIns := [], harness := (true, "97133989b6d2e9c41d812539613d053382f2083a154d5d58b4fce59a40fffd0f"), looks := true }, kinds := [], alts := [], laidByText := true, laidKinds := [.wider, .data, .data, .data], laidTests := true, laidLooks := .later }
def WatchQuietUptoCardSaid : Prop := Claim7.holds Tryz.pinned (.plain (OpenSpec.upto watchQuietSpec)) watchQuietUptoCard

/-- THE SECOND FORM's CARD OF 'marqueelaw.WatchRises'. -/
def watchRisesUptoCard : Claim7 := { stood := { row := watchRisesUptoRow, standIns := [], harness := (true, "97133989b6d2e9c41d812539613d053382f2083a154d5d58b4fce59a40fffd0f"), looks := true }, kinds := [], alts := [], laidByText := true, laidKinds := [.wider, .data, .data, .data], laidTests := true, laidLooks := .later }
def WatchRisesUptoCardSaid : Prop := Claim7.holds Tryz.pinned (.plain (OpenSpec.upto watchRisesSpec)) watchRisesUptoCard
end Rows
end Go.Proofs.YtbhpfkjfijdmaaaGreatDoor
