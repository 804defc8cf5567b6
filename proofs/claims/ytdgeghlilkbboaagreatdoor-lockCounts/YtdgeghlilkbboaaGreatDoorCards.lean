/-
  DERIVED. GIVEN WITH THE SEED: THE CARDS: each row of YtdgeghlilkbboaaGreatDoorRows.lean that lists a variable, with what it lists TIED to the program's text (the seventh form; the later family's looks); each row that meets fmt, with fmt's text TOLD by the authors' own Lean function (tested against real Go, not proved from fmt's source: count such statements apart). THE CARD IS WHAT COUNTS. Prove the row's statement (the work); the ties are given (YtdgeghlilkbboaaGreatDoorTie.lean); close each card by the builder's one call (the guide's Derived/Test/ToyasCard.lean, 'card_holds'). Laid BY PROGRAM, IN A SANDBOX (cutbox-door.mjs). By AI agents, Wed Nov 11 2026. No macro, syntax, notation, axiom, sorry.
-/
import Derived.Test.YtdgeghlilkbboaaGreatDoorRows
import GoSem.ClaimSeven
namespace Go.Proofs.YtdgeghlilkbboaaGreatDoor
namespace Rows

/-- THE TIED CARD OF 'marqueelaw.LockRun'. -/
def lockRunCard : Claim7 := { stood := { row := lockRunRow, standIns := [], harness := (true, "cbb214da695b93a15cd7747f2d1aff8c2a916aafadfb5f2d08b39d143e601d60"), looks := true }, kinds := [], alts := [], laidByText := true, laidKinds := [.wider, .data, .data, .data, .data, .sentinel, .sentinel, .listed, .data, .pinned], laidTests := true, laidLooks := .later }
def LockRunCardSaid : Prop := Claim7.holds Tryz.pinned (.plain (OpenSpec.ofChange lockRunSpec)) lockRunCard

/-- THE TIED CARD OF 'marqueelaw.LockParts'. -/
def lockPartsCard : Claim7 := { stood := { row := lockPartsRow, standIns := [], harness := (true, "cbb214da695b93a15cd7747f2d1aff8c2a916aafadfb5f2d08b39d143e601d60"), looks := true }, kinds := [], alts := [], laidByText := true, laidKinds := [.wider, .data, .data, .data, .data, .sentinel, .sentinel, .pinned], laidTests := true, laidLooks := .later }
def LockPartsCardSaid : Prop := Claim7.holds Tryz.pinned (.plain (OpenSpec.ofChange lockPartsSpec)) lockPartsCard

/-- THE TIED CARD OF 'marqueelaw.LockCounts'. -/
def lockCountsCard : Claim7 := { stood := { row := lockCountsRow, standIns := [], harness := (true, "cbb214da695b93a15cd7747f2d1aff8c2a916aafadfb5f2d08b39d143e601d60"), looks := true }, kinds := [], alts := [], laidByText := true, laidKinds := [.wider, .data, .data, .data, .data, .sentinel, .sentinel, .pinned], laidTests := true, laidLooks := .later }
def LockCountsCardSaid : Prop := Claim7.holds Tryz.pinned (.plain (OpenSpec.ofChange lockCountsSpec)) lockCountsCard

/-- THE TIED CARD OF 'marqueelaw.LockHeld'. -/
def lockHeldCard : Claim7 := { stood := { row := lockHeldRow, standIns := [], harness := (true, "cbb214da695b93a15cd7747f2d1aff8c2a916aafadfb5f2d08b39d143e601d60"), looks := true }, kinds := [], alts := [], laidByText := true, laidKinds := [.wider, .data, .data, .data, .data, .sentinel, .sentinel, .pinned], laidTests := true, laidLooks := .later }
def LockHeldCardSaid : Prop := Claim7.holds Tryz.pinned (.plain (OpenSpec.ofChange lockHeldSpec)) lockHeldCard

/-- THE SECOND FORM's CARD OF 'marqueelaw.LockRun'. -/
def lockRunUptoCard : Claim7 := { stood := { row := lockRunUptoRow, standIns := [], harness := (true, "cbb214da695b93a15cd7747f2d1aff8c2a916aafadfb5f2d08b39d143e601d60"), looks := true }, kinds := [], alts := [], laidByText := true, laidKinds := [.wider, .data, .data, .data, .data, .sentinel, .sentinel, .listed, .data, .pinned], laidTests := true, laidLooks := .later }
def LockRunUptoCardSaid : Prop := Claim7.holds Tryz.pinned (.plain (OpenSpec.upto lockRunSpec)) lockRunUptoCard

/-- THE SECOND FORM's CARD OF 'marqueelaw.LockParts'. -/
def lockPartsUptoCard : Claim7 := { stood := { row := lockPartsUptoRow, standIns := [], harness := (true, "cbb214da695b93a15cd7747f2d1aff8c2a916aafadfb5f2d08b39d143e601d60"), looks := true }, kinds := [], alts := [], laidByText := true, laidKinds := [.wider, .data, .data, .data, .data, .sentinel, .sentinel, .pinned], laidTests := true, laidLooks := .later }
def LockPartsUptoCardSaid : Prop := Claim7.holds Tryz.pinned (.plain (OpenSpec.upto lockPartsSpec)) lockPartsUptoCard

/-- THE SECOND FORM's CARD OF 'marqueelaw.LockCounts'. -/
def lockCountsUptoCard : Claim7 := { stood := { row := lockCountsUptoRow, standIns := [], harness := (true, "cbb214da695b93a15cd7747f2d1aff8c2a916aafadfb5f2d08b39d143e601d60"), looks := true }, kinds := [], alts := [], laidByText := true, laidKinds := [.wider, .data, .data, .data, .data, .sentinel, .sentinel, .pinned], laidTests := true, laidLooks := .later }
def LockCountsUptoCardSaid : Prop := Claim7.holds Tryz.pinned (.plain (OpenSpec.upto lockCountsSpec)) lockCountsUptoCard

/-- THE SECOND FORM's CARD OF 'marqueelaw.LockHeld'. -/
def lockHeldUptoCard : Claim7 := { stood := { row := lockHeldUptoRow, standIns := [], harness := (true, "cbb214da695b93a15cd7747f2d1aff8c2a916aafadfb5f2d08b39d143e601d60"), looks := true }, kinds := [], alts := [], laidByText := true, laidKinds := [.wider, .data, .data, .data, .data, .sentinel, .sentinel, .pinned], laidTests := true, laidLooks := .later }
def LockHeldUptoCardSaid : Prop := Claim7.holds Tryz.pinned (.plain (OpenSpec.upto lockHeldSpec)) lockHeldUptoCard
end Rows
end Go.Proofs.YtdgeghlilkbboaaGreatDoor
