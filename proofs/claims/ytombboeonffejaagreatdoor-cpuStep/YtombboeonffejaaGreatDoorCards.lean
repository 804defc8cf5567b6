/-
  DERIVED. GIVEN WITH THE SEED: THE CARDS: each row of YtombboeonffejaaGreatDoorRows.lean that lists a variable, with what it lists TIED to the program's text (the seventh form; the later family's looks); each row that meets fmt, with fmt's text TOLD by the authors' own Lean function (tested against real Go, not proved from fmt's source: count such statements apart). THE CARD IS WHAT COUNTS. Prove the row's statement (the work); the ties are given (YtombboeonffejaaGreatDoorTie.lean); close each card by the builder's one call (the guide's Derived/Test/ToyasCard.lean, 'card_holds'). Laid BY PROGRAM, IN A SANDBOX (cutbox-door.mjs). By AI agents, Wed Nov 11 2026. No macro, syntax, notation, axiom, sorry.
-/
import Derived.Test.YtombboeonffejaaGreatDoorRows
import GoSem.ClaimSeven
namespace Go.Proofs.YtombboeonffejaaGreatDoor
namespace Rows

/-- THE TIED CARD OF 'marqueelaw.CpuStep'. -/
def cpuStepCard : Claim7 := { stood := { row := cpuStepRow, standIns := [], harness := (true, "fd880161158a691954400f788494d490fa041c9ae003669545b8df959f9d1a5d"), looks := true }, kinds := [], alts := [], laidByText := true, laidKinds := [.wider, .data, .data, .data, .data, .sentinel, .sentinel, .listed, .data, .pinned], laidTests := true, laidLooks := .later }
def CpuStepCardSaid : Prop := Claim7.holds Tryz.pinned (.plain (OpenSpec.ofChange cpuStepSpec)) cpuStepCard

/-- THE TIED CARD OF 'marqueelaw.CpuRun'. -/
def cpuRunCard : Claim7 := { stood := { row := cpuRunRow, standIns := [], harness := (true, "fd880161158a691954400f788494d490fa041c9ae003669545b8df959f9d1a5d"), looks := true }, kinds := [], alts := [], laidByText := true, laidKinds := [.wider, .data, .data, .data, .data, .sentinel, .sentinel, .listed, .data, .pinned], laidTests := true, laidLooks := .later }
def CpuRunCardSaid : Prop := Claim7.holds Tryz.pinned (.plain (OpenSpec.ofChange cpuRunSpec)) cpuRunCard

/-- THE SECOND FORM's CARD OF 'marqueelaw.CpuStep'. -/
def cpuStepUptoCard : Claim7 := { stood := { row := cpuStepUptoRow, standIns := [], harness := (true, "fd880161158a691954400f788494d490fa041c9ae003669545b8df959f9d1a5d"), looks := true }, kinds := [], alts := [], laidByText := true, laidKinds := [.wider, .data, .data, .data, .data, .sentinel, .sentinel, .listed, .data, .pinned], laidTests := true, laidLooks := .later }
def CpuStepUptoCardSaid : Prop := Claim7.holds Tryz.pinned (.plain (OpenSpec.upto cpuStepSpec)) cpuStepUptoCard

/-- THE SECOND FORM's CARD OF 'marqueelaw.CpuRun'. -/
def cpuRunUptoCard : Claim7 := { stood := { row := cpuRunUptoRow, standIns := [], harness := (true, "fd880161158a691954400f788494d490fa041c9ae003669545b8df959f9d1a5d"), looks := true }, kinds := [], alts := [], laidByText := true, laidKinds := [.wider, .data, .data, .data, .data, .sentinel, .sentinel, .listed, .data, .pinned], laidTests := true, laidLooks := .later }
def CpuRunUptoCardSaid : Prop := Claim7.holds Tryz.pinned (.plain (OpenSpec.upto cpuRunSpec)) cpuRunUptoCard
end Rows
end Go.Proofs.YtombboeonffejaaGreatDoor
