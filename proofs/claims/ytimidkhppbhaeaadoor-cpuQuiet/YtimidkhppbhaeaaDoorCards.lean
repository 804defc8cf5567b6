/-
  DERIVED. GIVEN WITH THE SEED: THE CARDS: each row of YtimidkhppbhaeaaDoorRows.lean that lists a variable, with what it lists TIED to the program's text (the seventh form; the later family's looks); each row that meets fmt, with fmt's text TOLD by the authors' own Lean function (tested against real Go, not proved from fmt's source: count such statements apart). THE CARD IS WHAT COUNTS. Prove the row's statement (the work); the ties are given (YtimidkhppbhaeaaDoorTie.lean); close each card by the builder's one call (the guide's Derived/Test/ToyasCard.lean, 'card_holds'). Laid BY PROGRAM, IN A SANDBOX (cutbox-door.mjs). By AI agents, Wed Nov 11 2026. No macro, syntax, notation, axiom, sorry.
-/
import Derived.Test.YtimidkhppbhaeaaDoorRows
import GoSem.ClaimSeven
namespace Go.Proofs.YtimidkhppbhaeaaDoor
namespace Rows

/-- THE TIED CARD OF 'marqueelaw.CpuOn'. -/
def cpuOnCard : Claim7 := { stood := { row := cpuOnRow, standIns := [], harness := (true, "2d4a7cad10d90a01e7fa4d01c742fb5d1ec1cb2d2d9f568ad0cf900d2c47c740"), looks := false }, kinds := [], alts := [], laidByText := true, laidKinds := [.wider], laidTests := true, laidLooks := .later }
def CpuOnCardSaid : Prop := Claim7.holds Tryd.pinned (.plain (OpenSpec.ofChange cpuOnSpec)) cpuOnCard

/-- THE TIED CARD OF 'marqueelaw.CpuReturns'. -/
def cpuReturnsCard : Claim7 := { stood := { row := cpuReturnsRow, standIns := [], harness := (true, "2d4a7cad10d90a01e7fa4d01c742fb5d1ec1cb2d2d9f568ad0cf900d2c47c740"), looks := false }, kinds := [], alts := [], laidByText := true, laidKinds := [.wider], laidTests := true, laidLooks := .later }
def CpuReturnsCardSaid : Prop := Claim7.holds Tryd.pinned (.plain (OpenSpec.ofChange cpuReturnsSpec)) cpuReturnsCard

/-- THE TIED CARD OF 'marqueelaw.CpuQuiet'. -/
def cpuQuietCard : Claim7 := { stood := { row := cpuQuietRow, standIns := [], harness := (true, "2d4a7cad10d90a01e7fa4d01c742fb5d1ec1cb2d2d9f568ad0cf900d2c47c740"), looks := false }, kinds := [], alts := [], laidByText := true, laidKinds := [.wider], laidTests := true, laidLooks := .later }
def CpuQuietCardSaid : Prop := Claim7.holds Tryd.pinned (.plain (OpenSpec.ofChange cpuQuietSpec)) cpuQuietCard

/-- THE SECOND FORM's CARD OF 'marqueelaw.CpuOn'. -/
def cpuOnUptoCard : Claim7 := { stood := { row := cpuOnUptoRow, standIns := [], harness := (true, "2d4a7cad10d90a01e7fa4d01c742fb5d1ec1cb2d2d9f568ad0cf900d2c47c740"), looks := false }, kinds := [], alts := [], laidByText := true, laidKinds := [.wider], laidTests := true, laidLooks := .later }
def CpuOnUptoCardSaid : Prop := Claim7.holds Tryd.pinned (.plain (OpenSpec.upto cpuOnSpec)) cpuOnUptoCard

/-- THE SECOND FORM's CARD OF 'marqueelaw.CpuReturns'. -/
def cpuReturnsUptoCard : Claim7 := { stood := { row := cpuReturnsUptoRow, standIns := [], harness := (true, "2d4a7cad10d90a01e7fa4d01c742fb5d1ec1cb2d2d9f568ad0cf900d2c47c740"), looks := false }, kinds := [], alts := [], laidByText := true, laidKinds := [.wider], laidTests := true, laidLooks := .later }
def CpuReturnsUptoCardSaid : Prop := Claim7.holds Tryd.pinned (.plain (OpenSpec.upto cpuReturnsSpec)) cpuReturnsUptoCard

/-- THE SECOND FORM's CARD OF 'marqueelaw.CpuQuiet'. -/
def cpuQuietUptoCard : Claim7 := { stood := { row := cpuQuietUptoRow, standIns := [], harness := (true, "2d4a7cad10d90a01e7fa4d01c742fb5d1ec1cb2d2d9f568ad0cf900d2c47c740"), looks := false }, kinds := [], alts := [], laidByText := true, laidKinds := [.wider], laidTests := true, laidLooks := .later }
def CpuQuietUptoCardSaid : Prop := Claim7.holds Tryd.pinned (.plain (OpenSpec.upto cpuQuietSpec)) cpuQuietUptoCard
end Rows
end Go.Proofs.YtimidkhppbhaeaaDoor
