/-
  DERIVED. GIVEN WITH THE SEED: THE CARDS: each row of YthfngejmihdafaaDoorRows.lean that lists a variable, with what it lists TIED to the program's text (the seventh form; the later family's looks); each row that meets fmt, with fmt's text TOLD by the authors' own Lean function (tested against real Go, not proved from fmt's source: count such statements apart). THE CARD IS WHAT COUNTS. Prove the row's statement (the work); the ties are given (YthfngejmihdafaaDoorTie.lean); close each card by the builder's one call (the guide's Derived/Test/ToyasCard.lean, 'card_holds'). Laid BY PROGRAM, IN A SANDBOX (cutbox-door.mjs). By AI agents, Wed Nov 11 2026. No macro, syntax, notation, axiom, sorry.
-/
import Derived.Test.YthfngejmihdafaaDoorRows
import GoSem.ClaimSeven
namespace Go.Proofs.YthfngejmihdafaaDoor
namespace Rows

/-- THE TIED CARD OF 'marqueelaw.CpuOn'. -/
def cpuOnCard : Claim7 := { stood := { row := cpuOnRow, standIns := [], harness := (true, "fe13ffae8e853fedd2bfa8cbc0a951de5237d90b5b5505217baafc14dcd00761"), looks := false }, kinds := [], alts := [], laidByText := true, laidKinds := [.wider], laidTests := true, laidLooks := .later }
def CpuOnCardSaid : Prop := Claim7.holds Tryd.pinned (.plain (OpenSpec.ofChange cpuOnSpec)) cpuOnCard

/-- THE TIED CARD OF 'marqueelaw.CpuReturns'. -/
def cpuReturnsCard : Claim7 := { stood := { row := cpuReturnsRow, standIns := [], harness := (true, "fe13ffae8e853fedd2bfa8cbc0a951de5237d90b5b5505217baafc14dcd00761"), looks := false }, kinds := [], alts := [], laidByText := true, laidKinds := [.wider], laidTests := true, laidLooks := .later }
def CpuReturnsCardSaid : Prop := Claim7.holds Tryd.pinned (.plain (OpenSpec.ofChange cpuReturnsSpec)) cpuReturnsCard

/-- THE SECOND FORM's CARD OF 'marqueelaw.CpuOn'. -/
def cpuOnUptoCard : Claim7 := { stood := { row := cpuOnUptoRow, standIns := [], harness := (true, "fe13ffae8e853fedd2bfa8cbc0a951de5237d90b5b5505217baafc14dcd00761"), looks := false }, kinds := [], alts := [], laidByText := true, laidKinds := [.wider], laidTests := true, laidLooks := .later }
def CpuOnUptoCardSaid : Prop := Claim7.holds Tryd.pinned (.plain (OpenSpec.upto cpuOnSpec)) cpuOnUptoCard

/-- THE SECOND FORM's CARD OF 'marqueelaw.CpuReturns'. -/
def cpuReturnsUptoCard : Claim7 := { stood := { row := cpuReturnsUptoRow, standIns := [], harness := (true, "fe13ffae8e853fedd2bfa8cbc0a951de5237d90b5b5505217baafc14dcd00761"), looks := false }, kinds := [], alts := [], laidByText := true, laidKinds := [.wider], laidTests := true, laidLooks := .later }
def CpuReturnsUptoCardSaid : Prop := Claim7.holds Tryd.pinned (.plain (OpenSpec.upto cpuReturnsSpec)) cpuReturnsUptoCard
end Rows
end Go.Proofs.YthfngejmihdafaaDoor
