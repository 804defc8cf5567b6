/-
  DERIVED. GIVEN WITH THE SEED: THE CARDS: each row of YtbfflipcmciapaaDoorRows.lean that lists a variable, with what it lists TIED to the program's text (the seventh form; the later family's looks); each row that meets fmt, with fmt's text TOLD by the authors' own Lean function (tested against real Go, not proved from fmt's source: count such statements apart). THE CARD IS WHAT COUNTS. Prove the row's statement (the work); the ties are given (YtbfflipcmciapaaDoorTie.lean); close each card by the builder's one call (the guide's Derived/Test/ToyasCard.lean, 'card_holds'). Laid BY PROGRAM, IN A SANDBOX (cutbox-door.mjs). By AI agents, Wed Nov 11 2026. No macro, syntax, notation, axiom, sorry.
-/
import Derived.Test.YtbfflipcmciapaaDoorRows
import GoSem.ClaimSeven
namespace Go.Proofs.YtbfflipcmciapaaDoor
namespace Rows

/-- THE TIED CARD OF 'marqueelaw.TapePrint'. -/
def tapePrintCard : Claim7 := { stood := { row := tapePrintRow, standIns := [], harness := (true, "8c79167d4ae89780b25fe71d7be8c2d3fb2aa54d05455acd69e754cf50b00871"), looks := true }, kinds := [], alts := [], laidByText := true, laidKinds := [.data, .data, .data, .data, .sentinel, .sentinel, .pinned], laidTests := true, laidLooks := .later }
def TapePrintCardSaid : Prop := Claim7.holds Tryd.pinned (.plain (OpenSpec.ofChange tapePrintSpec)) tapePrintCard

/-- THE TIED CARD OF 'marqueelaw.TapeParse'. -/
def tapeParseCard : Claim7 := { stood := { row := tapeParseRow, standIns := [], harness := (true, "8c79167d4ae89780b25fe71d7be8c2d3fb2aa54d05455acd69e754cf50b00871"), looks := true }, kinds := [], alts := [], laidByText := true, laidKinds := [.data, .data, .data, .data, .sentinel, .sentinel, .pinned], laidTests := true, laidLooks := .later }
def TapeParseCardSaid : Prop := Claim7.holds Tryd.pinned (.plain (OpenSpec.ofChange tapeParseSpec)) tapeParseCard

/-- THE TIED CARD OF 'marqueelaw.TapeFrame'. -/
def tapeFrameCard : Claim7 := { stood := { row := tapeFrameRow, standIns := [], harness := (true, "8c79167d4ae89780b25fe71d7be8c2d3fb2aa54d05455acd69e754cf50b00871"), looks := true }, kinds := [], alts := [], laidByText := true, laidKinds := [.data, .data, .data, .data, .sentinel, .sentinel, .pinned], laidTests := true, laidLooks := .later }
def TapeFrameCardSaid : Prop := Claim7.holds Tryd.pinned (.plain (OpenSpec.ofChange tapeFrameSpec)) tapeFrameCard

/-- THE TIED CARD OF 'marqueelaw.TapeBack'. -/
def tapeBackCard : Claim7 := { stood := { row := tapeBackRow, standIns := [], harness := (true, "8c79167d4ae89780b25fe71d7be8c2d3fb2aa54d05455acd69e754cf50b00871"), looks := true }, kinds := [], alts := [], laidByText := true, laidKinds := [.data, .data, .data, .data, .sentinel, .sentinel, .pinned], laidTests := true, laidLooks := .later }
def TapeBackCardSaid : Prop := Claim7.holds Tryd.pinned (.plain (OpenSpec.ofChange tapeBackSpec)) tapeBackCard

/-- THE SECOND FORM's CARD OF 'marqueelaw.TapePrint'. -/
def tapePrintUptoCard : Claim7 := { stood := { row := tapePrintUptoRow, standIns := [], harness := (true, "8c79167d4ae89780b25fe71d7be8c2d3fb2aa54d05455acd69e754cf50b00871"), looks := true }, kinds := [], alts := [], laidByText := true, laidKinds := [.data, .data, .data, .data, .sentinel, .sentinel, .pinned], laidTests := true, laidLooks := .later }
def TapePrintUptoCardSaid : Prop := Claim7.holds Tryd.pinned (.plain (OpenSpec.upto tapePrintSpec)) tapePrintUptoCard

/-- THE SECOND FORM's CARD OF 'marqueelaw.TapeParse'. -/
def tapeParseUptoCard : Claim7 := { stood := { row := tapeParseUptoRow, standIns := [], harness := (true, "8c79167d4ae89780b25fe71d7be8c2d3fb2aa54d05455acd69e754cf50b00871"), looks := true }, kinds := [], alts := [], laidByText := true, laidKinds := [.data, .data, .data, .data, .sentinel, .sentinel, .pinned], laidTests := true, laidLooks := .later }
def TapeParseUptoCardSaid : Prop := Claim7.holds Tryd.pinned (.plain (OpenSpec.upto tapeParseSpec)) tapeParseUptoCard

/-- THE SECOND FORM's CARD OF 'marqueelaw.TapeFrame'. -/
def tapeFrameUptoCard : Claim7 := { stood := { row := tapeFrameUptoRow, standIns := [], harness := (true, "8c79167d4ae89780b25fe71d7be8c2d3fb2aa54d05455acd69e754cf50b00871"), looks := true }, kinds := [], alts := [], laidByText := true, laidKinds := [.data, .data, .data, .data, .sentinel, .sentinel, .pinned], laidTests := true, laidLooks := .later }
def TapeFrameUptoCardSaid : Prop := Claim7.holds Tryd.pinned (.plain (OpenSpec.upto tapeFrameSpec)) tapeFrameUptoCard

/-- THE SECOND FORM's CARD OF 'marqueelaw.TapeBack'. -/
def tapeBackUptoCard : Claim7 := { stood := { row := tapeBackUptoRow, standIns := [], harness := (true, "8c79167d4ae89780b25fe71d7be8c2d3fb2aa54d05455acd69e754cf50b00871"), looks := true }, kinds := [], alts := [], laidByText := true, laidKinds := [.data, .data, .data, .data, .sentinel, .sentinel, .pinned], laidTests := true, laidLooks := .later }
def TapeBackUptoCardSaid : Prop := Claim7.holds Tryd.pinned (.plain (OpenSpec.upto tapeBackSpec)) tapeBackUptoCard
end Rows
end Go.Proofs.YtbfflipcmciapaaDoor
