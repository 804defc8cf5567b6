/-
  DERIVED. GIVEN WITH THE SEED: THE CARDS: each row of YtgpijkcbehcaaaaDoorRows.lean that lists a variable, with what it lists TIED to the program's text (the seventh form; the later family's looks); each row that meets fmt, with fmt's text TOLD by the authors' own Lean function (tested against real Go, not proved from fmt's source: count such statements apart). THE CARD IS WHAT COUNTS. Prove the row's statement (the work); the ties are given (YtgpijkcbehcaaaaDoorTie.lean); close each card by the builder's one call (the guide's Derived/Test/ToyasCard.lean, 'card_holds'). Laid BY PROGRAM, IN A SANDBOX (cutbox-door.mjs). By AI agents, Wed Nov 11 2026. No macro, syntax, notation, axiom, sorry.
-/
import Derived.Test.YtgpijkcbehcaaaaDoorRows
import GoSem.ClaimSeven
namespace Go.Proofs.YtgpijkcbehcaaaaDoor
namespace Rows

/-- THE TIED CARD OF 'marqueelaw.Names'. -/
def namesCard : Claim7 := { stood := { row := namesRow, standIns := [], harness := (true, "6f462fc7016c88c835b66cee7cdfef9e59bbb17518b8d346011809865bc9d2ee"), looks := true }, kinds := [], alts := [], laidByText := true, laidKinds := [.wider, .data, .data, .data, .data, .sentinel, .sentinel, .listed, .data, .pinned], laidTests := true, laidLooks := .later }
def NamesCardSaid : Prop := Claim7.holds Tryd.pinned (.plain (OpenSpec.ofChange namesSpec)) namesCard

/-- THE TIED CARD OF 'marqueelaw.OrderWords'. -/
def orderWordsCard : Claim7 := { stood := { row := orderWordsRow, standIns := [], harness := (true, "6f462fc7016c88c835b66cee7cdfef9e59bbb17518b8d346011809865bc9d2ee"), looks := true }, kinds := [], alts := [], laidByText := true, laidKinds := [.wider, .data, .data, .data, .data, .sentinel, .sentinel, .listed, .data, .pinned], laidTests := true, laidLooks := .later }
def OrderWordsCardSaid : Prop := Claim7.holds Tryd.pinned (.plain (OpenSpec.ofChange orderWordsSpec)) orderWordsCard

/-- THE SECOND FORM's CARD OF 'marqueelaw.Names'. -/
def namesUptoCard : Claim7 := { stood := { row := namesUptoRow, standIns := [], harness := (true, "6f462fc7016c88c835b66cee7cdfef9e59bbb17518b8d346011809865bc9d2ee"), looks := true }, kinds := [], alts := [], laidByText := true, laidKinds := [.wider, .data, .data, .data, .data, .sentinel, .sentinel, .listed, .data, .pinned], laidTests := true, laidLooks := .later }
def NamesUptoCardSaid : Prop := Claim7.holds Tryd.pinned (.plain (OpenSpec.upto namesSpec)) namesUptoCard

/-- THE SECOND FORM's CARD OF 'marqueelaw.OrderWords'. -/
def orderWordsUptoCard : Claim7 := { stood := { row := orderWordsUptoRow, standIns := [], harness := (true, "6f462fc7016c88c835b66cee7cdfef9e59bbb17518b8d346011809865bc9d2ee"), looks := true }, kinds := [], alts := [], laidByText := true, laidKinds := [.wider, .data, .data, .data, .data, .sentinel, .sentinel, .listed, .data, .pinned], laidTests := true, laidLooks := .later }
def OrderWordsUptoCardSaid : Prop := Claim7.holds Tryd.pinned (.plain (OpenSpec.upto orderWordsSpec)) orderWordsUptoCard
end Rows
end Go.Proofs.YtgpijkcbehcaaaaDoor
