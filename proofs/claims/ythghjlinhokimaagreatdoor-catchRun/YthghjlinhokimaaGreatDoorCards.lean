/-
  DERIVED. GIVEN WITH THE SEED: THE CARDS: each row of YthghjlinhokimaaGreatDoorRows.lean that lists a variable, with what it lists TIED to the program's text (the seventh form; the later family's looks); each row that meets fmt, with fmt's text TOLD by the authors' own Lean function (tested against real Go, not proved from fmt's source: count such statements apart). THE CARD IS WHAT COUNTS. Prove the row's statement (the work); the ties are given (YthghjlinhokimaaGreatDoorTie.lean); close each card by the builder's one call (the guide's Derived/Test/ToyasCard.lean, 'card_holds'). Laid BY PROGRAM, IN A SANDBOX (cutbox-door.mjs). By AI agents, Wed Nov 11 2026. No macro, syntax, notation, axiom, sorry.
-/
import Derived.Test.YthghjlinhokimaaGreatDoorRows
import GoSem.ClaimSeven
namespace Go.Proofs.YthghjlinhokimaaGreatDoor
namespace Rows

/-- THE TIED CARD OF 'marqueelaw.LockRun'. -/
def lockRunCard : Claim7 := { stood := { row := lockRunRow, standIns := [], harness := (true, "061228d519e7e57b151e123afbbb7669929193ad45427eb9824a29a2c546ced8"), looks := true }, kinds := [], alts := [], laidByText := true, laidKinds := [.wider, .data, .data, .data, .data, .sentinel, .sentinel, .listed, .data, .pinned], laidTests := true, laidLooks := .later }
def LockRunCardSaid : Prop := Claim7.holds Tryz.pinned (.plain (OpenSpec.ofChange lockRunSpec)) lockRunCard

/-- THE TIED CARD OF 'marqueelaw.CatchRun'. -/
def catchRunCard : Claim7 := { stood := { row := catchRunRow, standIns := [], harness := (true, "061228d519e7e57b151e123afbbb7669929193ad45427eb9824a29a2c546ced8"), looks := true }, kinds := [], alts := [], laidByText := true, laidKinds := [.wider, .data, .data, .data, .data, .sentinel, .sentinel, .listed, .data, .pinned], laidTests := true, laidLooks := .later }
def CatchRunCardSaid : Prop := Claim7.holds Tryz.pinned (.plain (OpenSpec.ofChange catchRunSpec)) catchRunCard

/-- THE TIED CARD OF 'marqueelaw.TapePlay'. -/
def tapePlayCard : Claim7 := { stood := { row := tapePlayRow, standIns := [], harness := (true, "061228d519e7e57b151e123afbbb7669929193ad45427eb9824a29a2c546ced8"), looks := true }, kinds := [], alts := [], laidByText := true, laidKinds := [.wider, .data, .data, .data, .data, .sentinel, .sentinel, .listed, .data, .pinned], laidTests := true, laidLooks := .later }
def TapePlayCardSaid : Prop := Claim7.holds Tryz.pinned (.plain (OpenSpec.ofChange tapePlaySpec)) tapePlayCard

/-- THE TIED CARD OF 'marqueelaw.WatchTrace'. -/
def watchTraceCard : Claim7 := { stood := { row := watchTraceRow, standIns := [], harness := (true, "061228d519e7e57b151e123afbbb7669929193ad45427eb9824a29a2c546ced8"), looks := true }, kinds := [], alts := [], laidByText := true, laidKinds := [.wider, .data, .data, .data, .data, .sentinel, .sentinel, .listed, .data, .pinned], laidTests := true, laidLooks := .later }
def WatchTraceCardSaid : Prop := Claim7.holds Tryz.pinned (.plain (OpenSpec.ofChange watchTraceSpec)) watchTraceCard

/-- THE TIED CARD OF 'marqueelaw.WatchBreak'. -/
def watchBreakCard : Claim7 := { stood := { row := watchBreakRow, standIns := [], harness := (true, "061228d519e7e57b151e123afbbb7669929193ad45427eb9824a29a2c546ced8"), looks := true }, kinds := [], alts := [], laidByText := true, laidKinds := [.wider, .data, .data, .data, .data, .sentinel, .sentinel, .listed, .data, .pinned], laidTests := true, laidLooks := .later }
def WatchBreakCardSaid : Prop := Claim7.holds Tryz.pinned (.plain (OpenSpec.ofChange watchBreakSpec)) watchBreakCard

/-- THE SECOND FORM's CARD OF 'marqueelaw.LockRun'. -/
def lockRunUptoCard : Claim7 := { stood := { row := lockRunUptoRow, standIns := [], harness := (true, "061228d519e7e57b151e123afbbb7669929193ad45427eb9824a29a2c546ced8"), looks := true }, kinds := [], alts := [], laidByText := true, laidKinds := [.wider, .data, .data, .data, .data, .sentinel, .sentinel, .listed, .data, .pinned], laidTests := true, laidLooks := .later }
def LockRunUptoCardSaid : Prop := Claim7.holds Tryz.pinned (.plain (OpenSpec.upto lockRunSpec)) lockRunUptoCard

/-- THE SECOND FORM's CARD OF 'marqueelaw.CatchRun'. -/
def catchRunUptoCard : Claim7 := { stood := { row := catchRunUptoRow, standIns := [], harness := (true, "061228d519e7e57b151e123afbbb7669929193ad45427eb9824a29a2c546ced8"), looks := true }, kinds := [], alts := [], laidByText := true, laidKinds := [.wider, .data, .data, .data, .data, .sentinel, .sentinel, .listed, .data, .pinned], laidTests := true, laidLooks := .later }
def CatchRunUptoCardSaid : Prop := Claim7.holds Tryz.pinned (.plain (OpenSpec.upto catchRunSpec)) catchRunUptoCard

/-- THE SECOND FORM's CARD OF 'marqueelaw.TapePlay'. -/
def tapePlayUptoCard : Claim7 := { stood := { row := tapePlayUptoRow, standIns := [], harness := (true, "061228d519e7e57b151e123afbbb7669929193ad45427eb9824a29a2c546ced8"), looks := true }, kinds := [], alts := [], laidByText := true, laidKinds := [.wider, .data, .data, .data, .data, .sentinel, .sentinel, .listed, .data, .pinned], laidTests := true, laidLooks := .later }
def TapePlayUptoCardSaid : Prop := Claim7.holds Tryz.pinned (.plain (OpenSpec.upto tapePlaySpec)) tapePlayUptoCard

/-- THE SECOND FORM's CARD OF 'marqueelaw.WatchTrace'. -/
def watchTraceUptoCard : Claim7 := { stood := { row := watchTraceUptoRow, standIns := [], harness := (true, "061228d519e7e57b151e123afbbb7669929193ad45427eb9824a29a2c546ced8"), looks := true }, kinds := [], alts := [], laidByText := true, laidKinds := [.wider, .data, .data, .data, .data, .sentinel, .sentinel, .listed, .data, .pinned], laidTests := true, laidLooks := .later }
def WatchTraceUptoCardSaid : Prop := Claim7.holds Tryz.pinned (.plain (OpenSpec.upto watchTraceSpec)) watchTraceUptoCard

/-- THE SECOND FORM's CARD OF 'marqueelaw.WatchBreak'. -/
def watchBreakUptoCard : Claim7 := { stood := { row := watchBreakUptoRow, standIns := [], harness := (true, "061228d519e7e57b151e123afbbb7669929193ad45427eb9824a29a2c546ced8"), looks := true }, kinds := [], alts := [], laidByText := true, laidKinds := [.wider, .data, .data, .data, .data, .sentinel, .sentinel, .listed, .data, .pinned], laidTests := true, laidLooks := .later }
def WatchBreakUptoCardSaid : Prop := Claim7.holds Tryz.pinned (.plain (OpenSpec.upto watchBreakSpec)) watchBreakUptoCard
end Rows
end Go.Proofs.YthghjlinhokimaaGreatDoor
