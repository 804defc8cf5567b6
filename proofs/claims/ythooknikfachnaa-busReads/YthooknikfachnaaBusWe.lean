/-
  What is left behind a byte that may have gone to the sound.
-/
import Derived.Test.YthooknikfachnaaBusW
namespace Go.Proofs.Ythooknikfachnaa
set_option linter.unusedVariables false
set_option maxRecDepth 100000

def EndA (F : Fx) (W w' : World) (M : Mach) (tk : Tk) (l : List Wt) : Prop := (∃ v, Bd F w' M (tk.app l v)) ∧ Bw F W w'
end Go.Proofs.Ythooknikfachnaa
