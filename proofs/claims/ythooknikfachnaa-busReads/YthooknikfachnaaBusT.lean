/-
  Many cells of a board at once: a processor, the sound.
-/
import Derived.Test.YthooknikfachnaaBusL2
namespace Go.Proofs.Ythooknikfachnaa
open Go.ChangeShapes Go.WideShapes Go.ChangeAt Go.RowKit
set_option linter.unusedVariables false
set_option maxRecDepth 100000

theorem putL_mid (C : List Value) : ∀ (B' B A : List Value), B'.length = B.length → putL (A ++ (B ++ C)) A.length B' = A ++ (B' ++ C)
  | [], [], A, _ => rfl
  | v :: vs, b :: bs, A, h => by
    have e : (A ++ (b :: bs ++ C)).set A.length v = (A ++ [v]) ++ (bs ++ C) := by simp
    have ih := putL_mid C vs bs (A ++ [v]) (by simpa using h)
    simp only [List.length_append, List.length_cons, List.length_nil, Nat.zero_add] at ih
    show putL ((A ++ (b :: bs ++ C)).set A.length v) (A.length + 1) vs = _
    rw [e, ih]
    simp
def rest1 (M : Mach) : List Value := [.int .u8 M.p0.d, .bool M.p0.l, .int .u8 M.p0.s, .int .u8 M.p1.d, .bool M.p1.l, .int .u8 M.p1.s, .int .u16 M.t.r, .int .u16 M.t.c, .bool M.t.on, .bool M.t.g]
def rest2 (M : Mach) : List Value := [.int .i64 M.b.l, .int .i64 M.b.a, .bool M.b.g, .int .i64 M.b.f, .int .u16 M.fr, .int .u16 M.to, .bool M.granted, .bool M.held, .int .u8 M.m0, .int .u8 M.m1, .bool M.rung, .int .i64 M.clock, .int .i64 M.mready, .int .i64 M.aready]
def sndL (s : Sd) : List Value := [.int .u16 s.a.p, .int .u16 s.a.c, .int .u8 s.a.l, .bool s.a.h, .int .u16 s.a.n, .int .u16 s.b.p, .int .u16 s.b.c, .int .u8 s.b.l, .bool s.b.h, .int .u16 s.b.n, .int .u16 s.c.p, .int .u16 s.c.c, .int .u8 s.c.l, .bool s.c.h, .int .u16 s.c.n, .int .i64 s.w]
theorem restL_eq (M : Mach) : restL M = rest1 M ++ (sndL M.s ++ rest2 M) := rfl
theorem Fx.putMain (F : Fx) (M : Mach) (tk : Tk) (c : C.Cpu) : putL (F.cells M tk) 0 (cpuL c) = F.cells { M with main := c } tk := by
  unfold Fx.cells machL
  rw [List.append_assoc]
  exact putL_mid _ (cpuL c) (cpuL M.main) [] rfl
theorem Fx.putAux (F : Fx) (M : Mach) (tk : Tk) (c : C.Cpu) : putL (F.cells M tk) 15 (cpuL c) = F.cells { M with aux := c } tk := by
  unfold Fx.cells machL
  simp only [List.append_assoc]
  exact putL_mid _ (cpuL c) (cpuL M.aux) (cpuL M.main) rfl
theorem Fx.putSnd (F : Fx) (M : Mach) (tk : Tk) (s : Sd) : putL (F.cells M tk) 45 (sndL s) = F.cells { M with s := s } tk := by
  have e : ∀ M : Mach, F.cells M tk = (cpuL M.main ++ (cpuL M.aux ++ (slL F.S ++ rest1 M))) ++ (sndL M.s ++ (rest2 M ++ ([.int .i64 tk.n, tk.v] ++ (F.sideM ++ F.sideA)))) := by
    intro M
    unfold Fx.cells machL
    rw [restL_eq]
    simp only [List.append_assoc]
  rw [e M, e]
  exact putL_mid _ (sndL s) (sndL M.s) (cpuL M.main ++ (cpuL M.aux ++ (slL F.S ++ rest1 M))) rfl
end Go.Proofs.Ythooknikfachnaa
