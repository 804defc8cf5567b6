/-
  What ToneParts holds.
-/
import Derived.Test.YtjmmbbehjklhgaaTonJ
import Derived.Test.YtjmmbbehjklhgaaTonR
import Derived.Test.YtjmmbbehjklhgaaTonH
namespace Go.Proofs.Ytjmmbbehjklhgaa
open Go.ChangeShapes Go.WideShapes Go.ChangeAt Go.RowKit
set_option linter.unusedVariables false

theorem loadG {P : Program} {ops : Array Oper} {rest : List Oper} {op : Oper} {a : Act} {w : World} {Q : Exit → Act → World → Prop} (hw : Region.wanted op (yielded ops a.tmps) = true) (ty : TypeId) (x : Operand) (ho : op.op = .load ty x)
    (b o : Nat) (hx : a.eval x = .pointer (some ⟨b, o, none⟩)) (cs : List Value) (d : TypeDesc) (hc : w.rangeAt b o cs)
    (hu : P.underlying ty = some d) (hd : d.isRow = true) (hi : (P.info? ty).map (·.size) = some cs.length)
    (h : wpList P ops Q rest (a.put op.dst (.agg cs.toArray)) w) : wpList P ops Q (op :: rest) a w :=
  wpList_step fun K hK => by rw [if_pos hw]; exact wp_load_mid ty x ho b o hx cs d hc hu hd hi (hK _ _ h)
theorem neq_soundL (s : Sd) (w : World) : (binOp .neq 27 (.agg (scs s).toArray) (.agg (scs s).toArray)).run Try.prog w = .ok (.bool false) w := neq_sound s w

structure P1 (w : World) (bx : Nat) (s x : Sd) (vk : Value) (K : List UInt8) (W : World) : Prop extends TwoS w bx s x W where
  k : sliceAt W vk K
structure P2 (w : World) (bx b_y : Nat) (s x y : Sd) (vk vl : Value) (K L : List UInt8) (W : World) : Prop extends P1 w bx s x vk K W where
  y : Bx W b_y (scs y)
  l : sliceAt W vl L
structure P3 (w : World) (bx b_y bz : Nat) (s x y z : Sd) (vk vl vm : Value) (K L M : List UInt8) (W : World) : Prop extends P2 w bx b_y s x y vk vl K L W where
  z : Bx W bz (scs z)
  m : sliceAt W vm M
section
variable {w W w1 : World} {bx b_y bz : Nat} {s x y z : Sd} {vk vl vm : Value} {K L M : List UInt8}
theorem P1.kept (h : P1 w bx s x vk K W) (hb : Below W.heap.size W w1) : P1 w bx s x vk K w1 := ⟨h.toTwoS.kept hb, h.k.kept hb⟩
theorem P2.kept (h : P2 w bx b_y s x y vk vl K L W) (hb : Below W.heap.size W w1) : P2 w bx b_y s x y vk vl K L w1 := ⟨h.toP1.kept hb, h.y.kept hb, h.l.kept hb⟩
theorem P3.kept (h : P3 w bx b_y bz s x y z vk vl vm K L M W) (hb : Below W.heap.size W w1) : P3 w bx b_y bz s x y z vk vl vm K L M w1 := ⟨h.toP2.kept hb, h.z.kept hb, h.m.kept hb⟩
end
end Go.Proofs.Ytjmmbbehjklhgaa
