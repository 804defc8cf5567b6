/-
  Parts of a proof, joined.
-/
import Derived.Test.YthghjlinhokimaaGreatDoorZbA
import Derived.Test.YthghjlinhokimaaGreatDoorZb02
set_option linter.all false
set_option maxRecDepth 100000
open Go.Act renaming put->ag
open Go.OpenSpec renaming ofChange->bQ
namespace Go.Proofs.YthghjlinhokimaaGreatDoor
open Go.ChangeShapes Go.WideShapes Go.ChangeAt Go.RowKit Go.Proofs.Tryz
theorem zbe{H:Type}{enc:TypeId × Value->H}{a:Assume}{C:Checked}{os:Os}{f:FuncId}{k:Func}{s:ChangeSpec}{g:List PathCond}{b fresh d l:Bool}{X:World->Array Value->Prop}
 (P:∀(w w':World) (args:Array Value),w.heap=w'.heap->X w args->X w' args)
 (q:ownKnob C.prog.godebug=none) (m:os.Started) (o:C.prog.inits.idxOf? f=none) (E:C.prog.funcs[f]?=some k)
 (n:∃(w:World) (tape:Tape) (i:Input),w.os=os/\(w.forCall tape i).Shaped C.prog/\i.vars=[]/\Input.okWide C.prog (w.forCall tape i) .any w.heap.size f i /\
   ((s.pre enc C.prog k g b (w.forCall tape i).memory i.args/\X (w.forCall tape i).memory i.args)/\sizedMet enc C.prog k (bQ s) b (w.forCall tape i).memory i.args)/\a.holds C.prog (lone (Frame.enter C.prog f i.args .normal) [] (w.forCall tape i)))
 (h:∀(W:World) (base:Nat) (args:Array Value) (r x:List (DataW H)) (c:List MemPlace),
   (∀(j:Nat) t v,k.params[j]?=some t->args[j]?=some v->Value.okWide C.prog W .any base t v) ->
   DataW.Whole enc C.prog k.params.toList s.vars b W args.toList r x c ->
   g.all (PathCond.test C.prog ⟨k.params.toList,r,s.plain.varTypes C.prog,x⟩)=true ->
   (DataW.weightsEach C.prog (k.params.toList++s.plain.varTypes C.prog) (r++x)).all (· <= reachBytes)=true->X W args->W.ShapedOpen C.prog ->
   a.holds C.prog (lone (Frame.enter C.prog f args .normal) [] W) ->
   Calls C.prog f args W λe M=>∃ v,e=.returned v/\s.post enc C.prog k b fresh d l W args v M) :
 ReturnsInHanded a C os f .any (λw args=>(s.pre enc C.prog k g b w args/\X w args)/\sizedMet enc C.prog k (bQ s) b w args) (s.post enc C.prog k b fresh d l):=by
 refine l6 q m o n ?_;intro w tape i _ F _ I y p;obtain⟨_,_,_,L,z,_,_,_,_,B⟩:=I;obtain rfl:L=k:=aL (z.symm.trans E);obtain⟨⟨⟨r,x,c,N,hc⟩,R⟩,T⟩:=y;refine(h (w.forCall tape i) w.heap.size i.args r x c B (nO (w':=w.forCall tape i) (by rfl) N) hc (T.weights N) (P _ _ _ (by rfl) R) F p).mono λe M ⟨v,U,hp⟩=>?_
 subst U;exact mX hp
end Go.Proofs.YthghjlinhokimaaGreatDoor
