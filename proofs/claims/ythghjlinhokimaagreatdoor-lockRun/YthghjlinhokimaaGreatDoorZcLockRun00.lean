/-
  Parts of a proof, joined.
-/
import Derived.Test.YthghjlinhokimaaGreatDoorZcA
import Derived.Test.YthghjlinhokimaaGreatDoorZc02
set_option linter.all false
set_option maxRecDepth 100000
namespace Go.Proofs.YthghjlinhokimaaGreatDoor
open Go.ChangeShapes Go.WideShapes Go.ChangeAt Go.RowKit Go.Proofs.Tryz
theorem zb7{H:Type}{enc:TypeId × Value->H}{a:Assume}{C:Checked}{os:Os}{f:FuncId}{k:Func}{s:ChangeSpec}{g:List PathCond}{b fresh d l:Bool}{X:World->Array Value->Prop}
 (N:∀(w w':World) (args:Array Value),w.heap=w'.heap->X w args->X w' args)
 (q:ownKnob C.prog.godebug=none) (m:os.Started) (o:C.prog.inits.idxOf? f=none) (B:C.prog.funcs[f]?=some k)
 (n:∃(w:World) (tape:Tape) (i:Input),w.os=os/\(w.forCall tape i).Shaped C.prog/\i.vars=[]/\Input.okWide C.prog (w.forCall tape i) .any w.heap.size f i /\
   ((s.pre enc C.prog k g b (w.forCall tape i).memory i.args/\X (w.forCall tape i).memory i.args)/\sizedMet enc C.prog k (OpenSpec.ofChange s) b (w.forCall tape i).memory i.args)/\a.holds C.prog (lone (Frame.enter C.prog f i.args .normal) [] (w.forCall tape i)))
 (h:∀(W:World) (base:Nat) (args:Array Value) (r u:List (DataW H)) (c:List MemPlace),
   (∀(j:Nat) t v,k.params[j]?=some t->args[j]?=some v->Value.okWide C.prog W .any base t v) ->
   DataW.Whole enc C.prog k.params.toList s.vars b W args.toList r u c ->
   g.all (PathCond.test C.prog ⟨k.params.toList,r,s.plain.varTypes C.prog,u⟩)=true ->
   (DataW.weightsEach C.prog (k.params.toList++s.plain.varTypes C.prog) (r++u)).all (· <= reachBytes)=true->X W args->W.ShapedOpen C.prog ->
   a.holds C.prog (lone (Frame.enter C.prog f args .normal) [] W) ->
   Calls C.prog f args W λe L=>∃ v,e=.returned v/\s.post enc C.prog k b fresh d l W args v L) :
 ReturnsInHanded a C os f .any (λw args=>(s.pre enc C.prog k g b w args/\X w args)/\sizedMet enc C.prog k (OpenSpec.ofChange s) b w args) (s.post enc C.prog k b fresh d l):=by
 refine iY q m o n ?_;intro w tape i _ E _ F x p;obtain⟨_,_,_,I,y,_,_,_,_,z⟩:=F;obtain rfl:I=k:=aH (y.symm.trans B);obtain⟨⟨⟨r,u,c,M,hc⟩,P⟩,R⟩:=x;refine(h (w.forCall tape i) w.heap.size i.args r u c z (j5 (w':=w.forCall tape i) (by rfl) M) hc (R.weights M) (N _ _ _ (by rfl) P) E p).mono λe L ⟨v,T,hp⟩=>?_
 subst T;exact jB hp
end Go.Proofs.YthghjlinhokimaaGreatDoor
