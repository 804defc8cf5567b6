/-
  Parts of a proof, joined.
-/
import Derived.Test.YthghjlinhokimaaGreatDoorZbA
import Derived.Test.YthghjlinhokimaaGreatDoorZb29
set_option linter.all false
set_option maxRecDepth 100000
set_option maxHeartbeats 3200000
open Option renaming none->G,some->A
open Bool renaming false->ξ
open Go.Act renaming put->ag
open Go.Value renaming int->J
open Go.IntKind renaming i64->Q,u16->Y
open Go.Ending renaming returned->μ
namespace Go.Proofs.YthghjlinhokimaaGreatDoor
open Go.ChangeShapes Go.WideShapes Go.ChangeAt Go.RowKit Go.Proofs.Tryz
theorem Bp{a b:Nat}(h:a+3<b):a+1<b:=by omega
section
variable {q : Qe} {L : List (Nat × Array Value × TypeId)} {w W w4 : World} {x : C.St Bst} {bo kb k : Nat} {d e n v : Int}
theorem Cm(R:QS q)(c:C.Cpu)(hc:c.ok)(w:World)(s s1 s2:Bst)(a v:Int)(hI:q.I w s)(hw:c.Waits=ξ)(r:Bool)(hr:r=true->c.May=ξ)
 (h1:∀ W,q.I W s->Calls prog 86 #[q.v,J Y c.PC] W λe w'=>e=μ (J Y a)/\q.I w' s1/\Gw q.F W w')
 (k d e1:Nat) (n:Int) (hk:k<32)
 (h2:∀ W,Facts W->Calls prog 101 #[J Y a,J Y 0] W λe w'=>e=μ (.tuple #[.agg #[J Q k,J Q d,J Q e1,J Q n,J Q 0],J Q 2])/\Below W.heap.size W w')
 (h3:∀ W,q.I W s1->Calls prog 86 #[q.v,J Y ((c.PC+2)%65536)] W λe w'=>e=μ (J Y v)/\q.I w' s2/\Gw q.F W w') (hv:0<=v/\v<=65535)
 (z:C.St Bst) (HZ:ve q w k d e1 n v ⟨{ c with PC:=(c.PC+4)%65536 },s2,0⟩ z) :
 Calls prog 73 #[jY c,q.v,.bool r] w (RP q w z):=by
 have U:=SW.start R c hc w s hI 0;have hpc:=hc.2.2;have hw8:IntKind.u16.wrap (c.PC+2)=(c.PC+2)%65536:=iu _;have hw9:IntKind.u16.wrap (c.PC+4)=(c.PC+4)%65536:=iu _;generalize hcc:({ c with PC:=(c.PC+4)%65536 }:C.Cpu)=cc at HZ;have HCC:=hid hcc;unfold jY Qe.v;rw[hw] at U ⊢;have HS:=hid U;have f:=hid R;have H1:=hid h1;have H2:=hid h2;have H3:=hid h3;have HZ2:=hid HZ;have hki:(0:Int)<=k:=by omega
 have hki2:(k:Int)<32:=by omega
 clear hI R U h1 h2 h3 hw hcc HZ;cases r;rotate_left 1
 ·rw[hr D] at HS ⊢
  clear hr
  skip
  go_enter func73,ntmps73;go_upto_region 14 with(first
   | (have zz:=m;clear zz;go_at_call 86;refine(H3.out _ (m.out.kept f.out (stA (aR _) _)).inv).mono ?_;rintro e j ⟨rfl,t,x⟩;have B:=hid (((m.out.kept f.out (stA (aR _) _)).also (b:=w2.heap.size) z2 Bo (aM _ _)).moved f.out t x);obtain⟨d8,_⟩:=B.out.cells;have z3:=B.out.lt;have zp3:=zH z3;have f3:=B.out.fz;have T:=hid (B.out.l _ bO).2.2;have q0:=Lib.cell_of_heap T.out 0;have q4:=Lib.cell_of_heap T.out 4;have fq:∀ o,j.frozen? ⟨w2.heap.size,o,G⟩=ξ:=λo=>Lib.frozen_of_heap T.out o;have zq:=(aa.1 T.out).1;clear t x)
   | (go_at_call 86;refine(H1.out _ HS.out.inv).mono ?_;rintro e w1 ⟨rfl,E,H⟩;have S1:=hid (HS.out.moved f.out E H);clear E H)
   | (go_at_call 101;refine(H2.out _ (f.out.facts S1.out.inv)).mono ?_;rintro e w2 ⟨rfl,L⟩;have m:=hid (S1.out.kept f.out L);obtain⟨c8,_⟩:=m.out.cells;have z2:=m.out.lt;have V:=zH z2;have zm2:=Bp z2;have X:=i6 V;have ne4:=bZ X;obtain⟨mm0,mm1⟩:=m.out.mem;clear L))
  have M:Hid (SW q [(w2.heap.size,mw k d e1 n v,191)] w ((j.setCell ⟨w2.heap.size,4,G⟩ (J Q v)).setCell ⟨w.heap.size,8,G⟩ (J Y ((c.PC+4)%65536))) ⟨cc,s2,0⟩):=by
   have h:=(B.out.boxed f.out (λy hy=>by cases hy) 4 (J Q v)).putPC f.out ((c.PC+4)%65536) (by omega) (by omega);rw[<- HCC.out];exact h
  have ne3:w2.heap.size≠w.heap.size:=by omega
  go_cut [14] (λp wx=>∃ kb,p=.pointer (A ⟨kb,0,G⟩)/\SW q (KL w2.heap.size kb k d e1 n v) w wx ⟨cc,s2,0⟩)
  case first =>
   have szz:((j.setCell ⟨w2.heap.size,4,G⟩ (J Q v)).setCell ⟨w.heap.size,8,G⟩ (J Y ((c.PC+4)%65536))).heap.size=j.heap.size:=by simp
   have o0:((j.setCell ⟨w2.heap.size,4,G⟩ (J Q v)).setCell ⟨w.heap.size,8,G⟩ (J Y ((c.PC+4)%65536))).cell? ⟨w2.heap.size,0,G⟩=A (J Q k):=Lib.cell_of_heap (M.out.l _ bO).2.2 0;have Z:w2.heap.size<((j.setCell ⟨w2.heap.size,4,G⟩ (J Q v)).setCell ⟨w.heap.size,8,G⟩ (J Y ((c.PC+4)%65536))).heap.size:=by simpa using zq
   go_region_with (go_at_call 142;refine(xn _ ?_).mono ?_;(first|exact f.out.facts (f.out.same M.out.inv D)|exact f.out.facts (f.out.same (f.out.kept M.out.inv (stA (aR _) _)) D));rintro e w4 ⟨g,cap,rfl,N,hg1,hg2,i⟩;obtain⟨t0,t1,t2⟩:=N k hk;clear N;obtain⟨hcX,hfX⟩:=cj i;have o4:w4.cell? ⟨w2.heap.size,0,G⟩=A (J Q k):=(hcX _ _ (by simp <;> omega)).trans (by first|exact o0|exact(aN _ _ _ Z).trans o0);have z4:w2.heap.size<w4.heap.size:=Θ (by simp <;> omega) i.size;have z5:j.heap.size<=w4.heap.size:=ax (by simp <;> omega) i.size;have P:=hid i;clear i)
   all_goals (go_wp2_with fail;go_meet)
   all_goals first
    | exact⟨_,D,M.out.meetA f.out P.out⟩
    | exact⟨_,D,M.out.meetB f.out (by simp) P.out⟩
  case rest =>
   obtain⟨kb,rfl,hK⟩:=hcut;refine(by assumption:∀(a:Act) (w:World),Code.wp _ _ _ a w->_) _ _ ?_;exact HZ2.out _ _ _ _ ⟨D,D,D,D,D,D,D,D,D,D⟩ hK
 ·clear hr
  skip
  go_enter func73,ntmps73;go_upto_region 14 with(first
   | (have zz:=m;clear zz;go_at_call 86;refine(H3.out _ (m.out.kept f.out (stA (aR _) _)).inv).mono ?_;rintro e j ⟨rfl,t,x⟩;have B:=hid (((m.out.kept f.out (stA (aR _) _)).also (b:=w2.heap.size) z2 Bo (aM _ _)).moved f.out t x);obtain⟨d8,_⟩:=B.out.cells;have z3:=B.out.lt;have zp3:=zH z3;have f3:=B.out.fz;have T:=hid (B.out.l _ bO).2.2;have q0:=Lib.cell_of_heap T.out 0;have q4:=Lib.cell_of_heap T.out 4;have fq:∀ o,j.frozen? ⟨w2.heap.size,o,G⟩=ξ:=λo=>Lib.frozen_of_heap T.out o;have zq:=(aa.1 T.out).1;clear t x)
   | (go_at_call 86;refine(H1.out _ HS.out.inv).mono ?_;rintro e w1 ⟨rfl,E,H⟩;have S1:=hid (HS.out.moved f.out E H);clear E H)
   | (go_at_call 101;refine(H2.out _ (f.out.facts S1.out.inv)).mono ?_;rintro e w2 ⟨rfl,L⟩;have m:=hid (S1.out.kept f.out L);obtain⟨c8,_⟩:=m.out.cells;have z2:=m.out.lt;have V:=zH z2;have zm2:=Bp z2;have X:=i6 V;have ne4:=bZ X;obtain⟨mm0,mm1⟩:=m.out.mem;clear L))
  have M:Hid (SW q [(w2.heap.size,mw k d e1 n v,191)] w ((j.setCell ⟨w2.heap.size,4,G⟩ (J Q v)).setCell ⟨w.heap.size,8,G⟩ (J Y ((c.PC+4)%65536))) ⟨cc,s2,0⟩):=by
   have h:=(B.out.boxed f.out (λy hy=>by cases hy) 4 (J Q v)).putPC f.out ((c.PC+4)%65536) (by omega) (by omega);rw[<- HCC.out];exact h
  have ne3:w2.heap.size≠w.heap.size:=by omega
  go_cut [14] (λp wx=>∃ kb,p=.pointer (A ⟨kb,0,G⟩)/\SW q (KL w2.heap.size kb k d e1 n v) w wx ⟨cc,s2,0⟩)
  case first =>
   have szz:((j.setCell ⟨w2.heap.size,4,G⟩ (J Q v)).setCell ⟨w.heap.size,8,G⟩ (J Y ((c.PC+4)%65536))).heap.size=j.heap.size:=by simp
   have o0:((j.setCell ⟨w2.heap.size,4,G⟩ (J Q v)).setCell ⟨w.heap.size,8,G⟩ (J Y ((c.PC+4)%65536))).cell? ⟨w2.heap.size,0,G⟩=A (J Q k):=Lib.cell_of_heap (M.out.l _ bO).2.2 0;have Z:w2.heap.size<((j.setCell ⟨w2.heap.size,4,G⟩ (J Q v)).setCell ⟨w.heap.size,8,G⟩ (J Y ((c.PC+4)%65536))).heap.size:=by simpa using zq
   go_region_with (go_at_call 142;refine(xn _ ?_).mono ?_;(first|exact f.out.facts (f.out.same M.out.inv D)|exact f.out.facts (f.out.same (f.out.kept M.out.inv (stA (aR _) _)) D));rintro e w4 ⟨g,cap,rfl,N,hg1,hg2,i⟩;obtain⟨t0,t1,t2⟩:=N k hk;clear N;obtain⟨hcX,hfX⟩:=cj i;have o4:w4.cell? ⟨w2.heap.size,0,G⟩=A (J Q k):=(hcX _ _ (by simp <;> omega)).trans (by first|exact o0|exact(aN _ _ _ Z).trans o0);have z4:w2.heap.size<w4.heap.size:=Θ (by simp <;> omega) i.size;have z5:j.heap.size<=w4.heap.size:=ax (by simp <;> omega) i.size;have P:=hid i;clear i)
   all_goals (go_wp2_with fail;go_meet)
   all_goals first
    | exact⟨_,D,M.out.meetA f.out P.out⟩
    | exact⟨_,D,M.out.meetB f.out (by simp) P.out⟩
  case rest =>
   obtain⟨kb,rfl,hK⟩:=hcut;refine(by assumption:∀(a:Act) (w:World),Code.wp _ _ _ a w->_) _ _ ?_;exact HZ2.out _ _ _ _ ⟨D,D,D,D,D,D,D,D,D,D⟩ hK
end
end Go.Proofs.YthghjlinhokimaaGreatDoor
