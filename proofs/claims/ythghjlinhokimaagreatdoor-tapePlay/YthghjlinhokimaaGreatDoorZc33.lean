/-
  Parts of a proof, joined.
-/
import Derived.Test.YthghjlinhokimaaGreatDoorZcA
import Derived.Test.YthghjlinhokimaaGreatDoorZc29
set_option linter.all false
set_option maxRecDepth 100000
set_option maxHeartbeats 3200000
namespace Go.Proofs.YthghjlinhokimaaGreatDoor
open Go.ChangeShapes Go.WideShapes Go.ChangeAt Go.RowKit Go.Proofs.Tryz
theorem vN{a b:Nat}(h:a+3<b):a+1<b:=by omega
section
variable {q : Qe} {L : List (Nat × Array Value × TypeId)} {w W w4 : World} {x : C.St Bst} {bo kb k : Nat} {d e n v : Int}
theorem wV(R:QS q)(c:C.Cpu)(hc:c.ok)(w:World)(s s1 s2:Bst)(a v:Int)(hI:q.I w s)(hw:c.Waits=false)(r:Bool)(hr:r=true->c.May=false)
 (h1:∀ W,q.I W s->Calls prog 86 #[q.v,.int .u16 c.PC] W λe w'=>e=.returned (.int .u16 a)/\q.I w' s1/\Gw q.F W w')
 (k d e1:Nat) (n:Int) (hk:k<32)
 (h2:∀ W,Facts W->Calls prog 101 #[.int .u16 a,.int .u16 0] W λe w'=>e=.returned (.tuple #[.agg #[.int .i64 k,.int .i64 d,.int .i64 e1,.int .i64 n,.int .i64 0],.int .i64 2])/\Below W.heap.size W w')
 (h3:∀ W,q.I W s1->Calls prog 86 #[q.v,.int .u16 ((c.PC+2)%65536)] W λe w'=>e=.returned (.int .u16 v)/\q.I w' s2/\Gw q.F W w') (hv:0<=v/\v<=65535)
 (z:C.St Bst) (HZ:oR q w k d e1 n v ⟨{ c with PC:=(c.PC+4)%65536 },s2,0⟩ z) :
 Calls prog 73 #[gx c,q.v,.bool r] w (RP q w z):=by
 have T:=SW.start R c hc w s hI 0;have hpc:=hc.2.2;have hw8:IntKind.u16.wrap (c.PC+2)=(c.PC+2)%65536:=eh _;have hw9:IntKind.u16.wrap (c.PC+4)=(c.PC+4)%65536:=eh _;generalize hcc:({ c with PC:=(c.PC+4)%65536 }:C.Cpu)=cc at HZ;have HCC:=hid hcc;unfold gx Qe.v;rw[hw] at T ⊢;have HS:=hid T;have f:=hid R;have H1:=hid h1;have H2:=hid h2;have H3:=hid h3;have HZ2:=hid HZ;have hki:(0:Int)<=k:=by omega
 have hki2:(k:Int)<32:=by omega
 clear hI R T h1 h2 h3 hw hcc HZ;cases r;rotate_left 1
 ·rw[hr U] at HS ⊢
  clear hr
  skip
  go_enter func73,ntmps73;go_upto_region 14 with(first
   | (have zz:=m;clear zz;go_at_call 86;refine(H3.out _ (m.out.kept f.out (stA (J _) _)).inv).mono ?_;rintro e j ⟨rfl,t,u⟩;have x:=hid (((m.out.kept f.out (stA (J _) _)).also (b:=w2.heap.size) z2 vM (aJ _ _)).moved f.out t u);obtain⟨d8,_⟩:=x.out.cells;have z3:=x.out.lt;have zp3:=sJ z3;have f3:=x.out.fz;have P:=hid (x.out.l _ bl).2.2;have q0:=Lib.cell_of_heap P.out 0;have q4:=Lib.cell_of_heap P.out 4;have fq:∀ o,j.frozen? ⟨w2.heap.size,o,none⟩=false:=λo=>Lib.frozen_of_heap P.out o;have zq:=(ay.1 P.out).1;clear t u)
   | (go_at_call 86;refine(H1.out _ HS.out.inv).mono ?_;rintro e w1 ⟨rfl,B,E⟩;have S1:=hid (HS.out.moved f.out B E);clear B E)
   | (go_at_call 101;refine(H2.out _ (f.out.facts S1.out.inv)).mono ?_;rintro e w2 ⟨rfl,H⟩;have m:=hid (S1.out.kept f.out H);obtain⟨c8,_⟩:=m.out.cells;have z2:=m.out.lt;have V:=sJ z2;have zm2:=vN z2;have X:=gc V;have ne4:=br X;obtain⟨mm0,mm1⟩:=m.out.mem;clear H))
  have L:Hid (SW q [(w2.heap.size,jg k d e1 n v,191)] w ((j.setCell ⟨w2.heap.size,4,none⟩ (.int .i64 v)).setCell ⟨w.heap.size,8,none⟩ (.int .u16 ((c.PC+4)%65536))) ⟨cc,s2,0⟩):=by
   have h:=(x.out.boxed f.out (λy hy=>by cases hy) 4 (.int .i64 v)).putPC f.out ((c.PC+4)%65536) (by omega) (by omega);rw[<- HCC.out];exact h
  have ne3:w2.heap.size≠w.heap.size:=by omega
  go_cut [14] (λp wx=>∃ kb,p=.pointer (some ⟨kb,0,none⟩)/\SW q (KL w2.heap.size kb k d e1 n v) w wx ⟨cc,s2,0⟩)
  case first =>
   have szz:((j.setCell ⟨w2.heap.size,4,none⟩ (.int .i64 v)).setCell ⟨w.heap.size,8,none⟩ (.int .u16 ((c.PC+4)%65536))).heap.size=j.heap.size:=by simp
   have o0:((j.setCell ⟨w2.heap.size,4,none⟩ (.int .i64 v)).setCell ⟨w.heap.size,8,none⟩ (.int .u16 ((c.PC+4)%65536))).cell? ⟨w2.heap.size,0,none⟩=some (.int .i64 k):=Lib.cell_of_heap (L.out.l _ bl).2.2 0;have Y:w2.heap.size<((j.setCell ⟨w2.heap.size,4,none⟩ (.int .i64 v)).setCell ⟨w.heap.size,8,none⟩ (.int .u16 ((c.PC+4)%65536))).heap.size:=by simpa using zq
   go_region_with (go_at_call 142;refine(tQ _ ?_).mono ?_;(first|exact f.out.facts (f.out.same L.out.inv U)|exact f.out.facts (f.out.same (f.out.kept L.out.inv (stA (J _) _)) U));rintro e w4 ⟨g,cap,rfl,M,hg1,hg2,i⟩;obtain⟨t0,t1,t2⟩:=M k hk;clear M;obtain⟨Z,hfX⟩:=bQ i;have o4:w4.cell? ⟨w2.heap.size,0,none⟩=some (.int .i64 k):=(Z _ _ (by simp <;> omega)).trans (by first|exact o0|exact(aK _ _ _ Y).trans o0);have z4:w2.heap.size<w4.heap.size:=ap (by simp <;> omega) i.size;have z5:j.heap.size<=w4.heap.size:=ax (by simp <;> omega) i.size;have N:=hid i;clear i)
   all_goals (go_wp2_with fail;go_meet)
   all_goals first
    | exact⟨_,U,L.out.meetA f.out N.out⟩
    | exact⟨_,U,L.out.meetB f.out (by simp) N.out⟩
  case rest =>
   obtain⟨kb,rfl,hK⟩:=hcut;refine(by assumption:∀(a:Act) (w:World),Code.wp _ _ _ a w->_) _ _ ?_;exact HZ2.out _ _ _ _ ⟨U,U,U,U,U,U,U,U,U,U⟩ hK
 ·clear hr
  skip
  go_enter func73,ntmps73;go_upto_region 14 with(first
   | (have zz:=m;clear zz;go_at_call 86;refine(H3.out _ (m.out.kept f.out (stA (J _) _)).inv).mono ?_;rintro e j ⟨rfl,t,u⟩;have x:=hid (((m.out.kept f.out (stA (J _) _)).also (b:=w2.heap.size) z2 vM (aJ _ _)).moved f.out t u);obtain⟨d8,_⟩:=x.out.cells;have z3:=x.out.lt;have zp3:=sJ z3;have f3:=x.out.fz;have P:=hid (x.out.l _ bl).2.2;have q0:=Lib.cell_of_heap P.out 0;have q4:=Lib.cell_of_heap P.out 4;have fq:∀ o,j.frozen? ⟨w2.heap.size,o,none⟩=false:=λo=>Lib.frozen_of_heap P.out o;have zq:=(ay.1 P.out).1;clear t u)
   | (go_at_call 86;refine(H1.out _ HS.out.inv).mono ?_;rintro e w1 ⟨rfl,B,E⟩;have S1:=hid (HS.out.moved f.out B E);clear B E)
   | (go_at_call 101;refine(H2.out _ (f.out.facts S1.out.inv)).mono ?_;rintro e w2 ⟨rfl,H⟩;have m:=hid (S1.out.kept f.out H);obtain⟨c8,_⟩:=m.out.cells;have z2:=m.out.lt;have V:=sJ z2;have zm2:=vN z2;have X:=gc V;have ne4:=br X;obtain⟨mm0,mm1⟩:=m.out.mem;clear H))
  have L:Hid (SW q [(w2.heap.size,jg k d e1 n v,191)] w ((j.setCell ⟨w2.heap.size,4,none⟩ (.int .i64 v)).setCell ⟨w.heap.size,8,none⟩ (.int .u16 ((c.PC+4)%65536))) ⟨cc,s2,0⟩):=by
   have h:=(x.out.boxed f.out (λy hy=>by cases hy) 4 (.int .i64 v)).putPC f.out ((c.PC+4)%65536) (by omega) (by omega);rw[<- HCC.out];exact h
  have ne3:w2.heap.size≠w.heap.size:=by omega
  go_cut [14] (λp wx=>∃ kb,p=.pointer (some ⟨kb,0,none⟩)/\SW q (KL w2.heap.size kb k d e1 n v) w wx ⟨cc,s2,0⟩)
  case first =>
   have szz:((j.setCell ⟨w2.heap.size,4,none⟩ (.int .i64 v)).setCell ⟨w.heap.size,8,none⟩ (.int .u16 ((c.PC+4)%65536))).heap.size=j.heap.size:=by simp
   have o0:((j.setCell ⟨w2.heap.size,4,none⟩ (.int .i64 v)).setCell ⟨w.heap.size,8,none⟩ (.int .u16 ((c.PC+4)%65536))).cell? ⟨w2.heap.size,0,none⟩=some (.int .i64 k):=Lib.cell_of_heap (L.out.l _ bl).2.2 0;have Y:w2.heap.size<((j.setCell ⟨w2.heap.size,4,none⟩ (.int .i64 v)).setCell ⟨w.heap.size,8,none⟩ (.int .u16 ((c.PC+4)%65536))).heap.size:=by simpa using zq
   go_region_with (go_at_call 142;refine(tQ _ ?_).mono ?_;(first|exact f.out.facts (f.out.same L.out.inv U)|exact f.out.facts (f.out.same (f.out.kept L.out.inv (stA (J _) _)) U));rintro e w4 ⟨g,cap,rfl,M,hg1,hg2,i⟩;obtain⟨t0,t1,t2⟩:=M k hk;clear M;obtain⟨Z,hfX⟩:=bQ i;have o4:w4.cell? ⟨w2.heap.size,0,none⟩=some (.int .i64 k):=(Z _ _ (by simp <;> omega)).trans (by first|exact o0|exact(aK _ _ _ Y).trans o0);have z4:w2.heap.size<w4.heap.size:=ap (by simp <;> omega) i.size;have z5:j.heap.size<=w4.heap.size:=ax (by simp <;> omega) i.size;have N:=hid i;clear i)
   all_goals (go_wp2_with fail;go_meet)
   all_goals first
    | exact⟨_,U,L.out.meetA f.out N.out⟩
    | exact⟨_,U,L.out.meetB f.out (by simp) N.out⟩
  case rest =>
   obtain⟨kb,rfl,hK⟩:=hcut;refine(by assumption:∀(a:Act) (w:World),Code.wp _ _ _ a w->_) _ _ ?_;exact HZ2.out _ _ _ _ ⟨U,U,U,U,U,U,U,U,U,U⟩ hK
end
end Go.Proofs.YthghjlinhokimaaGreatDoor
