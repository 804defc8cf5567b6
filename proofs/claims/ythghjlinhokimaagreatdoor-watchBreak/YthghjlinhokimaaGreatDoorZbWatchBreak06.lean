/-
  Parts of a proof, joined.
-/
import Derived.Test.YthghjlinhokimaaGreatDoorZbA
import Derived.Test.YthghjlinhokimaaGreatDoorZbWatchBreak04
set_option linter.all false
set_option maxRecDepth 100000
set_option maxHeartbeats 3200000
open Option renaming some->A
open Go renaming World->u,Value->π,MemPlace->dZ,DataW->fF,reachBytes->iS
open Go.Proofs.Tryz renaming prog->ω
open Bool renaming true->Γ
open Go.Act renaming put->ag
open Go.DataW renaming trod->dh,weights->qu
open Go.Value renaming int->J
open Go.IntKind renaming i64->Q
namespace Go.Proofs.YthghjlinhokimaaGreatDoor
open Go.ChangeShapes Go.WideShapes Go.ChangeAt Go.RowKit Go.Proofs.Tryz
def j6(M:Mach)(l:List Inp)(n:Int):Int:=if M.chk=0 then (if chkIn l M.clock=0 then (if 0<=n/\n<=500/\M.clock+n<=200000 then 0 else 3) else chkIn l M.clock) else M.chk
theorem xD{M:Mach}(a:M.ok)(l:List Inp)(n:Int):j6 M l n=jz M l n:=by
 unfold j6;by_cases h1:M.chk=0
 ·have hc:=(wA a h1).clock
  by_cases h2:chkIn l M.clock=0
  ·have e:bS M l 0=0:=zfV h1 h2 ⟨jH 0,by decide,by omega⟩
   unfold jz;rw[e,am D,am h1,am h2]
  ·have e:bS M l 0=chkIn l M.clock:=by unfold bS;rw[am h1,ae h2]
   unfold jz;rw[e];simp[h1,h2]
 ·have e:bS M l 0=M.chk:=by unfold bS;rw[ae h1]
  unfold jz;rw[e];simp[h1]
theorem zky{M:Mach}{l:List Inp}{n:Int}(h1:M.chk=0)(h2:chkIn l M.clock=0)(h:¬ (0<=n/\n<=500/\M.clock+n<=200000)):j6 M l n=3:=by
 unfold j6;rw[am h1,am h2,ae h]
theorem zxB{M:Mach}{l:List Inp}{n:Int}(h1:M.chk=0)(h2:chkIn l M.clock=0)(h:0<=n/\n<=500/\M.clock+n<=200000):j6 M l n=0:=by
 unfold j6;rw[am h1,am h2,am h]
theorem Wt.badRun(M:Mach)(S:Sl)(v:π)(l:List Inp)(n:Int)(w:u)(N:S.lens M)(q:M.ok)(r:bP w.heap.size w v l)(X:-9223372036854775808<=n/\n<=9223372036854775807):Calls ω 10 #[.agg (υ M S).toArray,v,J Q n,J Q 500] w λe w'=>e=.returned (J Q (j6 M l n))/\Below w.heap.size w w':=by
 have x:Below w.heap.size w (w.alloc (.cells (υ M S).toArray 41)):=stA (aR w) _;have o:=hid (Bx.new w (υ M S) 41 (b:=w.heap.size) D);have p:=hid ((r.kept x).mono x.size);have F:=hid N;have Z:w.heap.size<(w.alloc (.cells (υ M S).toArray 41)).heap.size:=by simp
 by_cases hc:M.chk=0
 ·have R:=wA q hc
  have U:=R.clock;have s:=hid hc;by_cases hi:chkIn l M.clock=0
  ·have y:=hid hi
   clear hc hi r N q R;by_cases H:n<0
   ·have m:=zky s.out y.out (n:=n) (by omega)
    rw[m];have d1:decide (n<0)=Γ:=aO H;clear m H;go_enter func10,ntmps10;go_wp2_with (first
     | (refine wpList_load_mid D 41 _ D w.heap.size 0 D (υ M S) _ o.out.c underlying41 D cn ?_)
     | (go_at_call 35;refine(tP M S _ F.out).mono ?_;rw[s.out];rintro e w1 ⟨rfl,a⟩;have d:=hid (o.out.kept a);have g:=hid (bw x a);have j:=hid ((p.out.kept a).mono a.size);have t:=d.out.at 72 (J Q M.clock) D;have P:=d.out.z;clear a)
     | (go_at_call 21;refine(Lk.rcheck l v _ M.clock _ j.out (ψ _)).mono ?_;rw[y.out];rintro e w2 ⟨rfl,f⟩;have i:=hid (d.out.kept f);have k:=hid (bw g.out f);have B:=i.out.at 72 (J Q M.clock) D;have T:=i.out.z;clear f))
    go_ret;exact⟨D,k.out⟩
   ·have d1:decide (n<0)=false:=aG H
    by_cases h2:500<n
    ·have m:=zky s.out y.out (n:=n) (by omega)
     rw[m];have d2:decide (500<n)=Γ:=aO h2;clear m H h2;go_enter func10,ntmps10;go_wp2_with (first
      | (refine wpList_load_mid D 41 _ D w.heap.size 0 D (υ M S) _ o.out.c underlying41 D cn ?_)
      | (go_at_call 35;refine(tP M S _ F.out).mono ?_;rw[s.out];rintro e w1 ⟨rfl,a⟩;have d:=hid (o.out.kept a);have g:=hid (bw x a);have j:=hid ((p.out.kept a).mono a.size);have t:=d.out.at 72 (J Q M.clock) D;have P:=d.out.z;clear a)
      | (go_at_call 21;refine(Lk.rcheck l v _ M.clock _ j.out (ψ _)).mono ?_;rw[y.out];rintro e w2 ⟨rfl,f⟩;have i:=hid (d.out.kept f);have k:=hid (bw g.out f);have B:=i.out.at 72 (J Q M.clock) D;have T:=i.out.z;clear f))
     go_ret;exact⟨D,k.out⟩
    ·have d2:decide (500<n)=false:=aG h2
     have V:0<=n:=by omega
     have W:n<=500:=by omega
     by_cases h4:200000<M.clock+n
     ·have m:=zky s.out y.out (n:=n) (by omega)
      rw[m];have d3:decide (200000<M.clock+n)=Γ:=aO h4;clear m H h2 h4;go_enter func10,ntmps10;go_wp2_with (first
       | (refine wpList_load_mid D 41 _ D w.heap.size 0 D (υ M S) _ o.out.c underlying41 D cn ?_)
       | (go_at_call 35;refine(tP M S _ F.out).mono ?_;rw[s.out];rintro e w1 ⟨rfl,a⟩;have d:=hid (o.out.kept a);have g:=hid (bw x a);have j:=hid ((p.out.kept a).mono a.size);have t:=d.out.at 72 (J Q M.clock) D;have P:=d.out.z;clear a)
       | (go_at_call 21;refine(Lk.rcheck l v _ M.clock _ j.out (ψ _)).mono ?_;rw[y.out];rintro e w2 ⟨rfl,f⟩;have i:=hid (d.out.kept f);have k:=hid (bw g.out f);have B:=i.out.at 72 (J Q M.clock) D;have T:=i.out.z;clear f))
      go_ret;exact⟨D,k.out⟩
     ·have m:=zxB s.out y.out (n:=n) (by omega)
      rw[m];have d3:decide (200000<M.clock+n)=false:=aG h4;clear m H h2 h4;go_enter func10,ntmps10;go_wp2_with (first
       | (refine wpList_load_mid D 41 _ D w.heap.size 0 D (υ M S) _ o.out.c underlying41 D cn ?_)
       | (go_at_call 35;refine(tP M S _ F.out).mono ?_;rw[s.out];rintro e w1 ⟨rfl,a⟩;have d:=hid (o.out.kept a);have g:=hid (bw x a);have j:=hid ((p.out.kept a).mono a.size);have t:=d.out.at 72 (J Q M.clock) D;have P:=d.out.z;clear a)
       | (go_at_call 21;refine(Lk.rcheck l v _ M.clock _ j.out (ψ _)).mono ?_;rw[y.out];rintro e w2 ⟨rfl,f⟩;have i:=hid (d.out.kept f);have k:=hid (bw g.out f);have B:=i.out.at 72 (J Q M.clock) D;have T:=i.out.z;clear f))
      go_ret;exact⟨D,k.out⟩
  ·have m:j6 M l n=chkIn l M.clock:=by unfold j6;rw[am hc,ae hi]
   have E:(chkIn l M.clock != 0)=Γ:=by simpa using hi
   rw[m];have I:=hid (λ(w1:u) (h:bP w1.heap.size w1 v l)=>Lk.rcheck l v _ M.clock w1 h (ψ _));generalize chkIn l M.clock=c at E I;clear hc hi r N q R m;go_enter func10,ntmps10;go_wp2_with (first
    | (refine wpList_load_mid D 41 _ D w.heap.size 0 D (υ M S) _ o.out.c underlying41 D cn ?_)
    | (go_at_call 35;refine(tP M S _ F.out).mono ?_;rw[s.out];rintro e w1 ⟨rfl,a⟩;have d:=hid (o.out.kept a);have g:=hid (bw x a);have j:=hid ((p.out.kept a).mono a.size);have t:=d.out.at 72 (J Q M.clock) D;have P:=d.out.z;clear a)
    | (go_at_call 21;refine(I.out _ j.out).mono ?_;rintro e w2 ⟨rfl,f⟩;have k:=hid (bw g.out f);clear f))
   go_ret;exact⟨D,k.out⟩
 ·have m:j6 M l n=M.chk:=by unfold j6;rw[ae hc]
  have E:(M.chk != 0)=Γ:=by simpa using hc
  rw[m];have L:=hid (λ(w1:u)=>tP M S w1 F.out);generalize M.chk=c at E L;clear hc r N q m;go_enter func10,ntmps10;go_wp2_with (first
   | (refine wpList_load_mid D 41 _ D w.heap.size 0 D (υ M S) _ o.out.c underlying41 D cn ?_)
   | (go_at_call 35;refine(L.out _).mono ?_;rintro e w1 ⟨rfl,a⟩;have g:=hid (bw x a);clear a))
  go_ret;exact⟨D,g.out⟩
theorem zzM{H:Type}{enc:TypeId × π->H}{W:u}{v:π}{x:fF H × List dZ}{fuel:Nat}(f:dh enc ω W 0 (λ_=>Γ) Γ fuel 26 [v]=A x)(g:∀ n∈x.1.weights ω 26,n<=iS):∃ a k c,v=.slice a k c/\k<=iS:=by
 have c1:Tryz.prog.cellsOf 5=1:=by kernel_rfl
 have b1:Tryz.prog.bytesOf 5=1:=by kernel_rfl
 rcases open_ints underlying26 underlying5 c1 f with⟨hc,_⟩|⟨h,b,d,zs,hc,_,i,o,j,l,e,m⟩
 ·exact⟨none,0,0,by simpa using hc,bh _⟩
 ·refine⟨A h,b,d,by simpa using hc,?_⟩
  simp only[fO] at j;have:=g (((lits (H:=H) .u8 (zs.take b)).length+(lits (H:=H) .u8 (zs.drop b)).length)*Tryz.prog.bytesOf 5) (by rw[l];simp[qu,underlying26]);simp only[lits,bf,b1,bD,cW] at this;omega
theorem zeQ{H:Type}{enc:TypeId × π->H}{W:u}{M:Mach}{S:Sl}{d:fF H}{p:List dZ}(h:DataW.Trod enc ω W 0 (λ_=>Γ) Γ 41 (.agg (υ M S).toArray) d p)(E:∀ n∈d.weights ω 41,n<=iS)(F:S.lens M):∀ j,j<5->(M.byt j).length<=140737488355328:=by
 obtain⟨fuel,s⟩:=h;have I:dh enc ω W 0 (λ_=>Γ) Γ fuel 41 (υ M S)=A (d,p):=s;obtain⟨xs,m,_,z,_,o,b⟩:=eh underlying41 I;have P:xs.length=20:=o;simp only[gv] at z;have L:Tryz.prog.cellsOf 26=1:=by kernel_rfl
 have R:=reachBytes_lt;have key:∀(j:Nat) (i:Nat) (hi:i<20),(dh enc ω W 0 (λ_=>Γ) Γ m 26 (((υ M S).drop (30+j)).take (Tryz.prog.cellsOf 26))=xs[i]?)->(∀(y:fF H × List dZ),xs[i]?=A y->∀ n∈y.1.weights ω 26,n∈d.weights ω 41)->j<5->(M.byt j).length<=140737488355328:=λj i hi g q l=>by
  have v:=zjO M S j l;have N:((υ M S).drop (30+j)).take 1=[S.get j]:=by rw[og,mV,v];rfl
  rw[L,N,aq (by omega)] at g;obtain⟨a,k,c,e,T⟩:=zzM g (λn w=>E n (q _ (aq (by omega)) n w));obtain⟨U,V,B⟩:=F j l;rw[e] at B;simp only[iQ] at B;omega
 have r:∀(i:Nat) (y:fF H × List dZ),xs[i]?=A y->(i=2 \/ i=3 \/ i=4 \/ i=5 \/ i=6)->∀ n∈y.1.weights ω 26,n∈d.weights ω 41:=λi y f hi n w=>by
  rw[z.1];simp only[qu,underlying41];have x:(xs.map (·.1))[i]?=A y.1:=by rw[bn,f];rfl
  rcases hi with rfl|rfl|rfl|rfl|rfl
  all_goals exact DataW.weights_mem_each (t:=26) D x n w
 intro j l;rcases five l with rfl|rfl|rfl|rfl|rfl
 ·exact key 0 2 (by omega) (b 2 _ D) (λy f=>r 2 y f (by omega)) l
 ·exact key 1 3 (by omega) (b 3 _ D) (λy f=>r 3 y f (by omega)) l
 ·exact key 2 4 (by omega) (b 4 _ D) (λy f=>r 4 y f (by omega)) l
 ·exact key 3 5 (by omega) (b 5 _ D) (λy f=>r 5 y f (by omega)) l
 ·exact key 4 6 (by omega) (b 6 _ D) (λy f=>r 6 y f (by omega)) l
end Go.Proofs.YthghjlinhokimaaGreatDoor
