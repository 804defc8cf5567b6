/-
  Parts of a proof, joined.
-/
import Derived.Test.YthghjlinhokimaaGreatDoorZcA
import Derived.Test.YthghjlinhokimaaGreatDoorZcWatchBreak04
set_option linter.all false
set_option maxRecDepth 100000
set_option maxHeartbeats 3200000
namespace Go.Proofs.YthghjlinhokimaaGreatDoor
open Go.ChangeShapes Go.WideShapes Go.ChangeAt Go.RowKit Go.Proofs.Tryz
def gU(M:Mach)(l:List Inp)(n:Int):Int:=if M.chk=0 then (if chkIn l M.clock=0 then (if 0<=n/\n<=500/\M.clock+n<=200000 then 0 else 3) else chkIn l M.clock) else M.chk
theorem zfi{M:Mach}(a:M.ok)(l:List Inp)(n:Int):gU M l n=gQ M l n:=by
 unfold gU;by_cases h1:M.chk=0
 ·have hc:=(rq a h1).clock
  by_cases h2:chkIn l M.clock=0
  ·have e:bF M l 0=0:=zfg h1 h2 ⟨iO 0,by decide,by omega⟩
   unfold gQ;rw[e,Q U,Q h1,Q h2]
  ·have e:bF M l 0=chkIn l M.clock:=by unfold bF;rw[Q h1,G h2]
   unfold gQ;rw[e];simp[h1,h2]
 ·have e:bF M l 0=M.chk:=by unfold bF;rw[G h1]
  unfold gQ;rw[e];simp[h1]
theorem zi9{M:Mach}{l:List Inp}{n:Int}(h1:M.chk=0)(h2:chkIn l M.clock=0)(h:¬ (0<=n/\n<=500/\M.clock+n<=200000)):gU M l n=3:=by
 unfold gU;rw[Q h1,Q h2,G h]
theorem zuO{M:Mach}{l:List Inp}{n:Int}(h1:M.chk=0)(h2:chkIn l M.clock=0)(h:0<=n/\n<=500/\M.clock+n<=200000):gU M l n=0:=by
 unfold gU;rw[Q h1,Q h2,Q h]
theorem Wt.badRun(M:Mach)(S:Sl)(v:Value)(l:List Inp)(n:Int)(w:World)(L:S.lens M)(q:M.ok)(r:bE w.heap.size w v l)(X:-9223372036854775808<=n/\n<=9223372036854775807):Calls prog 10 #[.agg (D M S).toArray,v,.int .i64 n,.int .i64 500] w λe w'=>e=.returned (.int .i64 (gU M l n))/\Below w.heap.size w w':=by
 have u:Below w.heap.size w (w.alloc (.cells (D M S).toArray 41)):=stA (J w) _;have o:=hid (Bx.new w (D M S) 41 (b:=w.heap.size) U);have p:=hid ((r.kept u).mono u.size);have E:=hid L;have Y:w.heap.size<(w.alloc (.cells (D M S).toArray 41)).heap.size:=by simp
 by_cases hc:M.chk=0
 ·have P:=rq q hc
  have T:=P.clock;have s:=hid hc;by_cases hi:chkIn l M.clock=0
  ·have x:=hid hi
   clear hc hi r L q P;by_cases F:n<0
   ·have m:=zi9 s.out x.out (n:=n) (by omega)
    rw[m];have d1:decide (n<0)=true:=aL F;clear m F;go_enter func10,ntmps10;go_wp2_with (first
     | (refine wpList_load_mid U 41 _ U w.heap.size 0 U (D M S) _ o.out.c underlying41 U bV ?_)
     | (go_at_call 35;refine(oC M S _ E.out).mono ?_;rw[s.out];rintro e w1 ⟨rfl,a⟩;have d:=hid (o.out.kept a);have g:=hid (bn u a);have j:=hid ((p.out.kept a).mono a.size);have t:=d.out.at 72 (.int .i64 M.clock) U;have N:=d.out.z;clear a)
     | (go_at_call 21;refine(Lk.rcheck l v _ M.clock _ j.out (ak _)).mono ?_;rw[x.out];rintro e w2 ⟨rfl,f⟩;have i:=hid (d.out.kept f);have k:=hid (bn g.out f);have y:=i.out.at 72 (.int .i64 M.clock) U;have R:=i.out.z;clear f))
    go_ret;exact⟨U,k.out⟩
   ·have d1:decide (n<0)=false:=aF F
    by_cases h2:500<n
    ·have m:=zi9 s.out x.out (n:=n) (by omega)
     rw[m];have d2:decide (500<n)=true:=aL h2;clear m F h2;go_enter func10,ntmps10;go_wp2_with (first
      | (refine wpList_load_mid U 41 _ U w.heap.size 0 U (D M S) _ o.out.c underlying41 U bV ?_)
      | (go_at_call 35;refine(oC M S _ E.out).mono ?_;rw[s.out];rintro e w1 ⟨rfl,a⟩;have d:=hid (o.out.kept a);have g:=hid (bn u a);have j:=hid ((p.out.kept a).mono a.size);have t:=d.out.at 72 (.int .i64 M.clock) U;have N:=d.out.z;clear a)
      | (go_at_call 21;refine(Lk.rcheck l v _ M.clock _ j.out (ak _)).mono ?_;rw[x.out];rintro e w2 ⟨rfl,f⟩;have i:=hid (d.out.kept f);have k:=hid (bn g.out f);have y:=i.out.at 72 (.int .i64 M.clock) U;have R:=i.out.z;clear f))
     go_ret;exact⟨U,k.out⟩
    ·have d2:decide (500<n)=false:=aF h2
     have V:0<=n:=by omega
     have W:n<=500:=by omega
     by_cases h4:200000<M.clock+n
     ·have m:=zi9 s.out x.out (n:=n) (by omega)
      rw[m];have d3:decide (200000<M.clock+n)=true:=aL h4;clear m F h2 h4;go_enter func10,ntmps10;go_wp2_with (first
       | (refine wpList_load_mid U 41 _ U w.heap.size 0 U (D M S) _ o.out.c underlying41 U bV ?_)
       | (go_at_call 35;refine(oC M S _ E.out).mono ?_;rw[s.out];rintro e w1 ⟨rfl,a⟩;have d:=hid (o.out.kept a);have g:=hid (bn u a);have j:=hid ((p.out.kept a).mono a.size);have t:=d.out.at 72 (.int .i64 M.clock) U;have N:=d.out.z;clear a)
       | (go_at_call 21;refine(Lk.rcheck l v _ M.clock _ j.out (ak _)).mono ?_;rw[x.out];rintro e w2 ⟨rfl,f⟩;have i:=hid (d.out.kept f);have k:=hid (bn g.out f);have y:=i.out.at 72 (.int .i64 M.clock) U;have R:=i.out.z;clear f))
      go_ret;exact⟨U,k.out⟩
     ·have m:=zuO s.out x.out (n:=n) (by omega)
      rw[m];have d3:decide (200000<M.clock+n)=false:=aF h4;clear m F h2 h4;go_enter func10,ntmps10;go_wp2_with (first
       | (refine wpList_load_mid U 41 _ U w.heap.size 0 U (D M S) _ o.out.c underlying41 U bV ?_)
       | (go_at_call 35;refine(oC M S _ E.out).mono ?_;rw[s.out];rintro e w1 ⟨rfl,a⟩;have d:=hid (o.out.kept a);have g:=hid (bn u a);have j:=hid ((p.out.kept a).mono a.size);have t:=d.out.at 72 (.int .i64 M.clock) U;have N:=d.out.z;clear a)
       | (go_at_call 21;refine(Lk.rcheck l v _ M.clock _ j.out (ak _)).mono ?_;rw[x.out];rintro e w2 ⟨rfl,f⟩;have i:=hid (d.out.kept f);have k:=hid (bn g.out f);have y:=i.out.at 72 (.int .i64 M.clock) U;have R:=i.out.z;clear f))
      go_ret;exact⟨U,k.out⟩
  ·have m:gU M l n=chkIn l M.clock:=by unfold gU;rw[Q hc,G hi]
   have B:(chkIn l M.clock != 0)=true:=by simpa using hi
   rw[m];have H:=hid (λ(w1:World) (h:bE w1.heap.size w1 v l)=>Lk.rcheck l v _ M.clock w1 h (ak _));generalize chkIn l M.clock=c at B H;clear hc hi r L q P m;go_enter func10,ntmps10;go_wp2_with (first
    | (refine wpList_load_mid U 41 _ U w.heap.size 0 U (D M S) _ o.out.c underlying41 U bV ?_)
    | (go_at_call 35;refine(oC M S _ E.out).mono ?_;rw[s.out];rintro e w1 ⟨rfl,a⟩;have d:=hid (o.out.kept a);have g:=hid (bn u a);have j:=hid ((p.out.kept a).mono a.size);have t:=d.out.at 72 (.int .i64 M.clock) U;have N:=d.out.z;clear a)
    | (go_at_call 21;refine(H.out _ j.out).mono ?_;rintro e w2 ⟨rfl,f⟩;have k:=hid (bn g.out f);clear f))
   go_ret;exact⟨U,k.out⟩
 ·have m:gU M l n=M.chk:=by unfold gU;rw[G hc]
  have B:(M.chk != 0)=true:=by simpa using hc
  rw[m];have I:=hid (λ(w1:World)=>oC M S w1 E.out);generalize M.chk=c at B I;clear hc r L q m;go_enter func10,ntmps10;go_wp2_with (first
   | (refine wpList_load_mid U 41 _ U w.heap.size 0 U (D M S) _ o.out.c underlying41 U bV ?_)
   | (go_at_call 35;refine(I.out _).mono ?_;rintro e w1 ⟨rfl,a⟩;have g:=hid (bn u a);clear a))
  go_ret;exact⟨U,g.out⟩
end Go.Proofs.YthghjlinhokimaaGreatDoor
