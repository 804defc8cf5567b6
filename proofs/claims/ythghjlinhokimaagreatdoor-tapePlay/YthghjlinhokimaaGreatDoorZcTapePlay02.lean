/-
  Parts of a proof, joined.
-/
import Derived.Test.YthghjlinhokimaaGreatDoorZcA
import Derived.Test.YthghjlinhokimaaGreatDoorZcTapePlay00
import Derived.Test.YthghjlinhokimaaGreatDoorZcTapePlay01
import Derived.Lib.ItoaLen
set_option linter.all false
set_option maxRecDepth 100000
set_option maxHeartbeats 6400000
namespace Go.Proofs.YthghjlinhokimaaGreatDoor
open Go.ChangeShapes Go.WideShapes Go.ChangeAt Go.RowKit Go.Proofs.Tryz
structure Tp.F (w : World) : Prop where
 pow:Lib.TabIs prog w "internal/strconv.uint64pow10" .u64 Lib.pow10Tab
 len:∃ m,w.cell? ⟨0,0,none⟩=some (.int .i64 m)
 syn:∃ ev,w.cell? ⟨4,0,none⟩=some ev/\(ev=.nilIface \/ ∃ te pe,ev=.iface te pe)
 ran:∃ ev,w.cell? ⟨5,0,none⟩=some ev/\(ev=.nilIface \/ ∃ te pe,ev=.iface te pe)
theorem znR:Tryz.prog.globalNamed "internal/strconv.uint64pow10" = some 6:=by kernel_rfl
theorem Tp.F.kept{w w':World}(h:Tp.F w)(hb:Below w.heap.size w w'):Tp.F w':=by
 obtain⟨t,⟨m,a⟩,⟨e1,h1,b⟩,⟨e2,h2,c⟩⟩:=h;exact⟨Joins.tab_stays znR t hb (ak _),⟨m,(hb.cell (aG w _ a)).trans a⟩,⟨e1,(hb.cell (aG w _ h1)).trans h1,b⟩,⟨e2,(hb.cell (aG w _ h2)).trans h2,c⟩⟩
theorem Tp.below_grow(w:World)(k:Nat)(os:Array Obj):Below w.heap.size w (Sort.grow (w.drewN k) os):=by
 have h:∀ k,Below w.heap.size w (w.drewN k):=λk=>by
  induction k with
  | zero=>exact J w
  | succ k a=>exact a.drew
 refine(h k).trans ⟨U,U,U,by simp[Sort.grow],λi hi=>?_⟩;have:(w.drewN k).heap.size=w.heap.size:=by simp
 show ((w.drewN k).heap++os)[i]?=_;rw[iC (by omega)]
theorem zfY(n:Int)(a:-9223372036854775808<=n)(h1:n<=9223372036854775807)(w:World)(h:Tp.F w):Calls prog 104 #[.int .i64 n] w λe w'=>e=.returned (.string (mk (Lib.itoa n)))/\Below w.heap.size w w':=by
 refine(Tryz.strconv_Itoa n a h1 w h.pow).mono λe w' ⟨b,k,os,c⟩=>⟨b,?_⟩
 subst c;exact Tp.below_grow w k os
structure Tp.In where
 c:Int
 p:Int
 d:Nat
structure Tp.In.ok (x : Tp.In) : Prop where
 c0:-9223372036854775808<=x.c
 c1:x.c<=9223372036854775807
 p0:-9223372036854775808<=x.p
 p1:x.p<=9223372036854775807
 d:x.d<256
def Tp.In.line(x:Tp.In):List UInt8:=Lib.itoa x.c++[32]++Lib.itoa x.p++[32]++Tp.btn x.d
theorem Tp.In.line_len{x:Tp.In}(h:x.ok):x.line.length<=60:=by
 have h1:=Lib.itoa_length_le x.c h.c0 h.c1;have h2:=Lib.itoa_length_le x.p h.p0 h.p1;unfold Tp.In.line;simp only[aC,bR,eO,zdk];omega
def Tp.In.val(x:Tp.In):Array Value:=#[.int .i64 x.c,.int .i64 x.p,.int .u8 x.d]
structure Tp.Lw (w : World) (b : Nat) (c p d : Int) (w' : World) : Prop where
 low:Below w.heap.size w w'
 fc:Tp.F w'
 bx:Bx w' b [.int .i64 c,.int .i64 p,.int .u8 d]
theorem Tp.Lw.all{w w':World}{b:Nat}{c p d:Int}(h:Tp.Lw w b c p d w'):w'.cell? ⟨b,0,none⟩=some (.int .i64 c)/\w'.cell? ⟨b,1,none⟩=some (.int .i64 p)/\w'.cell? ⟨b,2,none⟩=some (.int .u8 d)/\Tp.Lw w b c p d w' :=
 ⟨h.bx.at 0 _ rfl,h.bx.at 1 _ rfl,h.bx.at 2 _ rfl,h⟩
theorem Tp.Lw.kept{w w' w1:World}{b:Nat}{c p d:Int}(h:Tp.Lw w b c p d w')(hb:Below w'.heap.size w' w1):Tp.Lw w b c p d w1:=⟨bn h.low hb,h.fc.kept hb,h.bx.kept hb⟩
theorem Tp.Lw.drew{w w':World}{b:Nat}{c p d:Int}(h:Tp.Lw w b c p d w'):Tp.Lw w b c p d w'.drew:=h.kept (J w').drew
theorem zpu{w w' w1:World}{b:Nat}{c p d:Int}(h:w'.cell? ⟨b,0,none⟩=some (.int .i64 c)/\w'.cell? ⟨b,1,none⟩=some (.int .i64 p)/\w'.cell? ⟨b,2,none⟩=some (.int .u8 d)/\Tp.Lw w b c p d w')(hb:Below w'.heap.size w' w1):w1.cell? ⟨b,0,none⟩=some (.int .i64 c)/\w1.cell? ⟨b,1,none⟩=some (.int .i64 p)/\w1.cell? ⟨b,2,none⟩=some (.int .u8 d)/\Tp.Lw w b c p d w1:=(h.2.2.2.kept hb).all
theorem vp(a b:List UInt8):mk a++mk b=mk (a++b):=by
 apply ka;rw[jD];simp[mk]
theorem zfZ(x:Tp.In)(m:x.ok)(w:World)(j:Tp.F w):Calls prog 83 #[.agg x.val] w λe w'=>e=.returned (.string (mk x.line))/\Below w.heap.size w w':=by
 obtain⟨c,p,d⟩:=x;obtain⟨c0,c1,p0,p1,k⟩:=m;simp only at c0 c1 p0 p1 k;have h1:=Lib.itoa_length_le c c0 c1;have h2:=Lib.itoa_length_le p p0 p1;have b:Hid (Tp.Lw w w.heap.size c p d (w.alloc (.cells #[.int .i64 c,.int .i64 p,.int .u8 d] 113))):=hid ⟨stA (J w) _,j.kept (stA (J w) _),Bx.new w [.int .i64 c,.int .i64 p,.int .u8 d] _ U⟩;show Calls prog 83 #[.agg #[.int .i64 c,.int .i64 p,.int .u8 d]] w λe w'=>e=.returned (.string (mk (Lib.itoa c++[32]++Lib.itoa p++[32]++Tp.btn d)))/\Below w.heap.size w w'
 have e1:(mk (Lib.itoa c))++(⟨#[32]⟩:ByteArray)=mk (Lib.itoa c++[32]):=vp _ [32];clear j;generalize n:Lib.itoa c=ai at *;generalize hB:Lib.itoa p=B at *;generalize l:Tp.btn d=ac at *;have h3:ac.length=8:=by rw[<- l];rfl
 have o:(mk ai).size=ai.length:=U;have q:(mk B).size=B.length:=U;have r:(mk ac).size=ac.length:=U;have s1:¬ 9223372036854775807<(mk ai).size+1:=by omega
 have s2:¬ 9223372036854775807<(mk ai).size+1+(mk B).size:=by omega
 have s3:¬ 9223372036854775807<(mk ai).size+1+(mk B).size+1:=by omega
 have s4:¬ 9223372036854775807<(mk ai).size+1+(mk B).size+1+(mk ac).size:=by omega
 clear o q r h1 h2 h3 e1;go_enter func83,ntmps83;go_wp2;go_region_held3 (λw'=>w'.cell? ⟨w.heap.size,0,none⟩=some (.int .i64 c)/\w'.cell? ⟨w.heap.size,1,none⟩=some (.int .i64 p)/\w'.cell? ⟨w.heap.size,2,none⟩=some (.int .u8 d)/\Tp.Lw w w.heap.size c p d w')
  (first
    | with_reducible exact Tp.Lw.all b.out.drew
    | with_reducible exact zpu (by assumption) (by assumption)
    | (go_keep;done))
  (first
    | (go_at_call 104;have s:=a.out;clear s;refine(zfY p p0 p1 _ a.out.fc).mono ?_;rw[hB];rintro e w2 ⟨rfl,f⟩;have g:=hid (a.out.kept f))
    | (go_at_call 104;refine(zfY c c0 c1 _ b.out.drew.fc).mono ?_;rw[n];rintro e w1 ⟨rfl,h⟩;have a:=hid (b.out.drew.kept h))
    | (go_at_call 173;refine(zgs d k _).mono ?_;rw[l];rintro e t ⟨rfl,i⟩))
 go_wp2;go_ret;refine⟨?_,(g.out.kept i).low⟩;rw[show (⟨#[32]⟩:ByteArray)=mk [32] from U,vp,vp,vp,vp];simp
def Tp.InAt(B:Nat)(w:World)(v:Value)(l:List Tp.In):Prop :=
 (l=[] /\ ∃ a c,v=.slice a 0 c) \/ ∃ g o b,v=.slice (some ⟨g,o,none⟩) l.length b/\l.length<=b/\g<B/\g<w.heap.size /\
  ∀ j x,l[j]?=some x->w.cell? ⟨g,o+3*j,none⟩=some (.int .i64 x.c)/\w.cell? ⟨g,o+3*j+1,none⟩=some (.int .i64 x.p)/\w.cell? ⟨g,o+3*j+2,none⟩=some (.int .u8 x.d)
theorem Tp.InAt.kept{B:Nat}{w w1:World}{v:Value}{l:List Tp.In}(h:Tp.InAt B w v l)(hb:Below B w w1):Tp.InAt B w1 v l:=by
 rcases h with h|⟨g,o,a,h1,h2,h3,h4,b⟩
 ·exact Or.inl h
 ·refine Or.inr ⟨g,o,a,h1,h2,h3,ap h4 hb.size,λj x c=>?_⟩
  obtain⟨e1,e2,e3⟩:=b j x c;exact⟨(am (w:=w) (hb.block g h3)).trans e1,(am (w:=w) (hb.block g h3)).trans e2,(am (w:=w) (hb.block g h3)).trans e3⟩
theorem Tp.InAt.len{B:Nat}{w:World}{v:Value}{l:List Tp.In}(h:Tp.InAt B w v l):∃ a c,v=.slice a l.length c:=by
 rcases h with⟨rfl,a,c,rfl⟩|⟨g,o,b,h1,_⟩
 ·exact⟨a,c,U⟩
 ·exact⟨_,_,h1⟩
theorem Tp.InAt.at'{B:Nat}{w:World}{v:Value}{l:List Tp.In}(h:Tp.InAt B w v l){j:Nat}{x:Tp.In}(a:l[j]?=some x):∃ g o k,v=.slice (some ⟨g,o,none⟩) l.length k/\g<w.heap.size/\w.cell? ⟨g,o+j*3,none⟩=some (.int .i64 x.c)/\w.cell? ⟨g,o+j*3+1,none⟩=some (.int .i64 x.p)/\w.cell? ⟨g,o+j*3+2,none⟩=some (.int .u8 x.d):=by
 rcases h with⟨rfl,_⟩|⟨g,o,k,h1,h2,h3,h4,b⟩
 ·simp at a
 ·obtain⟨e1,e2,e3⟩:=b j x a
  rw[eu 3 j] at e1 e2 e3;exact⟨g,o,k,h1,h4,e1,e2,e3⟩
def Tp.chkL:List Tp.In->Int->Int
 | [],_=>0
 | x::l,a=>if x.c<a \/ 400000<x.c then 3 else if x.p=0 \/ x.p=1 then Tp.chkL l x.c else 5
def Tp.chkIn(l:List Tp.In)(a:Int):Int:=if 40<l.length then 2 else Tp.chkL l a
theorem Tp.chk3{x:Tp.In}{l:List Tp.In}{a:Int}(h:x.c<a \/ 400000<x.c):Tp.chkL (x::l) a=3:=Q h
theorem Tp.chk0{x:Tp.In}{l:List Tp.In}{a:Int}(h:¬ (x.c<a \/ 400000<x.c))(hp:x.p=0 \/ x.p=1):Tp.chkL (x::l) a=Tp.chkL l x.c:=(G h).trans (Q hp)
theorem Tp.chk5{x:Tp.In}{l:List Tp.In}{a:Int}(h:¬ (x.c<a \/ 400000<x.c))(hp:¬ (x.p=0 \/ x.p=1)):Tp.chkL (x::l) a=5:=(G h).trans (G hp)
theorem Tp.checkInputs(l:List Tp.In)(v:Value)(B:Nat)(a:Int)(w:World)(h:Tp.InAt B w v l)(hB:B<=w.heap.size):Calls prog 57 #[v,.int .i64 a] w λe w'=>e=.returned (.int .i64 (Tp.chkIn l a))/\Below w.heap.size w w':=by
 obtain⟨a1,k1,e1⟩:=h.len;subst e1;by_cases I:40<l.length
 ·have y:(40:Int)<l.length:=by omega
  have r:Tp.chkIn l a=2:=Q I;rw[r];clear h r;go_enter func57,ntmps57;go_wp2;go_ret;exact⟨U,J w⟩
 ·have y:¬ (40:Int)<l.length:=by omega
  have r:Tp.chkIn l a=Tp.chkL l a:=G I;rw[r];have H:=hid h;clear h r;go_enter func57,ntmps57;go_wp2;go_loopw [14,5] (λi P wr=>∃(j:Nat) (f:Int),j<=l.length/\i=.int .i64 j/\P=.int .i64 f/\Tp.chkL (l.drop j) f=Tp.chkL l a/\Below w.heap.size w wr) (λi _ _=>l.length-(intOf i).toNat)
  case atStart=>exact⟨0,a,aU _,U,U,U,J w⟩
  case round =>
   obtain⟨j,f,hj,rfl,rfl,z,hb⟩:=hrel;have m:=hid z;have n:=hid hb;by_cases b:j<l.length
   ·obtain⟨x,u⟩:∃ x,l[j]?=some x:=⟨_,au b⟩
    have L:l.drop j=x::l.drop (j+1):=by
     rw[cf b];congr 1;rw[au b] at u;exact aH u
    have M:=(H.out.kept (hb.mono hB))
    obtain⟨g,o,k,R,gz,x0,x1,x2⟩:=M.at' u;cases R;have T:(j:Int)<l.length:=by omega
    have V:(0:Int)<=j:=by omega
    have s:=hid L;clear z hb L u M;by_cases q1:x.c<f
    ·go_wp2
     go_ret;exact⟨by rw[<- m.out,s.out,Tp.chk3 (Or.inl q1)];rfl,stA n.out _⟩
    ·have W:f<=x.c:=by omega
     by_cases N:400000<x.c
     ·go_wp2
      go_ret;exact⟨by rw[<- m.out,s.out,Tp.chk3 (Or.inr N)];rfl,stA n.out _⟩
     ·have X:x.c<=400000:=by omega
      have E:Hid (¬ (x.c<f \/ 400000<x.c)):=λe=>e.elim (λe=>by omega) (λe=>by omega)
      clear q1 N;by_cases d:x.p=0
      ·have t:=hid d
       rw[d] at x1;clear d;go_wp2;exact⟨⟨j+1,x.c,by omega,by simp,U,by rw[<- m.out,s.out,Tp.chk0 E.out (Or.inl t.out)],stA n.out _⟩,by simp[intOf];omega⟩
      ·by_cases q:x.p=1
       ·have t:=hid q
        rw[q] at x1;clear d q;go_wp2;exact⟨⟨j+1,x.c,by omega,by simp,U,by rw[<- m.out,s.out,Tp.chk0 E.out (Or.inr t.out)],stA n.out _⟩,by simp[intOf];omega⟩
       ·have t:Hid (¬ (x.p=0 \/ x.p=1)):=λe=>e.elim d q
        have Y:(x.p != 0)=true:=by simpa using d
        have Z:(x.p != 1)=true:=by simpa using q
        clear d q;go_wp2;all_goals first
         | (exfalso;simp_all;done)
         | (go_ret;exact⟨by rw[<- m.out,s.out,Tp.chk5 E.out t.out];rfl,stA n.out _⟩)
   ·have F:j=l.length:=by omega
    subst F;have hnl:¬ (l.length:Int)<l.length:=by omega
    clear z hb;go_wp2;go_ret;refine⟨?_,n.out⟩;have:=m.out;rw[di] at this;rw[<- this];rfl
theorem zgt{W:World}(h:W.ShapedOpen prog):∃ m,W.cell? ⟨0,0,none⟩=some (.int .i64 m) :=
 cell_of_shapedOpen_int (t:=3) (zero:=#[.int .i64 0]) h (by decide +kernel) (by kernel_rfl) U (by kernel_rfl) (by kernel_rfl) underlying3
theorem zc0{H:Type}{enc:TypeId × Value->H}{a:Assume}{C:Checked}{os:Os}{f:FuncId}{k:Func}{s:ChangeSpec}{g:List PathCond}{b fresh d l:Bool}{X:World->Array Value->Prop}
 (N:∀(w w':World) (args:Array Value),w.heap=w'.heap->X w args->X w' args)
 (q:ownKnob C.prog.godebug=none) (m:os.Started) (o:C.prog.inits.idxOf? f=none) (B:C.prog.funcs[f]?=some k)
 (n:∃(w:World) (tape:Tape) (i:Input),w.os=os/\(w.forCall tape i).Shaped C.prog/\i.vars=[]/\Input.okWide C.prog (w.forCall tape i) .any w.heap.size f i /\
   ((s.pre enc C.prog k g b (w.forCall tape i).memory i.args/\X (w.forCall tape i).memory i.args)/\sizedMet enc C.prog k (OpenSpec.ofChange s) b (w.forCall tape i).memory i.args)/\a.holds C.prog (lone (Frame.enter C.prog f i.args .normal) [] (w.forCall tape i)))
 (h:∀(W:World) (base:Nat) (args:Array Value) (r u:List (DataW H)) (c:List MemPlace),
   (∀(j:Nat) t v,k.params[j]?=some t->args[j]?=some v->Value.okWide C.prog W .any base t v) ->
   DataW.Whole enc C.prog k.params.toList s.vars b W args.toList r u c ->
   g.all (PathCond.test C.prog ⟨k.params.toList,r,s.plain.varTypes C.prog,u⟩)=true ->
   (DataW.weightsEach C.prog (k.params.toList++s.plain.varTypes C.prog) (r++u)).all (· <= reachBytes)=true->X W args->W.ShapedOpen C.prog ->
   a.holds C.prog (lone (Frame.enter C.prog f args .normal) [] W) ->
   Calls C.prog f args W λe L=>∃ v,e=.returned v/\s.post enc C.prog k b fresh d l W args v L) :
 ReturnsInHanded a C os f .any (λw args=>(s.pre enc C.prog k g b w args/\X w args)/\sizedMet enc C.prog k (OpenSpec.ofChange s) b w args) (s.post enc C.prog k b fresh d l):=by
 refine iY q m o n ?_;intro w tape i _ E _ F x p;obtain⟨_,_,_,I,y,_,_,_,_,z⟩:=F;obtain rfl:I=k:=aH (y.symm.trans B);obtain⟨⟨⟨r,u,c,M,hc⟩,P⟩,R⟩:=x;refine(h (w.forCall tape i) w.heap.size i.args r u c z (j5 (w':=w.forCall tape i) (by rfl) M) hc (R.weights M) (N _ _ _ (by rfl) P) E p).mono λe L ⟨v,T,hp⟩=>?_
 subst T;exact jB hp
theorem zgu{W:World}{l:List (String × DataW Unit)}(h:laidMet prog l W)(b:("internal/strconv.uint64pow10",Rows.laid_internal_strconv_uint64pow10)∈l):Lib.TabIs prog W "internal/strconv.uint64pow10" .u64 Lib.pow10Tab:=by
 obtain⟨g,t,cs,fuel,p,c,d,e,a⟩:=Lib.laidMet.reads h b;have e2:(Tryz.prog.globals[6]?).map (·.type)=some 397:=by kernel_rfl
 obtain rfl:=aH (znR.symm.trans c);obtain rfl:=aH (e2.symm.trans d);have e3:(Rows.laid_internal_strconv_uint64pow10:DataW Unit)=Lib.tabData .u64 Lib.pow10Tab:=by kernel_rfl
 rw[e3] at a;unfold Lib.TabIs;rw[e,<- Lib.cells_of_tab underlying397 underlying350 (by kernel_rfl) (by kernel_rfl) a]
theorem zen{P:Program}{W:World}{l:List (String × DataW Unit)}{n nm:String}{d:DataW Unit}{g:Nat}{f:TypeId}{ms:Array (String × TypeId)}(h:laidMet P l W)(j:(n,.iface nm d)∈l)
 (i:P.globalNamed n=some g) (k:(P.globals[g]?).map (·.type)=some f) (hi:P.underlying f=some (.interface ms)) :
 ∃ a,W.cell? ⟨g,0,none⟩=some a/\(a=.nilIface \/ ∃ m o,a=.iface m o):=by
 obtain⟨g0,t,cs,fuel,p,b,c,q,r⟩:=Lib.laidMet.reads h j;obtain rfl:=aH (i.symm.trans b);obtain rfl:=aH (k.symm.trans c);obtain⟨l0⟩:=cs;obtain⟨f1,u,v,e,_⟩:=iface_of_trod hi r;refine⟨.iface u v,?_,Or.inr ⟨u,v,U⟩⟩;have s:=gW i q 0;rw[s];simp only at e;subst e;rfl
theorem zux:Tryz.prog.globalNamed "strconv.ErrSyntax" = some 4:=by kernel_rfl
theorem zuy:Tryz.prog.globalNamed "strconv.ErrRange" = some 5:=by kernel_rfl
theorem zwS{W:World}{l:List (String × DataW Unit)}(h:laidMet prog l W)(a:W.ShapedOpen prog)(b:("internal/strconv.uint64pow10",Rows.laid_internal_strconv_uint64pow10)∈l)(h1:("strconv.ErrSyntax",Rows.laid_strconv_ErrSyntax)∈l)(h2:("strconv.ErrRange",Rows.laid_strconv_ErrRange)∈l):Tp.F W :=
 ⟨zgu h b,zgt a,zen h h1 zux (by kernel_rfl) underlying175,zen h h2 zuy (by kernel_rfl) underlying175⟩
def Tp.bren:Go.Shelf.Ren:=⟨fun|166=>82|167=>84|240=>172|276=>232|169=>85|n=>n,fun|0=>0|3=>3|4=>4|5=>5|9=>9|20=>20|37=>26|70=>171|72=>173|75=>175|164=>300|80=>180|127=>256|n=>n,fun|n=>n⟩
theorem Tp.lays166:Go.Proofs.Lays.n166 prog Tp.bren:={
 mixed:=by kernel_rfl
 f166:=Tryz.func82.trans (congrArg some (by kernel_rfl))
 f240:=Tryz.func172.trans (congrArg some (by kernel_rfl))
 f276:=Tryz.func232.trans (congrArg some (by kernel_rfl))
 t0:=underlying0
 a0:=isAgg0
 z0:=sizeOf0
 v0:=zeroValue0
 t3:=underlying3
 a3:=isAgg3
 z3:=sizeOf3
 v3:=zeroValue3
 t4:=underlying4
 a4:=isAgg4
 z4:=sizeOf4
 v4:=zeroValue4
 t9:=underlying9
 a9:=isAgg9
 z9:=sizeOf9
 v9:=zeroValue9
 t20:=underlying20
 a20:=isAgg20
 z20:=sizeOf20
 v20:=zeroValue20
 t37:=underlying26
 a37:=isAgg26
 z37:=sizeOf26
 v37:=zeroValue26
 t70:=underlying171
 a70:=isAgg171
 z70:=sizeOf171
 v70:=zeroValue171
 t72:=underlying173
 a72:=isAgg173
 z72:=sizeOf173
 v72:=zeroValue173
 t75:=underlying175
 a75:=isAgg175
 z75:=sizeOf175
 v75:=zeroValue175
 t164:=underlying300
 a164:=isAgg300
 z164:=sizeOf300
 v164:=zeroValue300 }
theorem Tp.lays167:Go.Proofs.Lays.n167 prog Tp.bren:={
 mixed:=by kernel_rfl
 f167:=Tryz.func84.trans (congrArg some (by kernel_rfl))
 f240:=Tryz.func172.trans (congrArg some (by kernel_rfl))
 f276:=Tryz.func232.trans (congrArg some (by kernel_rfl))
 t0:=underlying0
 a0:=isAgg0
 z0:=sizeOf0
 v0:=zeroValue0
 t4:=underlying4
 a4:=isAgg4
 z4:=sizeOf4
 v4:=zeroValue4
 t5:=underlying5
 a5:=isAgg5
 z5:=sizeOf5
 v5:=zeroValue5
 t9:=underlying9
 a9:=isAgg9
 z9:=sizeOf9
 v9:=zeroValue9
 t20:=underlying20
 a20:=isAgg20
 z20:=sizeOf20
 v20:=zeroValue20
 t37:=underlying26
 a37:=isAgg26
 z37:=sizeOf26
 v37:=zeroValue26
 t70:=underlying171
 a70:=isAgg171
 z70:=sizeOf171
 v70:=zeroValue171
 t72:=underlying173
 a72:=isAgg173
 z72:=sizeOf173
 v72:=zeroValue173
 t75:=underlying175
 a75:=isAgg175
 z75:=sizeOf175
 v75:=zeroValue175
 t164:=underlying300
 a164:=isAgg300
 z164:=sizeOf300
 v164:=zeroValue300 }
theorem Tp.lays169:Go.Proofs.Lays.n169 prog Tp.bren:={
 mixed:=by kernel_rfl
 f169:=Tryz.func85.trans (congrArg some (by kernel_rfl))
 t0:=underlying0
 a0:=isAgg0
 z0:=sizeOf0
 v0:=zeroValue0
 t3:=underlying3
 a3:=isAgg3
 z3:=sizeOf3
 v3:=zeroValue3
 t9:=underlying9
 a9:=isAgg9
 z9:=sizeOf9
 v9:=zeroValue9
 t37:=underlying26
 a37:=isAgg26
 z37:=sizeOf26
 v37:=zeroValue26
 t70:=underlying171
 a70:=isAgg171
 z70:=sizeOf171
 v70:=zeroValue171
 t72:=underlying173
 a72:=isAgg173
 z72:=sizeOf173
 v72:=zeroValue173
 t127:=underlying256
 a127:=isAgg256
 z127:=sizeOf256
 v127:=zeroValue256 }
theorem Tp.bextra:Builder.Extra prog Tp.bren:={
 sizeBuilder:=by kernel_rfl
 liesBuilder:=by kernel_rfl
 t5:=underlying5
 a5:=isAgg5
 z5:=sizeOf5
 v5:=zeroValue5
 infoByte:=by kernel_rfl
 cellsByte:=by kernel_rfl
 sizeByte:=by kernel_rfl
 neB5:=by decide }
theorem zf1(v:Value):v.ownBlock=none \/ v.ownBlock≠none:=by cases v.ownBlock with
 | none=>exact Or.inl U
 | some g=>exact Or.inr (by simp)
theorem zcp{w w':World}(h:Below w.heap.size w w'):w.grownBy w' none:=⟨h.os,h.tape,h.output,h.size,λk a _=>h.block k a⟩
theorem zf2{T e:TypeId}{B b:Nat}{bs:List Value}{w w':World}(h:Lib.IsBuilder T e B b bs w)(hb:Below w.heap.size w w'):Lib.IsBuilder T e B b bs w':=by
 have key:∀ p,Lib.BuilderAt T e B b p bs w->Lib.BuilderAt T e B b p bs w':=λp hp=>by
  have c:=hp.lt;obtain⟨hB,v,f,a,d⟩:=hp;exact⟨hB,v,(hb.block b c).trans f,a.kept (zcp hb) (zf1 v),d⟩
 rcases h with h|h
 ·exact Or.inl (key _ h)
 ·exact Or.inr (key _ h)
theorem zgw(l:List UInt8):Lib.strCells (mk l)=Lib.byteCells l:=by
 first|rfl|simp[Lib.strCells,Lib.byteCells,mk]
theorem Tp.byteCells_append(a b:List UInt8):Lib.byteCells a++Lib.byteCells b=Lib.byteCells (a++b):=by
 first|rfl|simp[Lib.byteCells]
theorem zcH(a:List UInt8):(Lib.byteCells a).length=a.length:=by
 first|rfl|simp[Lib.byteCells]
theorem zkB(B b:Nat)(acc:List UInt8)(s:List UInt8)(w:World)(h:Lib.IsBuilder 173 5 B b (Lib.byteCells acc) w)(c:acc.length+s.length<=1000000)(hB:B<=w.heap.size):Calls prog 82 #[.pointer (some ⟨b,0,none⟩),.string (mk s)] w λe w'=>e=.returned (.tuple #[.int .i64 (mk s).size,.nilIface])/\Lib.IsBuilder 173 5 B b (Lib.byteCells (acc++s)) w'/\Below B w w':=by
 refine(Any.Builder_WriteString Tp.lays166 Tp.bextra B b (Lib.byteCells acc) (mk s) w h ?_ hB).mono λe w' ⟨a,h1,h2⟩=>⟨a,Or.inr ?_,h2⟩
 ·rw[zcH,show (mk s).size=s.length from U];omega
 ·rw[zgw,Tp.byteCells_append] at h1
  exact h1
theorem ze3(B b:Nat)(acc:List UInt8)(w:World)(h:Lib.IsBuilder 173 5 B b (Lib.byteCells acc) w)(c:acc.length<=1000000)(hB:B<=w.heap.size):Calls prog 84 #[.pointer (some ⟨b,0,none⟩),.int .u8 10] w λe w'=>e=.returned .nilIface/\Lib.IsBuilder 173 5 B b (Lib.byteCells (acc++[10])) w'/\Below B w w':=by
 refine(Any.Builder_WriteByte Tp.lays167 Tp.bextra B b (Lib.byteCells acc) 10 w h ?_ hB).mono λe w' ⟨a,h1,h2⟩=>⟨a,Or.inr ?_,h2⟩
 ·rw[zcH];omega
 ·have e1:Lib.byteCells acc++[.int .u8 10]=Lib.byteCells (acc++[10]):=Tp.byteCells_append acc [10]
  rw[e1] at h1;exact h1
def Tp.text(l:List Tp.In):List UInt8:=(l.map (λx=>x.line++[10])).flatten
theorem zkC{l:List Tp.In}{j:Nat}{x:Tp.In}(h:l[j]?=some x):Tp.text (l.take (j+1))=Tp.text (l.take j)++x.line++[10]:=by
 unfold Tp.text;rw[dw,h];simp
theorem zf3:∀ l:List Tp.In,(∀ x∈l,x.ok)->(Tp.text l).length<=64*l.length
 | [],_=>ak _
 | x::l,h=>by
  have h1:=Tp.In.line_len (h x (bl ..));have h2:=zf3 l (λy a=>h y (bq _ a));unfold Tp.text at *;rw[bP,gt,aC,aC,bR];simp only[bR,eO];omega
def Tp.printS(l:List Tp.In):List UInt8:=if Tp.chkIn l 0=0 then Tp.text l else []
theorem zkD(l:List Tp.In)(v:Value)(B:Nat)(w:World)(h:Tp.InAt B w v l)(hB:B<=w.heap.size)(f:∀ x∈l,x.ok)(I:Tp.F w):Calls prog 46 #[v] w λe w'=>e=.returned (.tuple #[.string (mk (Tp.printS l)),.int .i64 (Tp.chkIn l 0)])/\Below w.heap.size w w':=by
 have L:=hid (Tp.checkInputs l v B 0 w h hB);by_cases hc:Tp.chkIn l 0=0
 ·have Z:l.length<=40:=by
   rcases ey 40 l.length with h1|h1
   ·have:Tp.chkIn l 0=2:=Q h1
    rw[this] at hc;cases hc
   ·exact h1
  have hp:Tp.printS l=Tp.text l:=Q hc;rw[hp];rw[hc] at L ⊢;obtain⟨a1,k1,e1⟩:=h.len;subst e1;have H:=hid h;have HO:=hid f;have M:=hid I;clear h f I hp hc;go_enter func46,ntmps46;go_wp2_with (go_at_call 57;refine L.out.mono ?_;rintro e w1 ⟨rfl,c⟩)
  have m:=hid c;clear c;go_loopw [15] (λi wr=>∃ j:Nat,j<=l.length/\i=.int .i64 j/\Lib.IsBuilder 173 5 w1.heap.size w1.heap.size (Lib.byteCells (Tp.text (l.take j))) wr/\Below w1.heap.size w1 wr) (λi _=>l.length-(intOf i).toNat)
  case atStart=>exact⟨0,aU _,U,Lib.fresh_isBuilder _ _ w1,stA (J _) _⟩
  case round =>
   obtain⟨j,hj,rfl,b,hb⟩:=hrel;have HB:=hid hb;have HU:=hid b;have d:=bn m.out hb;by_cases N:j<l.length
   ·obtain⟨x,E⟩:∃ x,l[j]?=some x:=⟨_,au N⟩
    have r:=HO.out x (bh E);have HN:=hid (zkC E);have s:=zf3 (l.take j) (λy hy=>HO.out y (dU hy));rw[bu,gY hj] at s;have hll:=Tp.In.line_len r;have HH:=(H.out.kept (d.mono hB))
    obtain⟨g,o,k,ev,gz,x0,x1,x2⟩:=HH.at' E;cases ev;have hjl:(j:Int)<l.length:=by omega
    have hj0:(0:Int)<=j:=by omega
    have n:=hb.size;have P:=hid (M.out.kept d);obtain⟨xc,xp,xd⟩:=x;simp only at x0 x1 x2;clear hb d b E HH;go_wp2_with (first
     | (go_at_call 83;refine(zfZ ⟨xc,xp,xd⟩ r _ (P.out.kept (stA (J _) _))).mono ?_;rintro e w2 ⟨rfl,a⟩;have R:=hid a;have p:=hid (zf2 (zf2 HU.out (stA (J _) _)) a);have hs2:=(bn (stA (J wr) _) a).size;clear a)
     | (go_at_call 82;refine(zkB _ _ _ _ _ p.out (by omega) (by omega)).mono ?_;rintro e w3 ⟨rfl,t,q⟩;have T:=hid q;have V:=hid t;have hs3:=q.size;clear q t)
     | (go_at_call 84;refine(ze3 _ _ _ _ V.out (by rw[aC];omega) (by omega)).mono ?_;rintro e w4 ⟨rfl,u,z⟩;have W:=hid z;have X:=hid u;clear z u))
    exact⟨⟨j+1,by omega,by simp,by rw[HN.out];exact X.out,(((HB.out.alloc n _).trans (R.out.mono (by simp;omega))).trans T.out).trans W.out⟩,by simp[intOf];omega⟩
   ·have Y:j=l.length:=by omega
    subst Y;have hnl:¬ (l.length:Int)<l.length:=by omega
    have n:=hb.size;have p:Hid (Lib.IsBuilder 173 5 w1.heap.size w1.heap.size (Lib.byteCells (Tp.text l)) wr):=by rw[gH] at b;exact hid b
    clear hb b d;go_wp2_with (go_at_call 85;refine(Any.Builder_String_any Tp.lays169 Tp.bextra _ _ _ _ p.out n).mono ?_;rintro e w2 ⟨rfl,a⟩)
    go_ret2
    exact⟨U,m.out.trans ((HB.out.trans a).mono m.out.size)⟩
 ·have hp:Tp.printS l=[]:=G hc
  rw[hp];have hne:(Tp.chkIn l 0 != 0)=true:=by simpa using hc
  generalize Tp.chkIn l 0=ce at *;clear h f I hp hc;go_enter func46,ntmps46;go_wp2_with (go_at_call 57;refine L.out.mono ?_;rintro e w1 ⟨rfl,c⟩)
  go_ret2
  exact⟨U,c⟩
theorem zdG(c:UInt8)(d r:List UInt8)(h:d.isPrefixOf r=true):∀ t:List UInt8,c ∉ t->Lib.index (t++c::r) (c::d)=t.length
 | [],_=>by simp[Lib.index,h]
 | b::t,a=>by
  have hb:¬ c=b:=by simp at a;exact a.1
  have f:=zdG c d r h t (by simp at a;exact a.2);have h1:((t.length:Int) == -1)=false:=by simp
  simp[Lib.index,f,h1];intro e;exact absurd e hb
theorem zdH(c:UInt8)(d:List UInt8):∀ t:List UInt8,c ∉ t->Lib.index t (c::d) = -1
 | [],_=>rfl
 | b::t,a=>by
  have hb:¬ c=b:=by simp at a;exact a.1
  have f:=zdH c d t (by simp at a;exact a.2);simp[Lib.index,f];intro e;exact absurd e hb
theorem zsm(c:UInt8)(t r:List UInt8)(h:c ∉ t):Lib.cut (t++c::r) [c]=(t,r,true):=by
 have e:=zdG c [] r (by simp) t h;unfold Lib.cut;rw[e,Q (by omega)];simp[kN]
theorem zsn(c:UInt8)(t:List UInt8)(h:c ∉ t):Lib.cut t [c]=(t,[],false):=by
 have e:=zdH c [] t h;unfold Lib.cut;rw[e,G (by omega)]
theorem zkE(u:Nat):Lib.decDigits u≠[]:=by
 rw[Lib.decDigits];split <;> simp
theorem zc1(u:Nat):∀ c∈Lib.decDigits u,48<=c.toNat/\c.toNat<=57:=by
 induction u using Nat.strongRecOn with
 | _ u a =>
  intro c hc;rw[Lib.decDigits] at hc;split at hc
  ·rw[ch] at hc;subst hc
   have e:(UInt8.ofNat (48+u)).toNat=(48+u)%256:=by simp
   rw[e];omega
  ·rcases bS.1 hc with h|h
   ·exact a (u/10) (by omega) c h
   ·rw[ch] at h;subst h
    have e:(UInt8.ofNat (48+u%10)).toNat=(48+u%10)%256:=by simp
    rw[e];omega
theorem zeo(c:UInt8)(hc:48<=c.toNat/\c.toNat<=57):∀(l:List UInt8) (acc v:Nat),Lib.parseUint10 acc l=.ok v->v<1844674407370955161->Lib.parseUint10 acc (l++[c])=.ok (v*10+(c.toNat-48))
 | [],acc,v,h,a=>by
  simp only[Lib.parseUint10,Lib.NumEnd.ok.injEq] at h;subst h;simp only[ll,Lib.parseUint10];rw[Q hc,G (by omega),G (by omega)]
 | d::l,acc,v,h,a=>by
  simp only[Lib.parseUint10] at h;simp only[cQ,Lib.parseUint10];split at h
  ·rename_i h1
   split at h
   ·cases h
   ·rename_i h2
    split at h
    ·cases h
    ·rename_i h3
     rw[Q h1,G h2,G h3];exact zeo c hc l _ v h a
  ·cases h
theorem ze0(u:Nat)(b:u<=9223372036854775808):Lib.parseUint10 0 (Lib.decDigits u)=.ok u:=by
 induction u using Nat.strongRecOn with
 | _ u a =>
  rw[Lib.decDigits];split
  ·rename_i h
   have e:(UInt8.ofNat (48+u)).toNat=48+u:=by simp;omega
   simp only[Lib.parseUint10,e];rw[Q (by omega),G (by omega),G (by omega)];congr 1;omega
  ·rename_i h
   have e:(UInt8.ofNat (48+u%10)).toNat=48+u%10:=by simp;omega
   have:=zeo (UInt8.ofNat (48+u%10)) (by rw[e];omega) _ 0 _ (a (u/10) (by omega) (by omega)) (by omega);rw[this,e];congr 1;omega
theorem zmE(u:Nat):∃ c r,Lib.decDigits u=c::r/\48<=c.toNat/\c.toNat<=57:=by
 cases h:Lib.decDigits u with
 | nil=>exact absurd h (zkE u)
 | cons c r=>exact⟨c,r,U,zc1 u c (by rw[h];simp)⟩
theorem zkF(n:Int)(g:-9223372036854775808<=n)(h1:n<=9223372036854775807):Lib.atoiAll (Lib.itoa n)=.ok n:=by
 unfold Lib.itoa;by_cases b:n<0
 ·rw[Q b]
  have hp:=ze0 n.natAbs (by omega);have a:Lib.parseMag (Lib.decDigits n.natAbs)=.ok n.natAbs:=by unfold Lib.parseMag;rw[G (zkE _),hp]
  have e:(45:UInt8).toNat=45:=U;simp only[Lib.atoiAll,e,or_true,dL,a];rw[G (by simp),G (by omega)];congr 1;omega
 ·rw[G b]
  have hp:=ze0 n.toNat (by omega);obtain⟨c,r,hc,c0,c1⟩:=zmE n.toNat;rw[hc] at hp ⊢;have a:Lib.parseMag (c::r)=.ok n.toNat:=by unfold Lib.parseMag;rw[G (by simp),hp]
  have d:¬ c.toNat=43:=by omega
  have f:¬ c.toNat=45:=by omega
  simp only[Lib.atoiAll,d,f,or_self,dt,a,false_and,not_false_eq_true,true_and];rw[G (by omega)];congr 1;omega
theorem zmF(n:Int):∀ c∈Lib.itoa n,c=45 \/ (48<=c.toNat/\c.toNat<=57):=by
 intro c hc;unfold Lib.itoa at hc;split at hc
 ·rcases aV.1 hc with h|h
  ·exact Or.inl h
  ·exact Or.inr (zc1 _ c h)
 ·exact Or.inr (zc1 _ c hc)
theorem zf4(n:Int)(x:UInt8)(b:x≠45)(a:¬ (48<=x.toNat/\x.toNat<=57)):x ∉ Lib.itoa n:=λh=>by
 rcases zmF n x h with h|h
 ·exact b h
 ·exact a h
/-! ### parts between signs -/
def Tp.sp(c:UInt8):List UInt8->List (List UInt8)
 | []=>[[]]
 | x::l=>if x=c then []::Tp.sp c l else match Tp.sp c l with
  | []=>[[x]]
  | p::ps=>(x::p)::ps
theorem rC(c:UInt8):∀ u:List UInt8,c ∉ u->Tp.sp c u=[u]
 | [],_=>rfl
 | x::u,h=>by
  have h1:¬ x=c:=λe=>h (by simp[e])
  rw[Tp.sp,G h1,rC c u (λe=>h (bq _ e))]
theorem pH(c:UInt8)(r:List UInt8):∀ u:List UInt8,c ∉ u->Tp.sp c (u++c::r)=u::Tp.sp c r
 | [],_=>by simp[Tp.sp]
 | x::u,h=>by
  have h1:¬ x=c:=λe=>h (by simp[e])
  rw[cQ,Tp.sp,G h1,pH c r u (λe=>h (bq _ e))]
theorem sX(c:UInt8):∀ s:List UInt8,c∈s->∃ u r,s=u++c::r/\c ∉ u
 | x::s,h=>by
  by_cases e:x=c
  ·exact⟨[],s,by rw[e];rfl,by simp⟩
  ·obtain⟨u,r,h1,h2⟩:=sX c s (by rcases aV.1 h with h|h;exact absurd h.symm e;exact h)
   exact⟨x::u,r,by rw[h1];rfl,by simp[h2,br e]⟩
theorem vq(c:UInt8):∀ s:List UInt8,Tp.sp c s≠[]
 | []=>by simp[Tp.sp]
 | x::s=>by
  rw[Tp.sp];split
  ·simp
  ·split <;> simp
theorem zeq(c:UInt8):∀(fuel:Nat) (s:List UInt8),s.length<=fuel->Lib.splitK [c] 0 (Lib.countFrom [c] fuel s) s=Tp.sp c s
 | 0,s,h=>by
  have:s=[]:=bv.1 (by omega);subst this;rfl
 | fuel+1,s,h=>by
  by_cases hc:c∈s
  ·obtain⟨u,r,rfl,a⟩:=sX c s hc
   have hi:=zdG c [] r (by simp) u a;have e1:((u.length:Int) == -1)=false:=by simp
   rw[pH c r u a];unfold Lib.countFrom;rw[hi,e1];simp only[bK,dt,bH,bR,eO,aN];have e2:(u++c::r).drop (u.length+1)=r:=by simp[kN]
   rw[e2,kF 1];unfold Lib.splitK;rw[hi,e1];simp only[bK,dt,bH,bR,eO,aN,Nat.add_zero];rw[e2,zeq c fuel r (by rw[aC,bR] at h;omega)];simp
  ·rw[rC c s hc]
   unfold Lib.countFrom;rw[zdH c [] s hc];rfl
theorem zmG(c:UInt8)(s:List UInt8):Lib.split s [c]=Tp.sp c s:=by
 unfold Lib.split Lib.count;exact zeq c _ s (by omega)
theorem zkG(c:UInt8)(s:List UInt8):∀ p∈Tp.sp c s,c ∉ p/\p.length<=s.length:=by
 induction s with
 | nil=>intro p hp;simp[Tp.sp] at hp;subst hp;simp
 | cons x s a =>
  intro p hp;rw[Tp.sp] at hp;split at hp
  ·rcases aV.1 hp with h|h
   ·subst h;simp
   ·obtain⟨h1,h2⟩:=a p h;exact⟨h1,by simp;omega⟩
  ·rename_i d
   cases b:Tp.sp c s with
   | nil=>exact absurd b (vq c s)
   | cons q qs =>
    rw[b] at hp a;rcases aV.1 hp with h|h
    ·subst h
     obtain⟨h1,h2⟩:=a q (by simp);exact⟨by simp[h1,br d],by simp;exact h2⟩
    ·obtain⟨h1,h2⟩:=a p (by simp[h]);exact⟨h1,by simp;omega⟩
theorem zmH{c:UInt8}{s a b d:List UInt8}(h:Tp.sp c s=[a,b,d]):s=a++c::(b++c::d)/\c ∉ a/\c ∉ b/\c ∉ d:=by
 have g:=zkG c s;rw[h] at g;have h1:=(g a (by simp)).1;have h2:=(g b (by simp)).1;have h3:=(g d (by simp)).1;refine⟨?_,h1,h2,h3⟩;by_cases hc:c∈s
 ·obtain⟨u,r,rfl,k⟩:=sX c s hc
  rw[pH c r u k] at h
  injection h with e1 e2
  subst e1;by_cases e:c∈r
  ·obtain⟨u2,r2,rfl,i⟩:=sX c r e
   rw[pH c r2 u2 i] at e2
   injection e2 with e3 e4
   subst e3;by_cases f:c∈r2
   ·obtain⟨u3,r3,rfl,j⟩:=sX c r2 f
    rw[pH c r3 u3 j] at e4
    injection e4 with e5 e6
    exact absurd e6 (vq c r3)
   ·rw[rC c r2 f] at e4
    injection e4 with e5 e6
    rw[e5]
  ·rw[rC c r e] at e2
   injection e2 with e3 e4
   cases e4
 ·rw[rC c s hc] at h
  injection h with e1 e2
  cases e2
/-! ### a line, back -/
def Tp.atv(a:List UInt8):Int:=match Lib.atoiAll a with
 | .ok v=>v
 | .syntax=>0
 | .range=>Lib.atoiSat a
def Tp.wh(a:List UInt8):Option Int:=match Lib.atoiAll a with
 | .ok v=>if Lib.itoa v=a then some v else none
 | .syntax=>none
 | .range=>none
def Tp.rd(t:List UInt8):Option Tp.In:=match Tp.sp 32 t with
 | [a,b,d]=>match Tp.wh a,Tp.wh b,Tp.ofb d with
  | some x,some y,some z=>some ⟨x,y,z⟩
  | _,_,_=>none
 | _=>none
theorem zhs:∀ d:Fin 256,(32:UInt8) ∉ Tp.btn d.1/\(10:UInt8) ∉ Tp.btn d.1:=by decide +kernel
theorem zht(n:Int):(32:UInt8) ∉ Lib.itoa n:=zf4 n 32 (by decide) (by decide)
theorem zhu(n:Int):(10:UInt8) ∉ Lib.itoa n:=zf4 n 10 (by decide) (by decide)
theorem vt(a:List UInt8):-9223372036854775808<=Tp.atv a/\Tp.atv a<=9223372036854775807:=by
 unfold Tp.atv;split
 ·rename_i v h;exact Lib.atoiAll_bounds h
 ·decide
 ·unfold Lib.atoiSat;split <;> decide
theorem zhv(n:Int)(a:-9223372036854775808<=n)(h1:n<=9223372036854775807):Tp.wh (Lib.itoa n)=some n:=by
 unfold Tp.wh;rw[zkF n a h1];simp
theorem zdl{a:List UInt8}{n:Int}(h:Tp.wh a=some n):Lib.itoa n=a/\Tp.atv a=n /\ -9223372036854775808<=n/\n<=9223372036854775807:=by
 have hb:=vt a;unfold Tp.wh at h;unfold Tp.atv at hb ⊢;split at h
 ·rename_i v b
  try simp only[b] at hb
  split at h
  ·rename_i e
   cases h;exact⟨e,U,hb.1,hb.2⟩
  ·cases h
 ·cases h
 ·cases h
theorem Tp.In.line_form(x:Tp.In):x.line=Lib.itoa x.c++32::(Lib.itoa x.p++32::Tp.btn x.d):=by
 unfold Tp.In.line;simp
theorem zpv{x:Tp.In}(h:x.d<256):Tp.sp 32 x.line=[Lib.itoa x.c,Lib.itoa x.p,Tp.btn x.d]:=by
 rw[x.line_form,pH 32 _ _ (zht _),pH 32 _ _ (zht _),rC 32 _ (zhs ⟨x.d,h⟩).1]
theorem zhw{x:Tp.In}(h:x.ok):Tp.rd x.line=some x:=by
 unfold Tp.rd;rw[zpv h.d];simp only;rw[zhv x.c h.c0 h.c1,zhv x.p h.p0 h.p1,zhq h.d]
theorem Tp.rd_some{t:List UInt8}{x:Tp.In}(h:Tp.rd t=some x):x.line=t/\x.ok:=by
 unfold Tp.rd at h;split at h
 ·rename_i a b d c
  obtain⟨e,g,hb,i⟩:=zmH c;split at h
  ·rename_i n m z h1 h2 h3
   cases h;obtain⟨a1,a2,a3,a4⟩:=zdl h1;obtain⟨b1,b2,b3,f⟩:=zdl h2;obtain⟨c1,c2⟩:=zfW h3;exact⟨by rw[Tp.In.line_form];simp only;rw[a1,b1,c2,e],⟨a3,a4,b3,f,c1⟩⟩
  ·cases h
 ·cases h
def Tp.tri(a b d:List UInt8):Tp.In:=⟨Tp.atv a,Tp.atv b,(Tp.ofb d).getD 0⟩
theorem zso(d:List UInt8):(Tp.ofb d).getD 0<256:=by
 cases h:Tp.ofb d with
 | none=>decide
 | some z=>exact(zfW h).1
theorem zkH(a b d:List UInt8):(Tp.tri a b d).ok:=⟨(vt a).1,(vt a).2,(vt b).1,(vt b).2,zso d⟩
theorem zsp{t a b d:List UInt8}(e:Tp.sp 32 t=[a,b,d]):Tp.rd t=if (Tp.tri a b d).line=t then some (Tp.tri a b d) else none:=by
 by_cases h:(Tp.tri a b d).line=t
 ·rw[Q h]
  have:=zhw (zkH a b d);rw[h] at this;exact this
 ·rw[G h]
  cases c:Tp.rd t with
  | none=>rfl
  | some x =>
   exfalso;obtain⟨h1,h2⟩:=Tp.rd_some c;unfold Tp.rd at c;rw[e] at c;simp only at c;split at c
   ·rename_i n m z e1 e2 e3
    cases c;obtain⟨a1,a2,a3,a4⟩:=zdl e1;obtain⟨b1,b2,b3,f⟩:=zdl e2;refine h ?_;unfold Tp.tri;rw[a2,b2,e3];exact h1
   ·cases c
theorem zmI{t:List UInt8}(c:(Tp.sp 32 t).length≠3):Tp.rd t=none:=by
 unfold Tp.rd;split
 ·rename_i a b d e
  rw[e] at c;exact absurd U c
 ·rfl
/-! ### lines -/
def Tp.rdA:List (List UInt8)->Nat->Except Nat (List Tp.In)
 | [],_=>.ok []
 | [t],i=>if t=[] then .ok [] else .error i
 | t::u::a,i=>match Tp.rd t with
  | none=>.error i
  | some x=>match Tp.rdA (u::a) (i+1) with
   | .error k=>.error k
   | .ok l=>.ok (x::l)
def Tp.aft(acc:List Tp.In):Except Nat (List Tp.In)->Except Nat (List Tp.In)
 | .error k=>.error k
 | .ok l=>.ok (acc++l)
theorem zsq{t u:List UInt8}{a:List (List UInt8)}{i:Nat}(h:Tp.rd t=none):Tp.rdA (t::u::a) i=.error i:=by rw[Tp.rdA,h]
theorem zhx{t u:List UInt8}{a:List (List UInt8)}{i:Nat}{x:Tp.In}(h:Tp.rd t=some x):Tp.rdA (t::u::a) i=Tp.aft [x] (Tp.rdA (u::a) (i+1)):=by
 rw[Tp.rdA,h];cases Tp.rdA (u::a) (i+1) <;> rfl
theorem zpw(a b:List Tp.In)(e:Except Nat (List Tp.In)):Tp.aft a (Tp.aft b e)=Tp.aft (a++b) e:=by
 cases e <;> simp[Tp.aft]
theorem zpx{x:Tp.In}(h:x.d<256):(10:UInt8) ∉ x.line:=by
 rw[x.line_form];simp only[bS,aV,not_or];exact⟨zhu _,by decide,zhu _,by decide,(zhs ⟨x.d,h⟩).2⟩
theorem zf5:∀(l:List Tp.In) (i:Nat),(∀ x∈l,x.ok)->Tp.rdA (Tp.sp 10 (Tp.text l)) i=.ok l
 | [],i,_=>rfl
 | x::l,i,h=>by
  have a:=h x (bl ..);have b:=zf5 l (i+1) (λy f=>h y (bq _ f));have e:Tp.text (x::l)=x.line++10::Tp.text l:=by unfold Tp.text;simp
  rw[e,pH 10 _ _ (zpx a.d)];cases c:Tp.sp 10 (Tp.text l) with
  | nil=>exact absurd c (vq _ _)
  | cons u g =>
   rw[c] at b;rw[zhx (zhw a),b];rfl
def Tp.prsL(s:List UInt8):List Tp.In:=if 4000<s.length then [] else match Tp.rdA (Tp.sp 10 s) 0 with
 | .error _=>[]
 | .ok l=>if Tp.chkIn l 0=0 then l else []
def Tp.prsN(s:List UInt8):Nat:=if 4000<s.length then 0 else match Tp.rdA (Tp.sp 10 s) 0 with
 | .error k=>k
 | .ok l=>0
def Tp.prsE(s:List UInt8):Int:=if 4000<s.length then 2 else match Tp.rdA (Tp.sp 10 s) 0 with
 | .error k=>1
 | .ok l=>Tp.chkIn l 0
theorem zmJ{l:List Tp.In}(h:∀ x∈l,x.ok)(b:(Tp.text l).length<=4000)(hc:Tp.chkIn l 0=0):Tp.prsL (Tp.text l)=l/\Tp.prsN (Tp.text l)=0/\Tp.prsE (Tp.text l)=0:=by
 have a:¬ 4000<(Tp.text l).length:=by omega
 unfold Tp.prsL Tp.prsN Tp.prsE;rw[G a,G a,G a,zf5 l 0 h];simp only[hc,dL,and_self]
theorem zmK{w a:World}(h:Below w.heap.size w a)(k:Nat):Below w.heap.size w (a.drewN k):=by
 induction k with
 | zero=>exact h
 | succ k b=>exact b.drew
theorem zpy(l a:List UInt8)(g:l.length<=10000)(w:World)(b:Tp.F w):Calls prog 53 #[.string (mk l),.string (mk a)] w λe w'=>e=.returned (.tuple #[.string (mk (Lib.cut l a).1),.string (mk (Lib.cut l a).2.1),.bool (Lib.cut l a).2.2])/\Below w.heap.size w w':=by
 obtain⟨m,c⟩:=b.len;refine(Tryz.strings_Cut (mk l) (mk a) m w (by show l.length<4294967281;omega) c).mono λe w' ⟨d,n,f⟩=>⟨d,?_⟩
 subst f;exact zmK (J w) n
def Tp.strsAt(w:World)(g:Nat)(ps:List (List UInt8)):Prop:=∀(j:Nat) (s:List UInt8),ps[j]?=some s->w.cell? ⟨g,j,none⟩=some (.string (mk s))
theorem Tp.strsAt.kept{w w':World}{g:Nat}{ps:List (List UInt8)}(h:Tp.strsAt w g ps)(a:g<w.heap.size)(hb:Below w.heap.size w w'):Tp.strsAt w' g ps:=λj s b=>(hb.cell (p:=⟨g,j,none⟩) a).trans (h j s b)
theorem zuz(s:ByteArray):mk s.data.toList=s:=by obtain⟨⟨l⟩⟩:=s;rfl
theorem zkI(c:UInt8)(t:List UInt8)(o:t.length<=10000)(w:World)(h:Tp.F w):Calls prog 169 #[.string (mk t),.string (mk [c])] w λe w'=>e=.returned (.slice (some ⟨w.heap.size,0,none⟩) (Tp.sp c t).length (Tp.sp c t).length)/\Tp.strsAt w' w.heap.size (Tp.sp c t)/\w.heap.size<w'.heap.size/\Below w.heap.size w w':=by
 obtain⟨m,i⟩:=h.len;have k:=Lib.splitB_data (mk [c]) 0 (Lib.countB (mk t) (mk [c])) (mk t);have a:=Lib.splitB_all (mk [c]) (by show 1<=1;omega) 0 _ (mk t) U;have b:(Lib.splitB (mk [c]) 0 (Lib.countB (mk t) (mk [c])) (mk t)).map (·.data.toList)=Tp.sp c t:=k.trans (zmG c t);have f:(Tp.sp c t).length=Lib.countB (mk t) (mk [c])+1:=by rw[<- b,ba,a]
 refine(Tryz.strings_Split (mk t) (mk [c]) m w (by show t.length<4294967281;omega) i (by show 1<=1;omega)).mono λe w' ⟨l,n⟩=>?_
 subst n;refine⟨by rw[l,f],λj s d=>?_,by simp,stA (J _) _⟩;rw[Pl.new _ _ _ _ U,bw,aX];rw[<- b,aX] at d;cases g:(Lib.splitB (mk [c]) 0 (Lib.countB (mk t) (mk [c])) (mk t))[j]? with
 | none=>rw[g] at d;cases d
 | some x =>
  rw[g] at d;cases d;simp[zuz]
theorem zcE(a:List UInt8)(j:a.length<=10000)(w:World)(d:Tp.F w):Calls prog 170 #[.string (mk a)] w λe w'=>∃ f,e=.returned (.tuple #[.int .i64 (Tp.atv a),f])/\Below w.heap.size w w':=by
 obtain⟨e1,h1,g⟩:=d.syn;obtain⟨e2,h2,i⟩:=d.ran;have k:(mk a).size=a.length:=U;unfold Tp.atv;cases b:Lib.atoiAll a with
 | ok v =>
  refine(Tryz.strconv_Atoi_ok (mk a) (by omega) v b w).mono λe w' h=>⟨_,h.1,?_⟩
  rcases h.2 with rfl|⟨t,rfl⟩
  ·exact J _
  ·exact Joins.below_bytesWorld _ _ _ _ (ak _)
 | «syntax»=>exact(Any.strconv_Atoi_syntax Tryz.laysC172 (mk a) (by omega) b e1 w h1 g).mono λe w' ⟨N,c,_,_,hb⟩=>⟨_,c,hb⟩
 | range=>exact(Any.strconv_Atoi_range Tryz.laysC172 (mk a) (by omega) b e2 w h2 i).mono λe w' ⟨N,c,_,_,hb⟩=>⟨_,c,hb⟩
theorem zpz:(Tryz.prog.info? 113).map (·.size)=some 3:=by kernel_rfl
theorem zeI{W:World}{q:Nat}{x:Tp.In}(h:Bx W q x.val.toList):(loadVar 113 ⟨q,0,none⟩).run prog W=.ok (.agg x.val) W :=
 run_loadVar_mid W q 0 113 _ _ h.c underlying113 rfl zpz
def Tp.In.zero:Tp.In:=⟨0,0,0⟩
structure Tp.Ol (w : World) (g : Nat) (ps : List (List UInt8)) (Y : World) : Prop where
 low:Below w.heap.size w Y
 fc:Tp.F Y
 bx:Bx Y w.heap.size Tp.In.zero.val.toList
 gz:g<Y.heap.size
 st:Tp.strsAt Y g ps
theorem Tp.Ol.kept{w:World}{g:Nat}{ps:List (List UInt8)}{Y Y':World}(h:Tp.Ol w g ps Y)(hb:Below Y.heap.size Y Y'):Tp.Ol w g ps Y' :=
 ⟨bn h.low hb,h.fc.kept hb,h.bx.kept hb,ap h.gz hb.size,h.st.kept h.gz hb⟩
theorem zdI{w:World}{ps:List (List UInt8)}{Y:World}{o:Obj}{g:Nat}(b:g=(w.alloc o).heap.size)(c:o=.cells Tp.In.zero.val 113)(d:Tp.F w)(a:Tp.strsAt Y (w.alloc o).heap.size ps)(e:(w.alloc o).heap.size<Y.heap.size)(hb:Below (w.alloc o).heap.size (w.alloc o) Y):Tp.Ol w g ps Y:=by
 subst b;subst c;exact⟨bn (stA (J w) _) hb,(d.kept (stA (J w) _)).kept hb,(Bx.new w Tp.In.zero.val.toList _ U).kept hb,e,a⟩
theorem zf6{w:World}{Y:World}(a:Below w.heap.size w Y)(h:Bx Y w.heap.size Tp.In.zero.val.toList)(x:Tp.In):Below w.heap.size w (Y.setCells w.heap.size 0 x.val.toList)/\Bx (Y.setCells w.heap.size 0 x.val.toList) w.heap.size x.val.toList :=
 ⟨Pl.below (ak _) _ 0 Y a,h.puts 0 x.val.toList (by show 0+3<=3;omega)⟩
def Tp.tell(o:Option Tp.In):Value:=.tuple #[.agg (o.getD Tp.In.zero).val,.int .i64 (if o.isSome then 0 else 1)]
theorem zbN(t:List UInt8)(ht:t.length<=4000)(w:World)(W:Tp.F w):Calls prog 81 #[.string (mk t)] w λe w'=>e=.returned (Tp.tell (Tp.rd t))/\Below w.heap.size w w':=by
 have s:=hid W;have B:=hid (λ(w1:World) (h1:Tp.F w1)=>zkI 32 t (by omega) w1 h1);have r:=zkG 32 t;by_cases h3:(Tp.sp 32 t).length=3
 ·obtain⟨a,b,d,P⟩:∃ a b d,Tp.sp 32 t=[a,b,d]:=by
   match h:Tp.sp 32 t,h3 with
   | [a,b,d],_=>exact⟨a,b,d,U⟩
  have ha:a.length<=4000:=ax (r a (by rw[P];simp)).2 ht;have hb:b.length<=4000:=ax (r b (by rw[P];simp)).2 ht;have E:=zsp P;rw[P] at B;clear r h3 W;have L:Hid (∀ w1,Tp.F w1->Calls prog 83 #[.agg #[.int .i64 (Tp.atv a),.int .i64 (Tp.atv b),.int .u8 (Tp.ofbN d)]] w1 λe w'=>e=.returned (.string (mk (Tp.tri a b d).line))/\Below w1.heap.size w1 w'):=hid (λw1 h1=>zfZ (Tp.tri a b d) (zkH a b d) w1 h1);by_cases R:(Tp.tri a b d).line=t
  ·rw[Q R] at E
   rw[E];have X:((mk (Tp.tri a b d).line).toList == (mk t).toList)=true:=by
    rw[ri,ri]
    simpa using R
   generalize Y:mk (Tp.tri a b d).line=ln at *;go_enter func81,ntmps81;go_wp2_with (first
    | (go_at_call 83;refine(L.out _ (k.out.kept (stA (J _) _)).fc).mono ?_;rintro e w5 ⟨rfl,p⟩;have q:=hid ((k.out.kept (stA (J _) _)).kept p);have c:=q.out.bx;have y0:=c.at 0 _ U;have y1:=c.at 1 _ U;have T:=c.at 2 _ U;have V:=c.z;have yf:=c.f;clear c;have I:=hid ((Bx.new w3 (Tp.tri a b d).val.toList 113 U).kept p);have i:=I.out;have x0:=i.at 0 _ U;have x1:=i.at 1 _ U;have x2:=i.at 2 _ U;have xz:=i.z;clear p i)
    | (go_at_call 171;refine(zcG d _).mono ?_;rintro e w4 ⟨rfl,rfl⟩)
    | (go_at_call 170;have hq:=j.out;clear hq;refine(zcE b (by omega) _ j.out.fc).mono ?_;rintro e w3 ⟨ev3,rfl,u⟩;have k:=hid (j.out.kept u);have T:=k.out.st 2 d U;have V:=k.out.gz;clear u)
    | (go_at_call 170;refine(zcE a (by omega) _ l.out.fc).mono ?_;rintro e w2 ⟨ev2,rfl,x⟩;have j:=hid (l.out.kept x);have z1:=j.out.st 1 b U;have zz:=j.out.gz;clear x)
    | (go_at_call 169;refine(B.out _ (s.out.kept (stA (J w) _))).mono ?_;rintro e w1 ⟨rfl,m,H,o⟩;have l:=hid (zdI (g:=w.heap.size+1) (by simp) U s.out m H o);have s0:=l.out.st 0 a U;have sz:=l.out.gz;clear m H o))
   refine Pl.cutB (λZ=>Below w.heap.size w Z/\Bx Z w.heap.size (Tp.tri a b d).val.toList) (zf6 q.out.low q.out.bx (Tp.tri a b d)) ?_;rintro Z ⟨M,N⟩;have y:=zeI N;refine ao (v:=Tp.tell (some (Tp.tri a b d))) ?_ U ⟨U,M⟩;simp only[results,results81];simp;show (Result.andThen (Sem.run prog (loadVar 113 ⟨w.heap.size,0,none⟩) Z) _)=_;rw[y];rfl
  ·rw[G R] at E
   rw[E];have X:((mk (Tp.tri a b d).line).toList == (mk t).toList)=false:=by
    rw[ri,ri]
    simpa using R
   generalize Y:mk (Tp.tri a b d).line=ln at *;go_enter func81,ntmps81;go_wp2_with (first
    | (go_at_call 83;refine(L.out _ (k.out.kept (stA (J _) _)).fc).mono ?_;rintro e w5 ⟨rfl,p⟩;have q:=hid ((k.out.kept (stA (J _) _)).kept p);have c:=q.out.bx;have y0:=c.at 0 _ U;have y1:=c.at 1 _ U;have T:=c.at 2 _ U;have V:=c.z;have yf:=c.f;clear c;have I:=hid ((Bx.new w3 (Tp.tri a b d).val.toList 113 U).kept p);have i:=I.out;have x0:=i.at 0 _ U;have x1:=i.at 1 _ U;have x2:=i.at 2 _ U;have xz:=i.z;clear p i)
    | (go_at_call 171;refine(zcG d _).mono ?_;rintro e w4 ⟨rfl,rfl⟩)
    | (go_at_call 170;have hq:=j.out;clear hq;refine(zcE b (by omega) _ j.out.fc).mono ?_;rintro e w3 ⟨ev3,rfl,u⟩;have k:=hid (j.out.kept u);have T:=k.out.st 2 d U;have V:=k.out.gz;clear u)
    | (go_at_call 170;refine(zcE a (by omega) _ l.out.fc).mono ?_;rintro e w2 ⟨ev2,rfl,x⟩;have j:=hid (l.out.kept x);have z1:=j.out.st 1 b U;have zz:=j.out.gz;clear x)
    | (go_at_call 169;refine(B.out _ (s.out.kept (stA (J w) _))).mono ?_;rintro e w1 ⟨rfl,m,H,o⟩;have l:=hid (zdI (g:=w.heap.size+1) (by simp) U s.out m H o);have s0:=l.out.st 0 a U;have sz:=l.out.gz;clear m H o))
   refine Pl.cutB (λZ=>Below w.heap.size w Z/\Bx Z w.heap.size Tp.In.zero.val.toList) (zf6 q.out.low q.out.bx Tp.In.zero) ?_;rintro Z ⟨M,N⟩;have y:=zeI N;refine ao (v:=Tp.tell none) ?_ U ⟨U,M⟩;simp only[results,results81];simp;show (Result.andThen (Sem.run prog (loadVar 113 ⟨w.heap.size,0,none⟩) Z) _)=_;rw[y];rfl
 ·rw[zmI h3]
  have h3':¬ ((Tp.sp 32 t).length:Int)=3:=by omega
  generalize hn:(Tp.sp 32 t).length=n at *;clear h3 r W;go_enter func81,ntmps81;go_wp2_with (go_at_call 169;refine(B.out _ (s.out.kept (stA (J w) _))).mono ?_;rintro e w1 ⟨rfl,m,H,o⟩;have HO:=hid (zdI (g:=w.heap.size+1) (by simp) U s.out m H o);have c:=HO.out.bx;have y0:=c.at 0 _ U;have y1:=c.at 1 _ U;have T:=c.at 2 _ U;have V:=c.z;have yf:=c.f;clear m H o c)
  refine Pl.cutB (λZ=>Below w.heap.size w Z/\Bx Z w.heap.size Tp.In.zero.val.toList) (zf6 HO.out.low HO.out.bx Tp.In.zero) ?_;rintro Z ⟨M,N⟩;have y:=zeI N;refine ao (v:=Tp.tell none) ?_ U ⟨U,M⟩;simp only[results,results81];simp;show (Result.andThen (Sem.run prog (loadVar 113 ⟨w.heap.size,0,none⟩) Z) _)=_;rw[y];rfl
theorem ze1{w:World}{B z n:Nat}{t:TypeId}{v:Value}{xs:List Value}(h:w.ownsRow B t z v n xs)(l:0<n):∃ g a,v=.slice (some ⟨g,0,none⟩) n a/\n<=a/\g<w.heap.size /\ ∀ j x,xs[j]?=some x->w.cell? ⟨g,j,none⟩=some x:=by
 rcases h.2 with⟨d,e1⟩|⟨g,a,f,d,hb,e,i,m,o,k⟩
 ·omega
 ·refine⟨g,a,d,i,(ay.1 e).1,λj x b=>?_⟩
  rw[<- k] at b;have c:j<n*z:=by
   have:=(aA.1 b).1;rw[bu] at this;omega
  rw[cK c,dM] at b;unfold World.cell?;simp[e,b]
theorem oG{w:World}{B z n:Nat}{t:TypeId}{v:Value}{xs:List Value}(h:w.ownsRow B t z v n xs):∃ a c,v=.slice a n c:=by
 rcases h.2 with⟨b,e1⟩|⟨g,d,e,b,_⟩
 ·exact⟨none,0,by rw[b,e1]⟩
 ·exact⟨_,_,b⟩
theorem zdJ{B z n:Nat}{t:TypeId}{v:Value}{xs:List Value}{w w1:World}(h:w.ownsRow B t z v n xs)(hb:Below w.heap.size w w1):w1.ownsRow B t z v n xs:=h.kept (zcp hb) (zf1 v)
theorem Tp.appOne{ops:Array Oper}{rest:List Oper}{o:Oper}{a:Act}{aj:Exit->Act->World->Prop}{l t:TypeId}{m:Value}{y z n B:Nat}{w:World}{v:Value}{xs:List Value}(p:Tryz.prog.underlying l=some (.slice t))(f:(Tryz.prog.info? t).map (λi=>(i.zero,i.size,i.bytes))=some (some m,z,y))(q:m.cells.size=z)(M:0<z)
 (r:o.guard=none) (s x:Operand) (N:o.op=.call { callee:=.builtin .append,args:=#[s,x],argTypes:=#[l,l] }) (P:a.eval s=v) (b:w.ownsRow B t z v n xs) (g c:Nat) (R:a.eval x=.slice (some ⟨g,0,none⟩) 1 c) {ys:List Value} (X:ys.length=z) (hc:∀ j u,ys[j]?=some u->w.cell? ⟨g,j,none⟩=some u) (h1:∀ u∈ys,u.oneCell'=true) (hb:n<=140737488355327) (E:(n+1)*y<=140737488355328) (hB:B<=w.heap.size)
 (h:∀ v' w',w'.ownsRow B t z v' (n+1) (xs++ys)->Below B w w'->wpList prog ops aj rest (a.put o.dst v') w'):wpList prog ops aj (o::rest) a w:=by
 obtain⟨i0,F,H,I,L⟩:=info_parts f;refine wpList_append_lies _ r s x _ N B t i0 m z y p F H I L q M v n xs P b ⟨g,0,none⟩ 1 c ys R (by omega) (λj u T=>by rw[addr_add,aN];exact hc j u T) h1 (by omega) (by unfold maxLen;omega) E hB w.heap.size U ?_;intro g' V w' d e _ _;exact h _ w' d ((aW B w).grown e hB (λk W=>(b.lt k W).1))
/-! ### inputs -/
def Tp.ics:List Tp.In->List Value
 | []=>[]
 | x::l=>.int .i64 x.c :: .int .i64 x.p :: .int .u8 x.d::Tp.ics l
theorem zhy:∀ l k:List Tp.In,Tp.ics (l++k)=Tp.ics l++Tp.ics k
 | [],k=>rfl
 | x::l,k=>by simp only[Tp.ics,cQ,zhy l k]
theorem zf7:∀(l:List Tp.In) (j:Nat) (x:Tp.In),l[j]?=some x->(Tp.ics l)[3*j]?=some (.int .i64 x.c)/\(Tp.ics l)[3*j+1]?=some (.int .i64 x.p)/\(Tp.ics l)[3*j+2]?=some (.int .u8 x.d)
 | [],j,x,h=>by simp at h
 | y::l,0,x,h=>by
  simp only[aY,aP] at h;subst h;exact⟨U,U,U⟩
 | y::l,j+1,x,h=>by
  rw[bi] at h;obtain⟨h1,h2,h3⟩:=zf7 l j x h;rw[show 3*(j+1)=3*j+1+1+1 by omega];exact⟨h1,h2,h3⟩
theorem zkJ{w:World}{B:Nat}{v:Value}{l:List Tp.In}(h:w.ownsRow B 113 3 v l.length (Tp.ics l)):Tp.InAt w.heap.size w v l:=by
 by_cases d:l=[]
 ·subst d
  obtain⟨a,c,e⟩:=oG h;exact Or.inl ⟨U,a,c,e⟩
 ·have f:0<l.length:=by cases l with|nil=>exact absurd rfl d|cons _ _=>simp
  obtain⟨g,b,e,h1,h2,h3⟩:=ze1 h f;refine Or.inr ⟨g,0,b,e,h1,h2,h2,λj x i=>?_⟩;obtain⟨q1,k,m⟩:=zf7 l j x i;rw[aN];exact⟨h3 _ _ q1,h3 _ _ k,h3 _ _ m⟩
theorem zmL:(Tryz.prog.info? 113).map (λi=>(i.zero,i.size,i.bytes))=some (some (.agg #[.int .i64 0,.int .i64 0,.int .u8 0]),3,24):=by kernel_rfl
theorem zhz(c p d:Int)(w:World):(Instr.buildSlice 42 1 #[(0,.agg #[.int .i64 c,.int .i64 p,.int .u8 d])]).run prog w=.ok (.slice (some ⟨w.heap.size,0,none⟩) 1 1) (w.alloc (.cells #[.int .i64 c,.int .i64 p,.int .u8 d] 113)):=by kernel_rfl
theorem zsr(x:Tp.In):∀ u∈Tp.ics [x],u.oneCell'=true:=λu a=>by
 simp only[Tp.ics,aV,bJ,dG] at a;rcases a with rfl|rfl|rfl <;> rfl
theorem zf8(w:World)(x:Tp.In)(t:TypeId){b:Nat}(hb:b=w.heap.size):∀ j u,(Tp.ics [x])[j]?=some u->(w.alloc (.cells #[.int .i64 x.c,.int .i64 x.p,.int .u8 x.d] t)).cell? ⟨b,j,none⟩=some u:=λj u a=>by
 subst hb;exact(Bx.new w [.int .i64 x.c,.int .i64 x.p,.int .u8 x.d] t (b:=w.heap.size) U).at j u a
structure Tp.Pw (w : World) (s0 : List UInt8) (l : List Tp.In) (s : List UInt8) (v : Value) (Y : World) : Prop where
 low:Below w.heap.size w Y
 fc:Tp.F Y
 row:Y.ownsRow w.heap.size 113 3 v l.length (Tp.ics l)
 eq:Tp.rdA (Tp.sp 10 s0) 0=Tp.aft l (Tp.rdA (Tp.sp 10 s) l.length)
 ok:∀ x∈l,x.ok
 len:s.length+l.length<=s0.length
theorem Tp.Pw.kept{w:World}{s0:List UInt8}{l:List Tp.In}{s:List UInt8}{v:Value}{Y Y':World}(h:Tp.Pw w s0 l s v Y)(hb:Below Y.heap.size Y Y'):Tp.Pw w s0 l s v Y' :=
 ⟨bn h.low hb,h.fc.kept hb,zdJ h.row hb,h.eq,h.ok,h.len⟩
theorem znT{s0 s:List UInt8}{l:List Tp.In}(h:Tp.rdA (Tp.sp 10 s0) 0=Tp.aft l (Tp.rdA (Tp.sp 10 s) l.length))(a:¬ 4000<s0.length)(b:Tp.rdA (Tp.sp 10 s) l.length=.error l.length):Tp.prsL s0=[]/\Tp.prsN s0=l.length/\Tp.prsE s0=1:=by
 rw[b] at h;unfold Tp.prsL Tp.prsN Tp.prsE;rw[G a,G a,G a,h];exact⟨U,U,U⟩
theorem zmM{s:List UInt8}{i:Nat}(h:(10:UInt8) ∉ s)(a:s≠[]):Tp.rdA (Tp.sp 10 s) i=.error i:=by
 rw[rC 10 s h,Tp.rdA,G a]
theorem zss{u r:List UInt8}{i:Nat}(h:(10:UInt8) ∉ u)(a:Tp.rd u=none):Tp.rdA (Tp.sp 10 (u++10::r)) i=.error i:=by
 rw[pH 10 r u h];cases b:Tp.sp 10 r with
 | nil=>exact absurd b (vq _ _)
 | cons t c=>exact zsq a
theorem zst{u r:List UInt8}{i:Nat}{x:Tp.In}(h:(10:UInt8) ∉ u)(a:Tp.rd u=some x):Tp.rdA (Tp.sp 10 (u++10::r)) i=Tp.aft [x] (Tp.rdA (Tp.sp 10 r) (i+1)):=by
 rw[pH 10 r u h];cases b:Tp.sp 10 r with
 | nil=>exact absurd b (vq _ _)
 | cons t c=>exact zhx a
theorem Tp.Pw.next{w:World}{s0:List UInt8}{l:List Tp.In}{u r:List UInt8}{x:Tp.In}{v v':Value}{Y Y':World}(h:Tp.Pw w s0 l (u++10::r) v Y)(c:(10:UInt8) ∉ u)(b:Tp.rd u=some x)(hb:Below w.heap.size Y Y')(d:Tp.F Y')(a:Y'.ownsRow w.heap.size 113 3 v' (l.length+1) (Tp.ics l++Tp.ics [x])):Tp.Pw w s0 (l++[x]) r v' Y':=by
 refine⟨h.low.trans hb,d,?_,?_,λy f=>?_,?_⟩
 ·rw[aC,zhy];exact a
 ·rw[h.eq,zst c b,zpw,aC];rfl
 ·rcases bS.1 f with e|e
  ·exact h.ok y e
  ·rw[ch] at e;subst e;exact(Tp.rd_some b).2
 ·have:=h.len
  simp only[aC,bR,eO] at this ⊢;omega
theorem Tp.Pw.done{w:World}{s0:List UInt8}{l:List Tp.In}{v:Value}{Y:World}(h:Tp.Pw w s0 l [] v Y)(a:¬ 4000<s0.length):Tp.prsL s0=(if Tp.chkIn l 0=0 then l else [])/\Tp.prsN s0=0/\Tp.prsE s0=Tp.chkIn l 0:=by
 have e:Tp.rdA (Tp.sp 10 s0) 0=.ok l:=by rw[h.eq];simp[Tp.sp,Tp.rdA,Tp.aft]
 unfold Tp.prsL Tp.prsN Tp.prsE;rw[G a,G a,G a,e];exact⟨U,U,U⟩
theorem zf9(l:List UInt8):(mk l).toList.isEmpty=l.isEmpty:=by rw[ri]
theorem zkK(s:List UInt8)(w:World)(R:Tp.F w):Calls prog 45 #[.string (mk s)] w λe w'=>∃ v,e=.returned (.tuple #[v,.int .i64 (Tp.prsN s),.int .i64 (Tp.prsE s)])/\w'.ownsRow w.heap.size 113 3 v (Tp.prsL s).length (Tp.ics (Tp.prsL s))/\(∀ x∈Tp.prsL s,x.ok)/\Below w.heap.size w w':=by
 by_cases N:4000<s.length
 ·have e1:Tp.prsL s=[]:=Q N
  have e2:Tp.prsN s=0:=Q N;have e3:Tp.prsE s=2:=Q N;rw[e1,e2,e3];have Z:(4000:Int)<(mk s).size:=by show (4000:Int)<s.length;omega
  clear e1 e2 e3 R;go_enter func45,ntmps45;go_wp2
  go_ret3
  exact⟨_,U,⟨U,Or.inl ⟨U,U⟩⟩,λx o=>(by cases o),J w⟩
 ·have Z:¬ (4000:Int)<(mk s).size:=by show ¬ (4000:Int)<s.length;omega
  have z:=hid N;have X:Hid (Tp.Pw w s [] s (.slice none 0 0) w):=hid ⟨J w,R,⟨U,Or.inl ⟨U,U⟩⟩,by cases Tp.rdA (Tp.sp 10 s) 0 <;> rfl,λx o=>(by cases o),by simp⟩;clear R;go_enter func45,ntmps45;go_wp2;go_loopw [0,2] (λt v wr=>∃(l:List Tp.In) (r:List UInt8),t=.string (mk r)/\Tp.Pw w s l r v wr) (λt _ _=>match t with | .string b=>b.size|_=>0)
  case atStart=>exact⟨[],s,U,X.out⟩
  case round =>
   obtain⟨l,r,rfl,E⟩:=hrel;have n:=hid E;obtain⟨ra,rc,rfl⟩:=oG E.row;have Y:=E.len;by_cases T:r=[]
   ·subst T
    obtain⟨e1,e2,e3⟩:=E.done z.out;have j:=hid (And.intro e1 (And.intro e2 e3));have V:(mk ([]:List UInt8)).toList.isEmpty=true:=by rw[zf9];rfl
    clear E e1 e2 e3;have H:=hid (Tp.checkInputs l (.slice ra l.length rc) wr.heap.size 0 wr (zkJ n.out.row) (ak _));by_cases hc:Tp.chkIn l 0=0
    ·have P:=hid hc
     rw[hc] at H;clear hc;go_wp2_with (go_at_call 57;refine H.out.mono ?_;rintro e w1 ⟨rfl,a⟩;have B:=hid a;clear a)
     go_ret3
     rw[j.out.1,j.out.2.1,j.out.2.2,Q P.out,P.out];exact⟨_,U,zdJ n.out.row B.out,n.out.ok,bn n.out.low B.out⟩
    ·have P:=hid hc
     have hne:(Tp.chkIn l 0 != 0)=true:=by simpa using hc
     generalize hce:Tp.chkIn l 0=ce at *;clear hc;go_wp2_with (go_at_call 57;refine H.out.mono ?_;rintro e w1 ⟨rfl,a⟩;have B:=hid a;clear a)
     go_ret3
     rw[j.out.1,j.out.2.1,j.out.2.2,G P.out];exact⟨_,U,⟨U,Or.inl ⟨U,U⟩⟩,λx o=>(by cases o),bn n.out.low B.out⟩
   ·have V:(mk r).toList.isEmpty=false:=by rw[zf9];cases r with|nil=>exact absurd rfl T|cons _ _=>rfl
    have m:=hid (zpy r [10] (by have:=z.out;omega) wr n.out.fc);by_cases h10:(10:UInt8)∈r
    ·obtain⟨u,q,rfl,L⟩:=sX 10 r h10
     rw[zsm 10 u q L] at m;have HU:=hid L;have hul:u.length+q.length+1=(u++10::q).length:=by simp;omega
     cases f:Tp.rd u with
     | none =>
      have k:Hid (∀ w1,Tp.F w1->Calls prog 81 #[.string (mk u)] w1 λe w'=>e=.returned (.tuple #[.agg #[.int .i64 0,.int .i64 0,.int .u8 0],.int .i64 1])/\Below w1.heap.size w1 w'):=hid (λw1 h1=>by have y:=zbN u (by have:=z.out;omega) w1 h1;rw[f] at y;exact y);obtain⟨e1,e2,e3⟩:=znT n.out.eq z.out (zss L f);have j:=hid (And.intro e1 (And.intro e2 e3));clear E e1 e2 e3 L f h10;go_wp2_with (first
       | (go_at_call 53;refine m.out.mono ?_;rintro e w1 ⟨rfl,a⟩;have g:=hid (n.out.kept a);clear a)
       | (go_at_call 81;refine(k.out _ g.out.fc).mono ?_;rintro e w2 ⟨rfl,h⟩;have i:=hid (g.out.kept h);clear h))
      go_ret3
      rw[j.out.1,j.out.2.1,j.out.2.2];exact⟨_,U,⟨U,Or.inl ⟨U,U⟩⟩,λx o=>(by cases o),stA i.out.low _⟩
     | some x =>
      have k:Hid (∀ w1,Tp.F w1->Calls prog 81 #[.string (mk u)] w1 λe w'=>e=.returned (.tuple #[.agg #[.int .i64 x.c,.int .i64 x.p,.int .u8 x.d],.int .i64 0])/\Below w1.heap.size w1 w'):=hid (λw1 h1=>by have y:=zbN u (by have:=z.out;omega) w1 h1;rw[f] at y;exact y);have W:=hid f;have rb:=zhz x.c x.p x.d;clear E L f h10;go_wp2_with (first
       | (go_at_call 53;refine m.out.mono ?_;rintro e w1 ⟨rfl,a⟩;have g:=hid (n.out.kept a);clear a)
       | (go_at_call 81;refine(k.out _ g.out.fc).mono ?_;rintro e w2 ⟨rfl,h⟩;have i:=hid (g.out.kept h);clear h)
       | (at_builtin;refine Tp.appOne underlying42 zmL U (by omega) (by rfl) _ _ (by rfl) (by rfl) (i.out.kept (stA (stA (J w2) _) _)).row _ _ (by rfl) (ys:=Tp.ics [x]) U (zf8 _ x _ (by simp)) (zsr x) (by have:=z.out;omega) (by have:=z.out;omega) (i.out.kept (stA (stA (J w2) _) _)).low.size ?_;intro v' w' I M))
      have hP:=(i.out.kept (stA (stA (J w2) _) _)).next HU.out W.out M (X.out.fc.kept ((i.out.kept (stA (stA (J w2) _) _)).low.trans M)) I;refine⟨⟨l++[x],q,U,hP⟩,?_⟩;show q.length<(u++10::q).length;omega
    ·rw[zsn 10 r h10] at m
     obtain⟨e1,e2,e3⟩:=znT n.out.eq z.out (zmM h10 T);have j:=hid (And.intro e1 (And.intro e2 e3));clear E e1 e2 e3;cases f:Tp.rd r with
     | none =>
      have k:Hid (∀ w1,Tp.F w1->Calls prog 81 #[.string (mk r)] w1 λe w'=>e=.returned (.tuple #[.agg #[.int .i64 0,.int .i64 0,.int .u8 0],.int .i64 1])/\Below w1.heap.size w1 w'):=hid (λw1 h1=>by have y:=zbN r (by have:=z.out;omega) w1 h1;rw[f] at y;exact y);clear f;go_wp2_with (first
       | (go_at_call 53;refine m.out.mono ?_;rintro e w1 ⟨rfl,a⟩;have g:=hid (n.out.kept a);clear a)
       | (go_at_call 81;refine(k.out _ g.out.fc).mono ?_;rintro e w2 ⟨rfl,h⟩;have i:=hid (g.out.kept h);clear h))
      go_ret3
      rw[j.out.1,j.out.2.1,j.out.2.2];exact⟨_,U,⟨U,Or.inl ⟨U,U⟩⟩,λx o=>(by cases o),stA i.out.low _⟩
     | some x =>
      have k:Hid (∀ w1,Tp.F w1->Calls prog 81 #[.string (mk r)] w1 λe w'=>e=.returned (.tuple #[.agg #[.int .i64 x.c,.int .i64 x.p,.int .u8 x.d],.int .i64 0])/\Below w1.heap.size w1 w'):=hid (λw1 h1=>by have y:=zbN r (by have:=z.out;omega) w1 h1;rw[f] at y;exact y);clear f;go_wp2_with (first
       | (go_at_call 53;refine m.out.mono ?_;rintro e w1 ⟨rfl,a⟩;have g:=hid (n.out.kept a);clear a)
       | (go_at_call 81;refine(k.out _ g.out.fc).mono ?_;rintro e w2 ⟨rfl,h⟩;have i:=hid (g.out.kept h);clear h))
      go_ret3
      rw[j.out.1,j.out.2.1,j.out.2.2];exact⟨_,U,⟨U,Or.inl ⟨U,U⟩⟩,λx o=>(by cases o),stA i.out.low _⟩
def Tp.Rw(w:World)(v:Value)(n z:Nat)(xs:List Value):Prop:=xs.length=n*z/\((n=0 /\ ∃ a c,v=.slice a 0 c) \/ ∃ g o b,v=.slice (some ⟨g,o,none⟩) n b/\n<=b/\g<w.heap.size /\ ∀ j x,xs[j]?=some x->w.cell? ⟨g,o+j,none⟩=some x)
section
variable {w w1 : World} {v : Value} {n z B : Nat} {xs : List Value} {t : TypeId}
theorem Tp.Rw.kept(h:Tp.Rw w v n z xs)(hb:Below w.heap.size w w1):Tp.Rw w1 v n z xs:=by
 obtain⟨b,h|⟨g,o,a,h1,h2,h3,h4⟩⟩:=h
 ·exact⟨b,Or.inl h⟩
 ·exact⟨b,Or.inr ⟨g,o,a,h1,h2,ap h3 hb.size,λj x c=>(hb.cell (p:=⟨g,o+j,none⟩) h3).trans (h4 j x c)⟩⟩
theorem Tp.Rw.len(h:Tp.Rw w v n z xs):∃ a c,v=.slice a n c:=by
 obtain⟨_,⟨b,a,c,h1⟩|⟨g,o,d,h1,_⟩⟩:=h
 ·exact⟨a,c,by rw[b];exact h1⟩
 ·exact⟨_,_,h1⟩
end
theorem Tp.Rw.range{w:World}{v:Value}{n z:Nat}{xs:List Value}(h:Tp.Rw w v n z xs){i:Nat}(hi:i<n){row:List Value}(b:∀(j:Nat) (u:Value),row[j]?=some u->xs[i*z+j]?=some u):∃ g o a,v=.slice (some ⟨g,o,none⟩) n a/\g<w.heap.size/\w.rangeAt g (o+i*z) row:=by
 obtain⟨_,⟨d,_⟩|⟨g,o,a,h1,h2,h3,h4⟩⟩:=h
 ·omega
 ·exact⟨g,o,a,h1,h3,λj u c=>by rw[cA];exact h4 _ _ (b j u c)⟩
theorem zkL{P:Program}{w:World}{t:TypeId}{xs ys:Array Value}(h:(binOp .eql t (.agg xs) (.agg ys)).run P w=.ok (.bool true) w):(binOp .neq t (.agg xs) (.agg ys)).run P w=.ok (.bool false) w:=by
 rw[cn] at h;rw[lD]
 revert h
 generalize Sem.run P (Op.equalIn 10000 t _ _) w=r;intro h;cases r with
 | ok b w' =>
  have e:Result.ok (Value.bool b) w'=.ok (.bool true) w:=h
  injection e with e1 e2
  injection e1 with e3
  subst e3 e2;rfl
 | _=>cases h
theorem ze2{P:Program}{a:Act}{o:Oper}{w:World}(ty:TypeId)(x:Operand)(d:o.op=.load ty x)(b off:Nat)(e:a.eval x=.pointer (some ⟨b,off,none⟩))(cs:List Value)(u:TypeDesc)(hc:w.rangeAt b off cs)(f:P.underlying ty=some u)(c:u.isRow=true)(hi:(P.info? ty).map (·.size)=some cs.length):(execOp a.eval o).run P w=.ok (.value (.agg cs.toArray)) w:=by
 unfold execOp;simp only[d,e,fj,run_loadAt_mid w b off ty cs u hc f c hi,dx,fk]
theorem zuA(c a v:Int)(w:World):(binOp .eql 113 (.agg #[.int .i64 c,.int .i64 a,.int .u8 v]) (.agg #[.int .i64 c,.int .i64 a,.int .u8 v])).run prog w=.ok (.bool true) w:=by
 have u3:=underlying3;have x3:=isAgg3;have z3:=sizeOf3;have d:=underlying5;have e:=isAgg5;have z5:=sizeOf5;have b:Tryz.prog.underlying 113=some (.struct (Tryz.prog.fieldsOf 113)):=by kernel_rfl
 have hp:Tryz.prog.stoodInHeld 113=false:=by kernel_rfl
 rw[cn,show (10000:Nat)=9999+1 from U,cO w 9999 113 _ _ b hp];simp only[Program.fieldsOf,underlying113];go_simp
theorem zuB(x:Tp.In)(w:World):(binOp .neq 113 (.agg (Tp.ics [x]).toArray) (.agg (Tp.ics [x]).toArray)).run prog w=.ok (.bool false) w:=zkL (zuA x.c x.p x.d w)
theorem zeJ:∀(l:List Tp.In) (i:Nat) (x:Tp.In),l[i]?=some x->∀(j:Nat) (v:Value),(Tp.ics [x])[j]?=some v->(Tp.ics l)[i*3+j]?=some v
 | [],i,x,h=>by simp at h
 | y::l,0,x,h=>λj v a=>by
  simp only[aY,aP] at h;subst h;rw[fl,aN]
  match j,a with
  | 0,a=>exact a
  | 1,a=>exact a
  | 2,a=>exact a
  | j+3,a=>simp[Tp.ics] at a
 | y::l,i+1,x,h=>λj v a=>by
  rw[bi] at h;have:=zeJ l i x h j v a;rw[show (i+1)*3+j=i*3+j+1+1+1 by omega];exact this
theorem zeK:∀ l:List Tp.In,(Tp.ics l).length=l.length*3
 | []=>rfl
 | x::l=>by simp only[Tp.ics,bR,zeK l];omega
theorem Tp.InAt.rw{B:Nat}{w:World}{v:Value}{l:List Tp.In}(h:Tp.InAt B w v l):Tp.Rw w v l.length 3 (Tp.ics l):=by
 rcases h with⟨rfl,a,c,rfl⟩|⟨g,o,d,h1,h2,h3,h4,i⟩
 ·exact⟨U,Or.inl ⟨U,a,c,U⟩⟩
 ·refine⟨zeK l,Or.inr ⟨g,o,d,h1,h2,h4,λj u b=>?_⟩⟩
  have k:j<l.length*3:=by rw[<- zeK];exact(aA.1 b).1
  obtain⟨x,f⟩:∃ x,l[j/3]?=some x:=⟨_,au (by omega)⟩
  obtain⟨q1,m,n⟩:=zf7 l (j/3) x f;obtain⟨c1,c2,c3⟩:=i (j/3) x f;have p:j%3=0 \/ j%3=1 \/ j%3=2:=by omega
  rcases p with e|e|e
  ·rw[show j=3*(j/3) by omega] at b ⊢
   rw[q1] at b;rw[<- b];exact c1
  ·rw[show j=3*(j/3)+1 by omega] at b ⊢
   rw[m] at b;rw[<- b,<- cA];exact c2
  ·rw[show j=3*(j/3)+2 by omega] at b ⊢
   rw[n] at b;rw[<- b,<- cA];exact c3
theorem zga:(Tryz.prog.info? 113).map (·.size)=some 3:=by kernel_rfl
theorem Tp.sameIn(f v2:Value)(l:List Tp.In)(w:World)(h1:Tp.Rw w f l.length 3 (Tp.ics l))(h2:Tp.Rw w v2 l.length 3 (Tp.ics l))(t:l.length<=1000000):Calls prog 47 #[f,v2] w λe w'=>e=.returned (.bool true)/\Below w.heap.size w w':=by
 obtain⟨a1,u,e1⟩:=h1.len;obtain⟨a2,v,e2⟩:=h2.len;subst e1 e2;have m:=hid h1;have n:=hid h2;clear h1 h2;go_enter func47,ntmps47;go_wp2;go_loopw [13] (λi wr=>∃ j:Nat,j<=l.length/\i=.int .i64 j/\Below w.heap.size w wr) (λi _=>l.length-(intOf i).toNat)
 case atStart=>exact⟨0,aU _,U,J w⟩
 case round =>
  obtain⟨j,y,rfl,hb⟩:=hrel;have g:=hid hb;by_cases b:j<l.length
  ·have h:(j:Int)<l.length:=by omega
   have o:(0:Int)<=j:=by omega
   have p:(j:Int)<1000000:=by omega
   obtain⟨x,d⟩:∃ x,l[j]?=some x:=⟨_,au b⟩
   obtain⟨g1,o1,c1,q1,z,r1⟩:=(m.out.kept hb).range b (zeJ l j x d);obtain⟨k,o2,c2,q,z2,r2⟩:=(n.out.kept hb).range b (zeJ l j x d);cases q1;cases q;have r:=zuB x;clear hb d;go_upto_region 6 with fail
   refine wp_region_held_drew (S:=λw'=>w'.rangeAt g1 (o1+j*3) (Tp.ics [x])/\w'.rangeAt k (o2+j*3) (Tp.ics [x])) (by kernel_rfl) ⟨r1,r2⟩ ?_;intro a;refine ee 0 ⟨some 16,_,_,_,_,none⟩ a ?_;simp only[Act.put,xA,xB,xC];refine ee 1 ⟨some 17,_,_,_,_,none⟩ a ?_;simp only[Act.put,xA,xB,xC];refine ee 2 ⟨some 18,_,_,_,_,none⟩ a ?_;simp only[Act.put,xA,xB,xC];refine iq 3 (.agg (Tp.ics [x]).toArray) U (λw' c=>ze2 113 _ U g1 (o1+j*3) U (Tp.ics [x]) _ c.1 underlying113 U zga) a ?_;refine ee 4 ⟨some 20,_,_,_,_,none⟩ a ?_;simp only[Act.put,xA,xB,xC];refine ee 5 ⟨some 21,_,_,_,_,none⟩ a ?_;simp only[Act.put,xA,xB,xC];refine ee 6 ⟨some 22,_,_,_,_,none⟩ a ?_;simp only[Act.put,xA,xB,xC];refine iq 7 (.agg (Tp.ics [x]).toArray) U (λw' c=>ze2 113 _ U k (o2+j*3) U (Tp.ics [x]) _ c.2 underlying113 U zga) a ?_;refine ee 8 ⟨some 24,_,_,_,_,none⟩ a ?_;simp only[Act.put,xA,xB,xC];refine wpAnyH_done (by kernel_rfl) ?_ _
   clear a r1 r2;go_wp2;exact⟨⟨j+1,by omega,by simp,g.out.drew⟩,by simp[intOf];omega⟩
  ·have s:¬ (j:Int)<l.length:=by omega
   clear hb;go_wp2;go_ret;exact⟨U,g.out⟩
def Tp.r16(f:Nat->Int):List Value:=[.int .u8 (f 0),.int .u8 (f 1),.int .u8 (f 2),.int .u8 (f 3),.int .u8 (f 4),.int .u8 (f 5),.int .u8 (f 6),.int .u8 (f 7),.int .u8 (f 8),.int .u8 (f 9),.int .u8 (f 10),.int .u8 (f 11),.int .u8 (f 12),.int .u8 (f 13),.int .u8 (f 14),.int .u8 (f 15)]
theorem zhA(f:Nat->Int):(Tp.r16 f).length=16:=rfl
structure Tp.Ln where
 f:Int
 l:Int
 px:Nat->Int
def Tp.lnC(x:Tp.Ln):List Value:=.int .i64 x.f :: .int .i64 x.l::Tp.r16 x.px
theorem vu(x:Tp.Ln):(Tp.lnC x).length=18:=rfl
def Tp.lncs:List Tp.Ln->List Value
 | []=>[]
 | x::l=>Tp.lnC x++Tp.lncs l
def Tp.pxs:List (Nat->Int)->List Value
 | []=>[]
 | x::l=>Tp.r16 x++Tp.pxs l
theorem zhB:∀ l k:List (Nat->Int),Tp.pxs (l++k)=Tp.pxs l++Tp.pxs k
 | [],k=>rfl
 | x::l,k=>by rw[cQ,Tp.pxs,zhB l k,Tp.pxs,bp]
theorem zdK:∀(l:List Tp.Ln) (i:Nat) (x:Tp.Ln),l[i]?=some x->∀(j:Nat) (v:Value),(Tp.lnC x)[j]?=some v->(Tp.lncs l)[i*18+j]?=some v
 | [],i,x,h=>by simp at h
 | y::l,0,x,h=>λj v a=>by
  simp only[aY,aP] at h;subst h;have b:j<(Tp.lnC y).length:=(aA.1 a).1;rw[fl,aN,Tp.lncs,aR b];exact a
 | y::l,i+1,x,h=>λj v a=>by
  rw[bi] at h;have:=zdK l i x h j v a;rw[Tp.lncs,aO (by rw[vu];omega),vu,show (i+1)*18+j-18=i*18+j by omega];exact this
theorem zhC:∀(l:List (Nat->Int)) (i:Nat) (x:Nat->Int),l[i]?=some x->∀(j:Nat) (v:Value),(Tp.r16 x)[j]?=some v->(Tp.pxs l)[i*16+j]?=some v
 | [],i,x,h=>by simp at h
 | y::l,0,x,h=>λj v a=>by
  simp only[aY,aP] at h;subst h;have b:j<(Tp.r16 y).length:=(aA.1 a).1;rw[fl,aN,Tp.pxs,aR b];exact a
 | y::l,i+1,x,h=>λj v a=>by
  rw[bi] at h;have:=zhC l i x h j v a;rw[Tp.pxs,aO (by rw[zhA];omega),zhA,show (i+1)*16+j-16=i*16+j by omega];exact this
def Tp.pick(fr:Int):List Tp.Ln->List (Nat->Int)->List (Nat->Int)
 | [],acc=>acc
 | x::l,acc=>Tp.pick fr l (if x.f=fr/\x.l=acc.length then acc++[x.px] else acc)
theorem zmN{fr:Int}{x:Tp.Ln}{l:List Tp.Ln}{acc:List (Nat->Int)}(h:x.f=fr/\x.l=acc.length):Tp.pick fr (x::l) acc=Tp.pick fr l (acc++[x.px]):=by rw[Tp.pick,Q h]
theorem zeL{fr:Int}{x:Tp.Ln}{l:List Tp.Ln}{acc:List (Nat->Int)}(h:¬ (x.f=fr/\x.l=acc.length)):Tp.pick fr (x::l) acc=Tp.pick fr l acc:=by rw[Tp.pick,G h]
theorem zkM{α:Type}{l:List α}{j:Nat}{x:α}(h:l[j]?=some x):l.drop j=x::l.drop (j+1):=by
 obtain⟨a,e⟩:=aA.1 h;rw[cf a,e]
theorem sY:(Tryz.prog.info? 68).map (·.size)=some 18:=by kernel_rfl
theorem vx:(Tryz.prog.info? 66).map (·.size)=some 16:=by kernel_rfl
theorem zmO:(Tryz.prog.info? 66).map (λi=>(i.zero,i.size,i.bytes))=some (some (.agg (Tp.r16 (λ_=>0)).toArray),16,16):=by kernel_rfl
theorem Tp.sz16:(Value.agg (Tp.r16 (λ_=>0)).toArray).cells.size=16:=by kernel_rfl
theorem zgb(x:Tp.Ln):(Tp.lnC x).toArray.all (·.oneCell')=true:=all_oneCell_toArray λu a=>by
 simp only[Tp.lnC,Tp.r16,aV,bJ,dG] at a;rcases a with rfl|rfl|rfl|rfl|rfl|rfl|rfl|rfl|rfl|rfl|rfl|rfl|rfl|rfl|rfl|rfl|rfl|rfl <;> rfl
theorem zsu{W:World}{b:Nat}{L:List Value}(h:Bx W b L)(vs:List Value)(a:vs.length=L.length):Bx (W.setCells b 0 vs) b vs :=
 ⟨(h.puts 0 vs (by omega)).z,World.rangeAt_setCells_same W b 0 vs (h.there 0 vs.length (by omega)),(h.puts 0 vs (by omega)).f⟩
theorem zsv(f:Nat->Int):∀ u∈Tp.pxs [f],u.oneCell'=true:=λu a=>by
 simp only[Tp.pxs,Tp.r16,bZ,aV,bJ,dG] at a;rcases a with rfl|rfl|rfl|rfl|rfl|rfl|rfl|rfl|rfl|rfl|rfl|rfl|rfl|rfl|rfl|rfl <;> rfl
theorem zpA(f:Nat->Int)(w:World):(Instr.buildSlice 61 1 #[(0,.agg (Tp.r16 f).toArray)]).run prog w=.ok (.slice (some ⟨w.heap.size,0,none⟩) 1 1) (w.alloc (.cells (Tp.r16 f).toArray 66)):=by kernel_rfl
theorem zpB{ops:Array Oper}{rest:List Oper}{o:Oper}{a:Act}{w:World}{aj:Exit->Act->World->Prop}(b:o.guard=none)(x:Operand)(c:o.op=.buildSlice 61 1 #[(0,x)])(f:Nat->Int)(d:a.eval x=.agg (Tp.r16 f).toArray)
 (h:wpList prog ops aj rest (a.put o.dst (.slice (some ⟨w.heap.size,0,none⟩) 1 1)) (w.alloc (.cells (Tp.r16 f).toArray 66))):wpList prog ops aj (o::rest) a w:=by
 refine dS b λK e=>?_
 have g:=zpA f w;generalize Tp.r16 f=L at *;unfold Oper.wp;simp[execOp,c,d,g,Result.andThen];exact e _ _ h
theorem zmP(w:World)(f:Nat->Int)(t:TypeId){b:Nat}(hb:b=w.heap.size):∀ j u,(Tp.pxs [f])[j]?=some u->(w.alloc (.cells (Tp.r16 f).toArray t)).cell? ⟨b,j,none⟩=some u:=λj u a=>by
 subst hb;exact(Bx.new w (Tp.r16 f) t (b:=w.heap.size) U).at j u (by simpa [Tp.pxs] using a)
theorem sZ(w:World)(x:Tp.Ln)(t:TypeId):Below w.heap.size w ((w.alloc (.cells (Tp.lnC ⟨0,0,λ_=>0⟩).toArray t)).setCells w.heap.size 0 (Tp.lnC x))/\Bx ((w.alloc (.cells (Tp.lnC ⟨0,0,λ_=>0⟩).toArray t)).setCells w.heap.size 0 (Tp.lnC x)) w.heap.size (Tp.lnC x) :=
 ⟨Pl.below (ak _) _ 0 _ (stA (J w) _),zsu (Bx.new w (Tp.lnC ⟨0,0,λ_=>0⟩) t (b:=w.heap.size) rfl) (Tp.lnC x) (by rw[vu,vu])⟩
theorem zdL(w:World)(t:TypeId):(w.alloc (.cells (Tp.lnC ⟨0,0,λ_=>0⟩).toArray t)).there w.heap.size 0 18:=(Bx.new w (Tp.lnC ⟨0,0,λ_=>0⟩) t (b:=w.heap.size) rfl).there 0 18 (by rw[vu];omega)
theorem zuC{V:World}{b:Nat}{x:Tp.Ln}(h:Bx V b (Tp.lnC x)):V.rangeAt b 2 (Tp.r16 x.px):=λj v a=>h.at (2+j) v (by rw[kF];exact a)
structure Tp.Fw (w : World) (fr : Int) (l : List Tp.Ln) (j : Nat) (acc : List (Nat -> Int)) (v : Value) (Y : World) : Prop where
 low:Below w.heap.size w Y
 row:Y.ownsRow w.heap.size 66 16 v acc.length (Tp.pxs acc)
 eq:Tp.pick fr (l.drop j) acc=Tp.pick fr l []
 le:acc.length<=j
theorem Tp.Fw.kept{w:World}{fr:Int}{l:List Tp.Ln}{j:Nat}{acc:List (Nat->Int)}{v:Value}{Y Y':World}(h:Tp.Fw w fr l j acc v Y)(hb:Below Y.heap.size Y Y'):Tp.Fw w fr l j acc v Y':=⟨bn h.low hb,zdJ h.row hb,h.eq,h.le⟩
def Tp.frmL(fr:Int)(l:List Tp.Ln):List (Nat->Int):=if (Tp.pick fr l []).length=8 then Tp.pick fr l [] else []
def Tp.frmE(fr:Int)(l:List Tp.Ln):Int:=if (Tp.pick fr l []).length=8 then 0 else 5
theorem rE(v v2 v3:Value)(l:List Tp.Ln)(fr:Int)(w:World)(h:Tp.Rw w v l.length 18 (Tp.lncs l))(R:l.length<=4398046511104):Calls prog 20 #[.agg #[v,v2,v3],.int .i64 fr] w λe w'=>∃ u,e=.returned (.tuple #[u,.int .i64 (Tp.frmE fr l)])/\w'.ownsRow w.heap.size 66 16 u (Tp.frmL fr l).length (Tp.pxs (Tp.frmL fr l))/\Below w.heap.size w w':=by
 obtain⟨a1,k1,rfl⟩:=h.len;have H:=hid h;have s:=hid R;clear h R;go_enter func20,ntmps20;go_wp2;go_loopw [6,12] (λu i wr=>∃(j:Nat) (acc:List (Nat->Int)),j<=l.length/\i=.int .i64 j/\Tp.Fw w fr l j acc u wr) (λ_ i _=>l.length-(intOf i).toNat)
 case atStart=>exact⟨0,[],aU _,U,stA (J w) _,⟨U,Or.inl ⟨U,U⟩⟩,U,ak _⟩
 case round =>
  obtain⟨j,acc,hj,rfl,b⟩:=hrel;have a:=hid b;have hle:=b.le;obtain⟨ua,uc,rfl⟩:=oG b.row;by_cases n:j<l.length
  ·have T:(j:Int)<l.length:=by omega
   have hj0:(0:Int)<=j:=by omega
   have hw1:wrap64 ((j:Int)+1)=(j:Int)+1:=by have:=s.out;unfold wrap64;omega
   have hw2:IntKind.i64.wrap ((j:Int)+1)=(j:Int)+1:=by have:=s.out;simp[IntKind.wrap,IntKind.bits,IntKind.signed];omega
   obtain⟨x,B⟩:∃ x,l[j]?=some x:=⟨_,au n⟩
   obtain⟨g,o,c,q1,z1,r1⟩:=(H.out.kept b.low).range n (zdK l j x B);cases q1;have E:=hid r1;have F:=hid (zkM B);clear b B r1;by_cases p:x.f=fr/\x.l=acc.length
   ·obtain⟨q1,I⟩:=p
    have t:=hid (And.intro q1 I);have W:(x.f == fr)=true:=by simpa using q1
    have t2:(x.l == (acc.length:Int))=true:=by simpa using I
    clear q1 I;go_wp2_with (first
     | (refine zpB U _ U x.px U ?_)
     | (refine wpList_load_mid U 68 _ U g (o+j*18) U (Tp.lnC x) _ E.out underlying68 U sY ?_)
     | (refine wpList_store_mid U 68 _ _ U wr.heap.size 0 (Tp.lnC x).toArray U U (zdL wr _) sY (zgb x) ?_;refine Pl.cutL (λV=>Tp.Fw w fr l j acc (.slice ua acc.length uc) V/\Bx V wr.heap.size (Tp.lnC x)) ⟨a.out.kept (sZ wr x _).1,(sZ wr x _).2⟩ ?_;rintro V ⟨p1,p2⟩;have d:=hid p1;have L:=hid p2;have X:=p2.at 0 (.int .i64 x.f) U;have Y:=p2.at 1 (.int .i64 x.l) U;have Z:=p2.z;clear p1 p2)
     | (refine wpList_load_mid U 66 _ U wr.heap.size 2 U (Tp.r16 x.px) _ (zuC L.out) underlying66 U vx ?_)
     | (at_builtin;have k:=hid (d.out.kept (stA (J V) (.cells (Tp.r16 x.px).toArray 66)));refine Tp.appOne (v:=.slice ua acc.length uc) underlying61 zmO Tp.sz16 (by decide) (by rfl) _ _ (by rfl) (by rfl) k.out.row V.heap.size 1 (by rfl) (ys:=Tp.pxs [x.px]) U (zmP V x.px _ U) (zsv x.px) (by have:=s.out;omega) (by have:=s.out;omega) k.out.low.size ?_;intro v' w' m M))
    refine⟨⟨j+1,acc++[x.px],by omega,by simp,k.out.low.trans M,?_,?_,?_⟩,by simp[intOf];omega⟩
    ·rw[aC,zhB];exact m
    ·rw[<- a.out.eq,F.out,zmN t.out]
    ·simp;omega
   ·have t:=hid p
    by_cases q1:x.f=fr
    ·have W:(x.f == fr)=true:=by simpa using q1
     have t2:(x.l == (acc.length:Int))=false:=by rw[fA];intro e;exact p ⟨q1,e⟩
     clear p q1;go_wp2_with (first
      | (refine wpList_load_mid U 68 _ U g (o+j*18) U (Tp.lnC x) _ E.out underlying68 U sY ?_)
      | (refine wpList_store_mid U 68 _ _ U wr.heap.size 0 (Tp.lnC x).toArray U U (zdL wr _) sY (zgb x) ?_;refine Pl.cutL (λV=>Tp.Fw w fr l j acc (.slice ua acc.length uc) V/\Bx V wr.heap.size (Tp.lnC x)) ⟨a.out.kept (sZ wr x _).1,(sZ wr x _).2⟩ ?_;rintro V ⟨p1,p2⟩;have d:=hid p1;have L:=hid p2;have X:=p2.at 0 (.int .i64 x.f) U;have Y:=p2.at 1 (.int .i64 x.l) U;have Z:=p2.z;clear p1 p2))
     exact⟨⟨j+1,acc,by omega,by simp,d.out.low,d.out.row,by rw[<- a.out.eq,F.out,zeL t.out],by omega⟩,by simp[intOf];omega⟩
    ·have W:(x.f == fr)=false:=by simpa using q1
     clear p q1;go_wp2_with (first
      | (refine wpList_load_mid U 68 _ U g (o+j*18) U (Tp.lnC x) _ E.out underlying68 U sY ?_)
      | (refine wpList_store_mid U 68 _ _ U wr.heap.size 0 (Tp.lnC x).toArray U U (zdL wr _) sY (zgb x) ?_;refine Pl.cutL (λV=>Tp.Fw w fr l j acc (.slice ua acc.length uc) V/\Bx V wr.heap.size (Tp.lnC x)) ⟨a.out.kept (sZ wr x _).1,(sZ wr x _).2⟩ ?_;rintro V ⟨p1,p2⟩;have d:=hid p1;have L:=hid p2;have X:=p2.at 0 (.int .i64 x.f) U;have Y:=p2.at 1 (.int .i64 x.l) U;have Z:=p2.z;clear p1 p2))
     exact⟨⟨j+1,acc,by omega,by simp,d.out.low,d.out.row,by rw[<- a.out.eq,F.out,zeL t.out],by omega⟩,by simp[intOf];omega⟩
  ·have N:j=l.length:=by omega
   subst N;have hnl:¬ (l.length:Int)<l.length:=by omega
   have y:Tp.pick fr l []=acc:=by rw[<- b.eq,di];rfl
   have e1:Tp.frmL fr l=if acc.length=8 then acc else []:=by unfold Tp.frmL;rw[y]
   have e2:Tp.frmE fr l=if acc.length=8 then 0 else 5:=by unfold Tp.frmE;rw[y]
   by_cases q:acc.length=8
   ·rw[Q q] at e1 e2
    have r:=hid (And.intro e1 e2);have P:((acc.length:Int) != 8)=false:=by rw[q];rfl
    clear b y e1 e2 q;go_wp2
    go_ret2
    rw[r.out.1,r.out.2];exact⟨_,U,a.out.row,a.out.low⟩
   ·rw[G q] at e1 e2
    have r:=hid (And.intro e1 e2);have P:((acc.length:Int) != 8)=true:=by rw[jh];omega
    clear b y e1 e2 q;go_wp2
    go_ret2
    rw[r.out.1,r.out.2];exact⟨_,U,⟨U,Or.inl ⟨U,U⟩⟩,a.out.low⟩
def Tp.blk(f:Nat):List (Int × Int):=[((f:Int),0),((f:Int),1),((f:Int),2),((f:Int),3),((f:Int),4),((f:Int),5),((f:Int),6),((f:Int),7)]
def Tp.blks:Nat->List (Int × Int)
 | 0=>[]
 | f+1=>Tp.blks f++Tp.blk f
theorem zpC(f i:Nat)(h:i<10):iy 0 0 0 (640*f+64*i)=if i<8 then some ((f:Int),(i:Int)) else none:=by
 have b:i6 0 0 (640*f+64*i:Nat)=0:=by unfold i6;omega
 have h1:jI 0 0 (640*f+64*i:Nat)=i:=by unfold jI;omega
 have h2:j3 0 0 0 (640*f+64*i:Nat)=f:=by unfold j3;omega
 unfold iy;rw[b,h1,h2];by_cases a:i<8
 ·rw[Q ⟨U,by omega⟩,Q a]
 ·rw[G (λe=>by omega),G a]
theorem zsw(f i:Nat):Beg 0 0 (640*f+64*i):=⟨by unfold i6;omega,by omega⟩
theorem pI(f i:Nat)(h:i<10):dR 0 0 0 (640*f+64*(i+1))=dR 0 0 0 (640*f+64*i)++(if i<8 then [((f:Int),(i:Int))] else []):=by
 have e:640*f+64*(i+1)=640*f+64*i+64:=by omega
 rw[e,(zun (f:=0) (zsw f i)).2,zpC f i h];split <;> rfl
theorem ziP(f:Nat):dR 0 0 0 (640*(f+1))=dR 0 0 0 (640*f)++Tp.blk f:=by
 have e:640*(f+1)=640*f+64*(9+1):=by omega
 rw[e,pI f 9 (by omega),pI f 8 (by omega),pI f 7 (by omega),pI f 6 (by omega),pI f 5 (by omega),pI f 4 (by omega),pI f 3 (by omega),pI f 2 (by omega),pI f 1 (by omega),pI f 0 (by omega)];simp[Tp.blk]
theorem zc3:∀ f:Nat,dR 0 0 0 (640*f)=Tp.blks f
 | 0=>rfl
 | f+1=>by rw[ziP,zc3 f];rfl
theorem zgc:∀ f:Nat,(Tp.blks f).length=8*f
 | 0=>rfl
 | f+1=>by rw[Tp.blks,aC,zgc f];simp[Tp.blk];omega
def Tp.ofLin(x:Lin):Tp.Ln:=⟨x.f,x.l,λi=>(x.px i:Int)⟩
theorem zdM(fr:Int):∀(l k:List Tp.Ln) (acc:List (Nat->Int)),Tp.pick fr (l++k) acc=Tp.pick fr k (Tp.pick fr l acc)
 | [],k,acc=>rfl
 | x::l,k,acc=>by rw[cQ,Tp.pick,Tp.pick,zdM fr l k]
theorem s7(fr:Int):∀(l:List Tp.Ln) (acc:List (Nat->Int)),(∀ x∈l,x.f≠fr)->Tp.pick fr l acc=acc
 | [],acc,_=>rfl
 | x::l,acc,h=>by
  rw[zeL (λe=>h x (bl ..) e.1)];exact s7 fr l acc (λy a=>h y (bq _ a))
theorem zmQ(f:Nat)(l:List Tp.Ln)(h:l.map (λx=>(x.f,x.l))=Tp.blk f):(Tp.pick f l []).length=8:=by
 have a:l.length=8:=by have b:=congrArg List.length h;simpa [Tp.blk] using b
 unfold Tp.blk at h
 match l,a with
 | [k,x1,x2,x3,m,n,o,p],_ =>
  simp only[bP,cB,cN,dD,and_true] at h;obtain⟨⟨a0,b0⟩,⟨a1,b1⟩,⟨a2,b2⟩,⟨a3,b3⟩,⟨a4,c⟩,⟨a5,d⟩,⟨e,g⟩,⟨i,j⟩⟩:=h;simp[Tp.pick,a0,b0,a1,b1,a2,b2,a3,b3,a4,c,a5,d,e,g,i,j]
theorem zdm:∀(f:Nat) (p:Int × Int),p∈Tp.blks f->0<=p.1/\p.1<f
 | 0,p,h=>by simp[Tp.blks] at h
 | f+1,p,h=>by
  rw[Tp.blks] at h;rcases bS.1 h with h|h
  ·have:=zdm f p h;omega
  ·simp[Tp.blk] at h
   rcases h with rfl|rfl|rfl|rfl|rfl|rfl|rfl|rfl <;> simp <;> omega
theorem vy{l:List Tp.Ln}{ps:List (Int × Int)}(h:l.map (λx=>(x.f,x.l))=ps){x:Tp.Ln}(a:x∈l):(x.f,x.l)∈ps:=by
 rw[<- h];exact List.mem_map_of_mem a
theorem zhD:∀(F:Nat) (l:List Tp.Ln),l.map (λx=>(x.f,x.l))=Tp.blks F->∀ k,k<F->(Tp.pick k l []).length=8
 | 0,l,h,k,b=>by omega
 | F+1,l,h,k,b=>by
  rw[Tp.blks] at h;obtain⟨l1,l2,rfl,h1,h2⟩:=jp.1 h;rw[zdM];by_cases e:k=F
  ·subst e
   rw[s7 _ l1 [] (λx a e=>by have:=(zdm k _ (vy h1 a)).2;simp only at this;omega)];exact zmQ k l2 h2
  ·rw[s7 _ l2 _ (λx a e=>by
    have c:=vy h2 a;simp[Tp.blk] at c;omega)]
   exact zhD F l1 h1 k (by omega)
theorem zhE:∀ l:List Lin,Tp.lncs (l.map Tp.ofLin)=jM l
 | []=>rfl
 | x::l=>by
  rw[bP,Tp.lncs,zhE l];rfl
structure Tp.Pr (w : World) (L1 L2 : List Value) (Y : World) : Prop where
 low:Below w.heap.size w Y
 b1:Bx Y w.heap.size L1
 b2:Bx Y (w.heap.size+1) L2
abbrev Tp.nil3:List Value:=[.slice none 0 0,.slice none 0 0,.slice none 0 0]
section
variable {w Y w1 : World} {L1 L2 : List Value} {F : Fx} {N : Nat} {k : Cs} {vln vsm vw : Value} {X : Mach}
theorem Tp.Pr.kept(h:Tp.Pr w L1 L2 Y)(hb:Below Y.heap.size Y w1):Tp.Pr w L1 L2 w1:=⟨bn h.low hb,h.b1.kept hb,h.b2.kept hb⟩
theorem Tp.Pr.start(w:World)(t a:TypeId):Tp.Pr w (D aE aM) Tp.nil3 ((w.alloc (.cells (D aE aM).toArray t)).alloc (.cells #[.slice none 0 0,.slice none 0 0,.slice none 0 0] a)) :=
 ⟨stA (stA (J w) _) _,(Bx.new w (D aE aM) t rfl).over _,Bx.new _ Tp.nil3 a (by simp)⟩
theorem Tp.Pr.put1(h:Tp.Pr w (D aE aM) L2 Y)(L:List Value)(b:L.length=75):Tp.Pr w L L2 (Y.setCells w.heap.size 0 L):=by
 have a:=h.b1.puts 0 L (by rw[cy];omega);rw[jJ _ _ (by rw[cy,b])] at a;exact⟨j4 h.low (by omega) _ _,a,DW.bb h.b2 (by omega)⟩
theorem Tp.Pr.put2{x y z a b c:Value}(h:Tp.Pr w L1 [x,y,z] Y):Tp.Pr w L1 [a,b,c] (Y.setCells (w.heap.size+1) 0 [a,b,c]):=by
 have d:=h.b2.puts 0 [a,b,c] (by simp);rw[jJ _ _ (by simp)] at d;exact⟨j4 h.low (by omega) _ _,DW.bb h.b1 (by omega),d⟩
structure Tp.Pz (w : World) (F : Fx) (N : Nat) (k : Cs) (vln vsm vw : Value) (L1 L2 : List Value) (Y : World) : Prop where
 pr:Tp.Pr w L1 L2 Y
 told:Told F N k vln vsm vw Y
 new:dY F.B F.S
 bz:w.heap.size+2<=F.B/\F.B<=N
theorem Tp.Pz.put1(h:Tp.Pz w F N k vln vsm vw (D aE aM) L2 Y)(L:List Value)(a:L.length=75):Tp.Pz w F N k vln vsm vw L L2 (Y.setCells w.heap.size 0 L) :=
 ⟨h.pr.put1 L a,h.told.far h.new (by have:=h.bz.1;omega) h.bz.2,h.new,h.bz⟩
theorem Tp.Pz.put2{x y z a b c:Value}(h:Tp.Pz w F N k vln vsm vw L1 [x,y,z] Y):Tp.Pz w F N k vln vsm vw L1 [a,b,c] (Y.setCells (w.heap.size+1) 0 [a,b,c]) :=
 ⟨h.pr.put2,h.told.far h.new (by have:=h.bz.1;omega) h.bz.2,h.new,h.bz⟩
end
structure Tp.Pm (w : World) (b : Nat) (M : Mach) (S : Sl) (v : Value) (l : List Inp) (Y : World) : Prop where
 pr:Tp.Pr w (D aE aM) Tp.nil3 Y
 bx:Bx Y b (D M S)
 sl:bM Y S M
 inp:bE w.heap.size Y v l
theorem Tp.Pm.mk0{w Y:World}{M:Mach}{S:Sl}{v:Value}{l:List Inp}(h:Tp.Pr w (D aE aM) Tp.nil3 Y)(c:bM Y S M)(hi:bE w.heap.size Y v l)(t:TypeId):Tp.Pm w Y.heap.size M S v l ((Y.alloc (.cells (D aE aM).toArray t)).setCells Y.heap.size 0 (D M S)):=by
 have a:=(Bx.new Y (D aE aM) t (b:=Y.heap.size) U).puts 0 (D M S) (by rw[cy,cy];omega);rw[jJ _ _ (by rw[cy,cy])] at a;have hb:Below Y.heap.size Y ((Y.alloc (.cells (D aE aM).toArray t)).setCells Y.heap.size 0 (D M S)):=j4 (stA (J Y) _) (ak _) _ _;exact⟨h.kept hb,a,c.kept hb,hi.kept (hb.mono h.low.size)⟩
theorem zgd(l1 l2:List UInt8)(l v2 v:Value)(f:Int)(w:World)(h1:sliceAt w l l1)(h2:sliceAt w v2 l2)(d:l1.length<=9223372036854775807)(g:l2.length<=9223372036854775807)(hc:¬ (l1.length<=1024/\l2.length<=1024)):Calls prog 19 #[l,v2,v,.int .i64 f] w λe w'=>e=.returned (.tuple #[.agg (D aE aM).toArray,.agg Tp.nil3.toArray,.int .i64 2])/\Below w.heap.size w w':=by
 have a:=hid (Tp.Pr.start w 41 47);have p:=hid (zpD l1 l2 l v2 _ (h1.kept a.out.low) (h2.kept a.out.low) d g hc);clear h1 h2 d g hc;go_enter func19,ntmps19;go_wp2_with (first
  | (refine wpList_store_mid U 47 _ _ U (w.heap.size+1) 0 #[.slice none 0 0,.slice none 0 0,.slice none 0 0] U U (h.out.b2.there 0 3 (by simp)) jK (by simp[Value.oneCell']) ?_;refine Pl.cutL (Tp.Pr w (D aE aM) Tp.nil3) h.out.put2 ?_;intro V o;have m:=hid o;clear o)
  | (refine wpList_store_mid U 41 _ _ U w.heap.size 0 (D aE aM).toArray U U (i.out.b1.there 0 75 (by rw[cy];omega)) bV (fG _ _ pT) ?_;refine Pl.cutL (Tp.Pr w (D aE aM) Tp.nil3) (i.out.put1 _ (cy _ _)) ?_;intro q j;have h:=hid j;clear j)
  | (refine wpList_store_mid U 41 _ _ U w1.heap.size 0 (D aE aM).toArray U U ((Bx.new w1 (D aE aM) _ (b:=w1.heap.size) U).there 0 75 (by rw[cy];omega)) bV (fG _ _ pT) ?_;refine Pl.cutL (Tp.Pr w (D aE aM) Tp.nil3) (n.out.kept (j4 (stA (J w1) _) (ak _) _ _)) ?_;intro r j;have i:=hid j;clear j)
  | (go_at_call 37;refine p.out.mono ?_;rintro e w1 ⟨rfl,k⟩;have n:=hid (a.out.kept k);clear k))
 refine ao (v:=.tuple #[.agg (D aE aM).toArray,.agg Tp.nil3.toArray,.int .i64 2]) ?_ U ⟨U,m.out.low⟩;have l1:=run_loadVar_mid V w.heap.size 0 41 _ _ m.out.b1.c underlying41 U bV;have l2:=run_loadVar_mid V (w.heap.size+1) 0 47 _ _ m.out.b2.c underlying47 U jK;simp only[results,results19];simp;show (Result.andThen (Sem.run prog (loadVar 41 ⟨w.heap.size,0,none⟩) V) _)=_;rw[l1];show (Result.andThen (Sem.run prog (loadVar 47 ⟨w.heap.size+1,0,none⟩) V) _)=_;rw[l2];rfl
theorem zuF(l1 l2:List UInt8)(h1:l1.length<=1024)(h2:l2.length<=1024):∀ j,j<5->((cq l1 l2).byt j).length<=9223372036854775807:=by
 intro j a;have hc:j=0 \/ j=1 \/ j=2 \/ j=3 \/ j=4:=by omega
 rcases hc with rfl|rfl|rfl|rfl|rfl
 ·show l1.length<=_;omega
 ·show l2.length<=_;omega
 ·show (List.replicate 128 (0:UInt8)).length<=_;simp
 ·show (List.replicate 64 (0:UInt8)).length<=_;simp
 ·show (List.replicate 256 (0:UInt8)).length<=_;simp
theorem Sv9{M:Mach}(h:M.fit):M.ok:={ h with main:=h.main }
theorem tb(l1 l2:List UInt8)(h1:l1.length<=1024)(h2:l2.length<=1024):(cq l1 l2).fit/\(cq l1 l2).b=⟨0,0,false,0⟩/\(cq l1 l2).s.w=0/\(cq l1 l2).clock=0:=by
 have a:=tK _ _ (nC (b9 l1 l2) 0) (nC (b9 l1 l2) 1);have c:=ziB l1 l2 h1 h2;exact⟨Mach.fit.of c { c with main:=a } ⟨U,U,U,U,U⟩ U ⟨U,U,U⟩ ⟨U,U⟩ (Or.inl U),U,U,U⟩
theorem zer(l1 l2:List UInt8)(r v2 v:Value)(l:List Inp)(f:Int)(w:World)(h1:sliceAt w r l1)(h2:sliceAt w v2 l2)(d:l1.length<=1024)(g:l2.length<=1024)(j:bE w.heap.size w v l)(q:f<0 \/ 20<f):Calls prog 19 #[r,v2,v,.int .i64 f] w λe w'=>e=.returned (.tuple #[.agg (D aE aM).toArray,.agg Tp.nil3.toArray,.int .i64 3])/\Below w.heap.size w w':=by
 have a:=hid (Tp.Pr.start w 41 47);have E:=hid (tW l1 l2 r v2 _ (h1.kept a.out.low) (h2.kept a.out.low) d g);have s:=hid j;have F:=hid (tb l1 l2 d g);clear h1 h2 d g j;have H:(decide (f<0) || decide (20<f))=true:=by rcases q with h|h <;> simp[h]
 rcases q with q|q
 all_goals
  go_enter func19,ntmps19;go_wp2_with (first
  | (refine wpList_store_mid U 47 _ _ U (w.heap.size+1) 0 #[.slice none 0 0,.slice none 0 0,.slice none 0 0] U U (k.out.b2.there 0 3 (by simp)) jK (by simp[Value.oneCell']) ?_;refine Pl.cutL (Tp.Pr w (D aE aM) Tp.nil3) k.out.put2 ?_;intro V B;have t:=hid B;clear B)
  | (refine wpList_store_mid U 41 _ _ U w.heap.size 0 (D aE aM).toArray U U (m.out.pr.b1.there 0 75 (by rw[cy];omega)) bV (fG _ _ pT) ?_;refine Pl.cutL (Tp.Pr w (D aE aM) Tp.nil3) (m.out.pr.put1 _ (cy _ _)) ?_;intro I n;have k:=hid n;clear n)
  | (refine wpList_store_mid U 41 _ _ U w1.heap.size 0 (D (cq l1 l2) S1).toArray U U ((Bx.new w1 (D aE aM) _ (b:=w1.heap.size) U).there 0 75 (by rw[cy];omega)) bV (fG _ _ (jL o.out)) ?_;refine Pl.cutL (Tp.Pm w w1.heap.size (cq l1 l2) S1 v l) (Tp.Pm.mk0 u.out o.out x.out _) ?_;intro L n;have m:=hid n;clear n)
  | (go_at_call 37;refine E.out.mono ?_;rintro e w1 ⟨S1,rfl,p,y,z,i⟩;have u:=hid (a.out.kept i);have o:=hid p;have x:=hid ((s.out.kept a.out.low).kept (i.mono a.out.low.size));clear p y z i))
  refine ao (v:=.tuple #[.agg (D aE aM).toArray,.agg (Tp.nil3).toArray,.int .i64 3]) ?_ U ⟨U,t.out.low⟩;have l1:=run_loadVar_mid V w.heap.size 0 41 _ _ t.out.b1.c underlying41 U bV;have l2:=run_loadVar_mid V (w.heap.size+1) 0 47 _ _ t.out.b2.c underlying47 U jK;simp only[results,results19];simp;show (Result.andThen (Sem.run prog (loadVar 41 ⟨w.heap.size,0,none⟩) V) _)=_;rw[l1];show (Result.andThen (Sem.run prog (loadVar 47 ⟨w.heap.size+1,0,none⟩) V) _)=_;rw[l2];rfl
theorem zmR(l1 l2:List UInt8)(x v2 v:Value)(l:List Inp)(f:Nat)(w:World)(h1:sliceAt w x l1)(h2:sliceAt w v2 l2)(g:l1.length<=1024)(h:l2.length<=1024)(m:bE w.heap.size w v l)(P:f<=20)(M:bF (cq l1 l2) l ((f:Int)*640)≠0):Calls prog 19 #[x,v2,v,.int .i64 f] w λe w'=>e=.returned (.tuple #[.agg (D aE aM).toArray,.agg Tp.nil3.toArray,.int .i64 (bF (cq l1 l2) l ((f:Int)*640))])/\Below w.heap.size w w':=by
 have a:=hid (Tp.Pr.start w 41 47);have R:=hid (tW l1 l2 x v2 _ (h1.kept a.out.low) (h2.kept a.out.low) g h);have y:=hid m;have z:=hid (tb l1 l2 g h);have T:Hid (∀ j,j<5->((cq l1 l2).byt j).length<=9223372036854775807):=hid (zuF l1 l2 g h);have B:=hid M;have X:¬ (f:Int)<0:=by omega
 have n:¬ (20:Int)<f:=by omega
 have Y:(f:Int)<=20:=by omega
 have Z:0<=(f:Int):=by omega
 clear h1 h2 g h m;obtain⟨r,i⟩:∃ r,r=bF (cq l1 l2) l ((f:Int)*640):=⟨_,U⟩
 have E:Hid (∀ W S,bM W S (cq l1 l2)->bE W.heap.size W v l->Calls prog 9 #[.agg (D (cq l1 l2) S).toArray,v,.int .i64 ((f:Int)*640)] W λe w'=>e=.returned (.tuple #[.agg (D aE aM).toArray,.agg #[.slice none 0 0,.slice none 0 0,.slice none 0 0],.int .i64 r])/\Below W.heap.size W w'):=hid (λW S hs hi=>by
  rw[i];exact zeE (cq l1 l2) S v l ((f:Int)*640) W hs T.out (Sv9 z.out.1) hi (by omega) B.out)
 rw[<- i];clear i M P;go_enter func19,ntmps19;go_wp2_with (first
  | (refine wpList_store_mid U 47 _ _ U (w.heap.size+1) 0 #[.slice none 0 0,.slice none 0 0,.slice none 0 0] U U (o.out.b2.there 0 3 (by simp)) jK (by simp[Value.oneCell']) ?_;refine Pl.cutL (Tp.Pr w (D aE aM) Tp.nil3) o.out.put2 ?_;intro V N;have F:=hid N;clear N)
  | (refine wpList_store_mid U 41 _ _ U w.heap.size 0 (D aE aM).toArray U U (p.out.b1.there 0 75 (by rw[cy];omega)) bV (fG _ _ pT) ?_;refine Pl.cutL (Tp.Pr w (D aE aM) Tp.nil3) (p.out.put1 _ (cy _ _)) ?_;intro Z3 q;have o:=hid q;clear q)
  | (go_at_call 9;refine(E.out _ _ d.out.sl (d.out.inp.mono d.out.pr.low.size)).mono ?_;rintro e w4 ⟨rfl,s⟩;have p:=hid (d.out.pr.kept s);clear s)
  | (refine wpList_load_mid U 41 _ U w1.heap.size 0 U (D (cq l1 l2) S1) _ d.out.bx.c underlying41 U bV ?_)
  | (refine wpList_store_mid U 41 _ _ U w1.heap.size 0 (D (cq l1 l2) S1).toArray U U ((Bx.new w1 (D aE aM) _ (b:=w1.heap.size) U).there 0 75 (by rw[cy];omega)) bV (fG _ _ (jL t.out)) ?_;refine Pl.cutL (Tp.Pm w w1.heap.size (cq l1 l2) S1 v l) (Tp.Pm.mk0 H.out t.out I.out _) ?_;intro Z2 q;have d:=hid q;clear q)
  | (go_at_call 37;refine R.out.mono ?_;rintro e w1 ⟨S1,rfl,u,n,L,k⟩;have H:=hid (a.out.kept k);have t:=hid u;have I:=hid ((y.out.kept a.out.low).kept (k.mono a.out.low.size));clear u n L k))
 refine ao (v:=.tuple #[.agg (D aE aM).toArray,.agg (Tp.nil3).toArray,.int .i64 r]) ?_ U ⟨U,F.out.low⟩;have l1:=run_loadVar_mid V w.heap.size 0 41 _ _ F.out.b1.c underlying41 U bV;have l2:=run_loadVar_mid V (w.heap.size+1) 0 47 _ _ F.out.b2.c underlying47 U jK;simp only[results,results19];simp;show (Result.andThen (Sem.run prog (loadVar 41 ⟨w.heap.size,0,none⟩) V) _)=_;rw[l1];show (Result.andThen (Sem.run prog (loadVar 47 ⟨w.heap.size+1,0,none⟩) V) _)=_;rw[l2];rfl
theorem zmS{F:Fx}{N:Nat}{k:Cs}{vln vsm vw:Value}{w:World}(h:Told F N k vln vsm vw w):(#[vln,vsm,vw]:Array Value).all (·.oneCell')=true:=by
 obtain⟨a1,c1,rfl⟩:=qy h.ln;obtain⟨a2,c2,rfl⟩:=qy h.sm;obtain⟨a3,c3,rfl⟩:=qy h.ws;exact jO _ _ _ _ _ _ _ _ _
def Tp.K(l1 l2:List UInt8)(l:List Inp)(f:Nat):Cs:=Cs.clocks ⟨⟨cq l1 l2,0,[]⟩,l,[],[]⟩ (f*640)
theorem zpE(l1 l2:List UInt8)(X v2 v:Value)(l:List Inp)(f:Nat)(w:World)(h1:sliceAt w X l1)(h2:sliceAt w v2 l2)(j:l1.length<=1024)(k:l2.length<=1024)(o:bE w.heap.size w v l)(p:aZ w)(hd:∀ x∈l,0<=x.d/\x.d<=255)(hf:f<=20)(hc:Go.Proofs.YthghjlinhokimaaGreatDoor.chkIn l 0=0):Calls prog 19 #[X,v2,v,.int .i64 f] w λe w'=>∃(F:Fx) (N:Nat) (vln vsm vw:Value),e=.returned (.tuple #[.agg (D (Tp.K l1 l2 l f).s.M F.S).toArray,.agg #[vln,vsm,vw],.int .i64 0])/\Told F N (Tp.K l1 l2 l f) vln vsm vw w'/\Below w.heap.size w w':=by
 have g:=hid (Tp.Pr.start w 41 47);have HN:=hid (tW l1 l2 X v2 _ (h1.kept g.out.low) (h2.kept g.out.low) j k);have Y:=hid o;have h:=hid (tb l1 l2 j k);have Z:=hid p;have hf0:¬ (f:Int)<0:=by omega
 have q:¬ (20:Int)<f:=by omega
 have hf2:(f:Int)<=20:=by omega
 have hf3:0<=(f:Int):=by omega
 have r:Hid (∀ W S,bM W S (cq l1 l2)->aZ W->bE W.heap.size W v l->Calls prog 9 #[.agg (D (cq l1 l2) S).toArray,v,.int .i64 ((f:Int)*640)] W λe w'=>∃(F:Fx) (N:Nat) (vln vsm vw:Value),e=.returned (.tuple #[.agg (D (Tp.K l1 l2 l f).s.M F.S).toArray,.agg #[vln,vsm,vw],.int .i64 0])/\Told F N (Tp.K l1 l2 l f) vln vsm vw w'/\W.heap.size<=F.B/\F.B<=N/\dY F.B F.S/\Below W.heap.size W w'):=hid (λW S hs hw hi=>by
  have h9:=zej (cq l1 l2) S v l (f*640) W hs hw hi hd h.out.1 (by rw[h.out.2.1];decide) (by rw[h.out.2.2.2];exact hc) (by rw[h.out.2.2.2];omega);rw[show ((f*640:Nat):Int)=(f:Int)*640 by push_cast;rfl] at h9;exact h9)
 clear h1 h2 j k o hf hc hd p;obtain⟨i,t⟩:∃ i,i=Tp.K l1 l2 l f:=⟨_,U⟩
 rw[<- t] at r ⊢;clear t;go_enter func19,ntmps19;go_wp2_with (first
  | (refine wpList_store_mid U 47 _ _ U (w.heap.size+1) 0 #[vln,vsm,vw] U U (u.out.pr.b2.there 0 3 (by simp)) jK HONE.out ?_;refine Pl.cutL (Tp.Pz w F N i vln vsm vw (D i.s.M F.S) [vln,vsm,vw]) u.out.put2 ?_;intro V hV;have T:=hid hV;clear hV)
  | (refine wpList_store_mid U 41 _ _ U w.heap.size 0 (D i.s.M F.S).toArray U U (m.out.pr.b1.there 0 75 (by rw[cy];omega)) bV (fG _ _ (jL m.out.told.sl)) ?_;refine Pl.cutL (Tp.Pz w F N i vln vsm vw (D i.s.M F.S) Tp.nil3) (m.out.put1 _ (cy _ _)) ?_;intro Z3 y;have u:=hid y;clear y)
  | (go_at_call 9;refine(r.out _ _ a.out.sl (Z.out.kept a.out.pr.low) (a.out.inp.mono a.out.pr.low.size)).mono ?_;rintro e w4 ⟨F,N,vln,vsm,vw,rfl,hT,E,H,I,L⟩;have HONE:=hid (zmS hT);have m:Hid (Tp.Pz w F N i vln vsm vw (D aE aM) Tp.nil3 w4):=hid ⟨a.out.pr.kept L,hT,I,⟨ax (Nat.succ_le_of_lt a.out.pr.b2.z) E,H⟩⟩;clear hT E H I L)
  | (refine wpList_load_mid U 41 _ U w1.heap.size 0 U (D (cq l1 l2) S1) _ a.out.bx.c underlying41 U bV ?_)
  | (refine wpList_store_mid U 41 _ _ U w1.heap.size 0 (D (cq l1 l2) S1).toArray U U ((Bx.new w1 (D aE aM) _ (b:=w1.heap.size) U).there 0 75 (by rw[cy];omega)) bV (fG _ _ (jL P.out)) ?_;refine Pl.cutL (Tp.Pm w w1.heap.size (cq l1 l2) S1 v l) (Tp.Pm.mk0 HR1.out P.out HI1.out _) ?_;intro Z2 y;have a:=hid y;clear y)
  | (go_at_call 37;refine HN.out.mono ?_;rintro e w1 ⟨S1,rfl,R,q,hn1,n⟩;have HR1:=hid (g.out.kept n);have P:=hid R;have HI1:=hid ((Y.out.kept g.out.low).kept (n.mono g.out.low.size));clear R q hn1 n))
 refine ao (v:=.tuple #[.agg (D i.s.M F.S).toArray,.agg #[vln,vsm,vw],.int .i64 0]) ?_ U ⟨F,N,vln,vsm,vw,U,T.out.told,T.out.pr.low⟩;have l1:=run_loadVar_mid V w.heap.size 0 41 _ _ T.out.pr.b1.c underlying41 U bV;have l2:=run_loadVar_mid V (w.heap.size+1) 0 47 _ _ T.out.pr.b2.c underlying47 U jK;simp only[results,results19];simp;show (Result.andThen (Sem.run prog (loadVar 41 ⟨w.heap.size,0,none⟩) V) _)=_;rw[l1];show (Result.andThen (Sem.run prog (loadVar 47 ⟨w.heap.size+1,0,none⟩) V) _)=_;rw[l2];rfl
def Tp.one:Tp.In:=⟨10,1,129⟩
def Tp.oneT:List UInt8:=[49,48,32,49,32,117,46,46,46,46,46,46,116,10]
theorem zmT:Lib.itoa 10=[49,48]:=by
 have h:=Lib.itoa_nonneg 10;rw[Lib.decDigits_two (by decide) (by decide)] at h;exact h
theorem zmU:Lib.itoa 1=[49]:=by
 have h:=Lib.itoa_nonneg 1;rw[Lib.decDigits_one (by decide)] at h;exact h
theorem zdN:Tp.text [Tp.one]=Tp.oneT:=by
 unfold Tp.text Tp.one;simp only[bP,cB,gt,kR,bZ,Tp.In.line];rw[zmT,zmU];rfl
theorem zkN:∀ x∈[Tp.one],x.ok:=λx a=>by
 rw[ch] at a;subst a;exact⟨by decide,by decide,by decide,by decide,by decide⟩
theorem zeM:Tp.chkIn [Tp.one] 0=0:=by decide
theorem zpF:Tp.prsL Tp.oneT=[Tp.one]/\Tp.prsN Tp.oneT=0/\Tp.prsE Tp.oneT=0:=by
 have h:=zmJ zkN (by rw[zdN];decide) zeM;rw[zdN] at h;exact h
theorem zsx(w:World)(x:Tp.In)(t:TypeId){b:Nat}(hb:b=w.heap.size):Tp.Rw (w.alloc (.cells #[.int .i64 x.c,.int .i64 x.p,.int .u8 x.d] t)) (.slice (some ⟨b,0,none⟩) 1 1) 1 3 (Tp.ics [x]) :=
 ⟨U,Or.inr ⟨b,0,1,U,ak _,by subst hb;simp,λj u a=>by rw[aN];exact zf8 w x t hb j u a⟩⟩
theorem Tp.taped(w:World)(b:Tp.F w):Calls prog 22 #[] w λe w'=>e=.returned (.bool true)/\Below w.heap.size w w':=by
 have p:=hid (zkK Tp.oneT w b);obtain⟨e1,e2,e3⟩:=zpF;rw[e1,e2,e3] at p;have j:=hid b;have c:Tp.printS [Tp.one]=Tp.oneT:=by unfold Tp.printS;rw[Q zeM];exact zdN
 have k:Hid (∀(v:Value) (B:Nat) (W:World),Tp.InAt B W v [Tp.one]->B<=W.heap.size->Tp.F W->Calls prog 46 #[v] W λe w'=>e=.returned (.tuple #[.string (mk Tp.oneT),.int .i64 0])/\Below W.heap.size W w'):=hid (λv B W h hB b=>by
  have q:=zkD [Tp.one] v B W h hB zkN b;rw[c,zeM] at q;exact q)
 have r:((mk Tp.oneT).toList == [49,48,32,49,32,117,46,46,46,46,46,46,116,10])=true:=by rw[ri];rfl
 have rb:=zhz 10 1 129;clear b e1 e2 e3 c;go_enter func22,ntmps22;go_wp2_with (first
  | (go_at_call 45;refine p.out.mono ?_;rintro e w1 ⟨v,rfl,l,_,d⟩;obtain⟨a1,c1,rfl⟩:=oG l;have f:=hid (zkJ l);have g:=hid d;clear l d)
  | (go_at_call 46;refine(k.out _ _ _ f.out (ak _) (j.out.kept g.out)).mono ?_;rintro e w2 ⟨rfl,a⟩;have m:=hid (f.out.kept a);have n:=hid (bn g.out a);clear a)
  | (go_at_call 47;refine(Tp.sameIn _ _ [Tp.one] _ ((m.out.rw).kept (stA (J w2) _)) (zsx w2 Tp.one 113 U) (by decide)).mono ?_;rintro e s ⟨rfl,i⟩;have o:=hid (bn (stA n.out _) i);clear i))
 go_ret;exact⟨U,o.out⟩
theorem zmV(l1 l2:List UInt8)(l:List Inp)(f:Nat)(h1:l1.length<=1024)(h2:l2.length<=1024)(m:f<=20):(Tp.K l1 l2 l f).ln.map (λx=>(x.f,x.l))=Tp.blks f/\(Tp.K l1 l2 l f).sm.length=40*f/\(Tp.K l1 l2 l f).s.M.b.f=f:=by
 obtain⟨d,hb,h,i⟩:=tb l1 l2 h1 h2;have e:BOk (cq l1 l2).b.l (cq l1 l2).b.a (cq l1 l2).b.f:=by rw[hb];exact⟨by decide,by decide,by decide,by decide,by decide,by decide⟩
 have hc:=counts_of (cq l1 l2) l (f*640) d e (by rw[hb];decide) (by omega) (znS _ _);have j:=vh ⟨⟨cq l1 l2,0,[]⟩,l,[],[]⟩ e (by show (cq l1 l2).b.f<=19000;rw[hb];decide) (f*640) (by omega);refine⟨?_,?_,?_⟩
 ·have c:=hc.ln
  rw[hb] at c;rw[<- zc3,eu 640 f];exact c
 ·have c:=hc.sm
  rw[h] at c;have g:((Tp.K l1 l2 l f).sm.length:Int)=_:=c;by_cases k:f=0
  ·subst k
   rw[G (by decide)] at g;omega
  ·rw[Q (by push_cast;omega)] at g
   push_cast at g
   omega
 ·have c:(Tp.K l1 l2 l f).s.M.b.f=j3 (cq l1 l2).b.l (cq l1 l2).b.a (cq l1 l2).b.f ((f*640:Nat):Int):=j.f
  rw[hb] at c;rw[c];unfold j3
  push_cast
  omega
theorem zhF{w:World}{B z n:Nat}{t:TypeId}{v:Value}{xs:List Value}(h:w.ownsRow B t z v n xs):Tp.Rw w v n z xs:=by
 refine⟨h.1,?_⟩;by_cases d:n=0
 ·obtain⟨a,c,e⟩:=oG h
  exact Or.inl ⟨d,a,c,by rw[<- d];exact e⟩
 ·obtain⟨g,b,e,h1,h2,h3⟩:=ze1 h (by omega)
  exact Or.inr ⟨g,0,b,e,h1,h2,λj x f=>by rw[aN];exact h3 j x f⟩
theorem zpG(a0 a1 a2 a3 a4 a5 g h j a9 a b c d e f:Int)(w:World):(binOp .eql 66 (.agg #[.int .u8 a0,.int .u8 a1,.int .u8 a2,.int .u8 a3,.int .u8 a4,.int .u8 a5,.int .u8 g,.int .u8 h,.int .u8 j,.int .u8 a9,.int .u8 a,.int .u8 b,.int .u8 c,.int .u8 d,.int .u8 e,.int .u8 f]) (.agg #[.int .u8 a0,.int .u8 a1,.int .u8 a2,.int .u8 a3,.int .u8 a4,.int .u8 a5,.int .u8 g,.int .u8 h,.int .u8 j,.int .u8 a9,.int .u8 a,.int .u8 b,.int .u8 c,.int .u8 d,.int .u8 e,.int .u8 f])).run prog w=.ok (.bool true) w:=by
 have u3:=underlying5;have x3:=isAgg5;have z3:=sizeOf5;have k:Tryz.prog.cellsOf 5=1:=by kernel_rfl
 have l:(Tryz.prog.info? 5).isSome=true:=by kernel_rfl
 obtain⟨i,hi⟩:=cL.1 l;rw[cn,dT w 9999 _ _ underlying66 hi,k];simp only[List.range,List.range.loop,Op.eqItems];go_simp
theorem zuG(f:Nat->Int)(w:World):(binOp .neq 66 (.agg (Tp.r16 f).toArray) (.agg (Tp.r16 f).toArray)).run prog w=.ok (.bool false) w:=zkL (zpG (f 0) (f 1) (f 2) (f 3) (f 4) (f 5) (f 6) (f 7) (f 8) (f 9) (f 10) (f 11) (f 12) (f 13) (f 14) (f 15) w)
theorem zkO(f:Nat)(l:List Tp.Ln)(h:l.map (λx=>(x.f,x.l))=Tp.blk f):Tp.pick f l []=l.map (λx=>x.px):=by
 have a:l.length=8:=by have b:=congrArg List.length h;simpa [Tp.blk] using b
 unfold Tp.blk at h
 match l,a with
 | [k,x1,x2,x3,m,n,o,p],_ =>
  simp only[bP,cB,cN,dD,and_true] at h;obtain⟨⟨a0,b0⟩,⟨a1,b1⟩,⟨a2,b2⟩,⟨a3,b3⟩,⟨a4,c⟩,⟨a5,d⟩,⟨e,g⟩,⟨i,j⟩⟩:=h;simp[Tp.pick,a0,b0,a1,b1,a2,b2,a3,b3,a4,c,a5,d,e,g,i,j]
theorem zdO{F:Nat}{l:List Tp.Ln}(h:l.map (λx=>(x.f,x.l))=Tp.blks F):l.length=8*F:=by
 have a:=congrArg List.length h
 rwa [ba,zgc] at a
theorem zhG:∀(F:Nat) (l:List Tp.Ln),l.map (λx=>(x.f,x.l))=Tp.blks F->∀ k,k<F->Tp.pick k l []=((l.drop (8*k)).take 8).map (λx=>x.px)
 | 0,l,h,k,b=>by omega
 | F+1,l,h,k,b=>by
  rw[Tp.blks] at h;obtain⟨l1,l2,rfl,h1,h2⟩:=jp.1 h;have c:=zdO h1;have z2:l2.length=8:=by have d:=congrArg List.length h2;simpa [Tp.blk] using d
  rw[zdM];by_cases e:k=F
  ·subst e
   rw[s7 _ l1 [] (λx a e=>by have:=(zdm k _ (vy h1 a)).2;simp only at this;omega),zkO k l2 h2,<- c,List.drop_left,cD (by omega)]
  ·rw[s7 _ l2 _ (λx a e=>by
    have g:=vy h2 a;simp[Tp.blk] at g;omega),zhG F l1 h1 k (by omega),kX (by omega),kY (by rw[dh];omega)]
theorem zpH{F:Nat}{l:List Tp.Ln}(h:l.map (λx=>(x.f,x.l))=Tp.blks F){k:Nat}(b:k<F){j:Nat}(c:j<8):∃ x,l[8*k+j]?=some x/\(Tp.pick k l [])[j]?=some x.px:=by
 have d:=zdO h;have a:8*k+j<l.length:=by omega
 refine⟨l[8*k+j],au a,?_⟩;rw[zhG F l h k b,aX,cK c,fQ,au a];rfl
structure Tp.Pb (w w1 : World) (v : Value) (l : List Inp) (Y : World) : Prop where
 low:Below w.heap.size w Y
 r:LawR w1 aE aM (.slice none 0 0) (.slice none 0 0) (.slice none 0 0) [] [] [] Y
 inp:bE w.heap.size Y v l
 tf:Tp.F Y
theorem Tp.Pb.kept{w w1 Y Y':World}{v:Value}{l:List Inp}(h:Tp.Pb w w1 v l Y)(hb:Below Y.heap.size Y Y'):Tp.Pb w w1 v l Y':=⟨bn h.low hb,h.r.kept hb,h.inp.kept (hb.mono h.low.size),h.tf.kept hb⟩
theorem pJ(fr:Int):Tp.frmL fr []=[]/\Tp.frmE fr []=5:=⟨U,U⟩
theorem zuH(l1 l2:List UInt8)(a1 a2:Option Addr)(c1 c2:Nat)(v:Value)(l:List Inp)(n which:Int)(w:World)(P:Tp.F w)(k:bE w.heap.size w v l)(hc:1024<l1.length)(hp:Calls prog 19 #[.slice a1 l1.length c1,.slice a2 l2.length c2,v,.int .i64 n] w λe w'=>e=.returned (.tuple #[.agg (D aE aM).toArray,.agg Tp.nil3.toArray,.int .i64 2])/\Below w.heap.size w w'):Calls prog 5 #[.slice a1 l1.length c1,.slice a2 l2.length c2,v,.int .i64 n,.int .i64 which] w λe w'=>e=.returned (.bool true)/\Below w.heap.size w w':=by
 have B:=hid P;have E:=hid k;have R:=hid hp;have q1:(1024:Int)<l1.length:=by omega
 clear P k hp hc;go_enter func5,ntmps5;go_wp2_with (first
  | (go_at_call 14;refine(Lk.sameShown (.slice none 0 0) (.slice none 0 0) (.slice none 0 0) (.slice none 0 0) (.slice none 0 0) (.slice none 0 0) [] [] [] _ b.out.r.sh (oE _) (by simp) (by simp)).mono ?_;rintro e w7 ⟨rfl,H⟩;have I:=hid (bn b.out.low H))
  | (go_at_call 13;have L:=d;refine(sW _).mono ?_;rintro e V ⟨rfl,m⟩;have b:=hid (d.out.kept m);have W:=b.out.r.r.s.at 0 _ U;have X:=b.out.r.r.s.at 1 _ U;have Y:=b.out.r.r.s.at 2 _ U;have Z:=b.out.r.r.s.z;clear m L)
  | (refine Bu.loadG U 41 _ U w1.heap.size 0 U (D aE aM) _ d.out.r.r.x.c underlying41 U bV ?_)
  | (go_at_call 22;have f:=g.out;clear f;refine(Tp.taped _ g.out.tf).mono ?_;rintro e w5 ⟨rfl,o⟩;have d:=hid (g.out.kept o);clear o)
  | (go_at_call 22;have f:=h.out;clear f;refine(Tp.taped _ h.out.tf).mono ?_;rintro e w4 ⟨rfl,p⟩;have g:=hid (h.out.kept p);clear p)
  | (go_at_call 20;refine(rE (.slice none 0 0) (.slice none 0 0) (.slice none 0 0) [] which _ ⟨U,Or.inl ⟨U,none,0,U⟩⟩ (by decide)).mono ?_;rw[(pJ which).1,(pJ which).2];rintro e w2 ⟨u2,rfl,q,t⟩;obtain⟨ua,uc,rfl⟩:=oG q;have h:=hid (M.out.kept t);clear q t g0 g1 T gz)
  | (refine wpList_store_mid U 47 _ _ U (w1.heap.size+1) 0 #[.slice none 0 0,.slice none 0 0,.slice none 0 0] U U (u.out.s.there 0 3 (by simp)) jK (jO _ _ _ _ _ _ _ _ _) ?_
     refine Pl.cutL (R3 w1 aE aM [.slice none 0 0,.slice none 0 0,.slice none 0 0]) u.out.put ?_;intro N a;have M:Hid (Tp.Pb w w1 v l N):=hid ⟨bn i.out a.old,⟨a,qD N,oE N⟩,HIN1.out.kept (a.old.mono i.out.size),(B.out.kept i.out).kept a.old⟩;have g0:=a.s.at 0 _ U;have g1:=a.s.at 1 _ U;have T:=a.s.at 2 _ U;have gz:=a.s.z;clear a)
  | (refine wpList_store_mid U 41 _ _ U w1.heap.size 0 (D aE aM).toArray U U (R3.th1 w1) bV (fG _ _ oM) ?_
     refine Pl.cutL (R3 w1 aE aM nil3) (R3.mk1 w1 aE aM) ?_;intro Y1 y;have u:=hid y;clear y)
  | (go_at_call 19;refine R.out.mono ?_;rintro e w1 ⟨rfl,j⟩;have i:=hid j;have HIN1:=hid (E.out.kept j);clear j))
 go_ret;exact⟨U,I.out⟩
theorem zuI(l1 l2:List UInt8)(a1 a2:Option Addr)(c1 c2:Nat)(v:Value)(l:List Inp)(n which:Int)(w:World)(R:Tp.F w)(k:bE w.heap.size w v l)(hc:l1.length<=1024)(B:1024<l2.length)(hp:Calls prog 19 #[.slice a1 l1.length c1,.slice a2 l2.length c2,v,.int .i64 n] w λe w'=>e=.returned (.tuple #[.agg (D aE aM).toArray,.agg Tp.nil3.toArray,.int .i64 2])/\Below w.heap.size w w'):Calls prog 5 #[.slice a1 l1.length c1,.slice a2 l2.length c2,v,.int .i64 n,.int .i64 which] w λe w'=>e=.returned (.bool true)/\Below w.heap.size w w':=by
 have E:=hid R;have H:=hid k;have T:=hid hp;have q1:¬ (1024:Int)<l1.length:=by omega
 have W:(1024:Int)<l2.length:=by omega
 clear R k hp hc B;go_enter func5,ntmps5;go_wp2_with (first
  | (go_at_call 14;refine(Lk.sameShown (.slice none 0 0) (.slice none 0 0) (.slice none 0 0) (.slice none 0 0) (.slice none 0 0) (.slice none 0 0) [] [] [] _ b.out.r.sh (oE _) (by simp) (by simp)).mono ?_;rintro e w7 ⟨rfl,I⟩;have L:=hid (bn b.out.low I))
  | (go_at_call 13;have M:=d;refine(sW _).mono ?_;rintro e X ⟨rfl,m⟩;have b:=hid (d.out.kept m);have Y:=b.out.r.r.s.at 0 _ U;have Z:=b.out.r.r.s.at 1 _ U;have k2:=b.out.r.r.s.at 2 _ U;have kz:=b.out.r.r.s.z;clear m M)
  | (refine Bu.loadG U 41 _ U w1.heap.size 0 U (D aE aM) _ d.out.r.r.x.c underlying41 U bV ?_)
  | (go_at_call 22;have f:=g.out;clear f;refine(Tp.taped _ g.out.tf).mono ?_;rintro e w5 ⟨rfl,o⟩;have d:=hid (g.out.kept o);clear o)
  | (go_at_call 22;have f:=h.out;clear f;refine(Tp.taped _ h.out.tf).mono ?_;rintro e w4 ⟨rfl,p⟩;have g:=hid (h.out.kept p);clear p)
  | (go_at_call 20;refine(rE (.slice none 0 0) (.slice none 0 0) (.slice none 0 0) [] which _ ⟨U,Or.inl ⟨U,none,0,U⟩⟩ (by decide)).mono ?_;rw[(pJ which).1,(pJ which).2];rintro e w2 ⟨u2,rfl,q,t⟩;obtain⟨ua,uc,rfl⟩:=oG q;have h:=hid (N.out.kept t);clear q t g0 g1 V gz)
  | (refine wpList_store_mid U 47 _ _ U (w1.heap.size+1) 0 #[.slice none 0 0,.slice none 0 0,.slice none 0 0] U U (u.out.s.there 0 3 (by simp)) jK (jO _ _ _ _ _ _ _ _ _) ?_
     refine Pl.cutL (R3 w1 aE aM [.slice none 0 0,.slice none 0 0,.slice none 0 0]) u.out.put ?_;intro P a;have N:Hid (Tp.Pb w w1 v l P):=hid ⟨bn i.out a.old,⟨a,qD P,oE P⟩,HIN1.out.kept (a.old.mono i.out.size),(E.out.kept i.out).kept a.old⟩;have g0:=a.s.at 0 _ U;have g1:=a.s.at 1 _ U;have V:=a.s.at 2 _ U;have gz:=a.s.z;clear a)
  | (refine wpList_store_mid U 41 _ _ U w1.heap.size 0 (D aE aM).toArray U U (R3.th1 w1) bV (fG _ _ oM) ?_
     refine Pl.cutL (R3 w1 aE aM nil3) (R3.mk1 w1 aE aM) ?_;intro Y1 y;have u:=hid y;clear y)
  | (go_at_call 19;refine T.out.mono ?_;rintro e w1 ⟨rfl,j⟩;have i:=hid j;have HIN1:=hid (H.out.kept j);clear j))
 go_ret;exact⟨U,L.out⟩
theorem zuJ(l1 l2:List UInt8)(a1 a2:Option Addr)(c1 c2:Nat)(v:Value)(l:List Inp)(n which:Int)(w:World)(T:Tp.F w)(k:bE w.heap.size w v l)(hc:l1.length<=1024)(E:l2.length<=1024)(m:n<0)(hp:Calls prog 19 #[.slice a1 l1.length c1,.slice a2 l2.length c2,v,.int .i64 n] w λe w'=>e=.returned (.tuple #[.agg (D aE aM).toArray,.agg Tp.nil3.toArray,.int .i64 3])/\Below w.heap.size w w'):Calls prog 5 #[.slice a1 l1.length c1,.slice a2 l2.length c2,v,.int .i64 n,.int .i64 which] w λe w'=>e=.returned (.bool true)/\Below w.heap.size w w':=by
 have H:=hid T;have I:=hid k;have V:=hid hp;have q1:¬ (1024:Int)<l1.length:=by omega
 have X:¬ (1024:Int)<l2.length:=by omega
 have Y:n<0:=m;clear T k hp hc E m;go_enter func5,ntmps5;go_wp2_with (first
  | (go_at_call 14;refine(Lk.sameShown (.slice none 0 0) (.slice none 0 0) (.slice none 0 0) (.slice none 0 0) (.slice none 0 0) (.slice none 0 0) [] [] [] _ b.out.r.sh (oE _) (by simp) (by simp)).mono ?_;rintro e w7 ⟨rfl,L⟩;have M:=hid (bn b.out.low L))
  | (go_at_call 13;have N:=d;refine(sW _).mono ?_;rintro e Z ⟨rfl,o⟩;have b:=hid (d.out.kept o);have k0:=b.out.r.r.s.at 0 _ U;have k1:=b.out.r.r.s.at 1 _ U;have k2:=b.out.r.r.s.at 2 _ U;have kz:=b.out.r.r.s.z;clear o N)
  | (refine Bu.loadG U 41 _ U w1.heap.size 0 U (D aE aM) _ d.out.r.r.x.c underlying41 U bV ?_)
  | (go_at_call 22;have f:=g.out;clear f;refine(Tp.taped _ g.out.tf).mono ?_;rintro e w5 ⟨rfl,p⟩;have d:=hid (g.out.kept p);clear p)
  | (go_at_call 22;have f:=h.out;clear f;refine(Tp.taped _ h.out.tf).mono ?_;rintro e w4 ⟨rfl,q⟩;have g:=hid (h.out.kept q);clear q)
  | (go_at_call 20;refine(rE (.slice none 0 0) (.slice none 0 0) (.slice none 0 0) [] which _ ⟨U,Or.inl ⟨U,none,0,U⟩⟩ (by decide)).mono ?_;rw[(pJ which).1,(pJ which).2];rintro e w2 ⟨u2,rfl,t,u⟩;obtain⟨ua,uc,rfl⟩:=oG t;have h:=hid (P.out.kept u);clear t u g0 g1 W gz)
  | (refine wpList_store_mid U 47 _ _ U (w1.heap.size+1) 0 #[.slice none 0 0,.slice none 0 0,.slice none 0 0] U U (y.out.s.there 0 3 (by simp)) jK (jO _ _ _ _ _ _ _ _ _) ?_
     refine Pl.cutL (R3 w1 aE aM [.slice none 0 0,.slice none 0 0,.slice none 0 0]) y.out.put ?_;intro R a;have P:Hid (Tp.Pb w w1 v l R):=hid ⟨bn i.out a.old,⟨a,qD R,oE R⟩,HIN1.out.kept (a.old.mono i.out.size),(H.out.kept i.out).kept a.old⟩;have g0:=a.s.at 0 _ U;have g1:=a.s.at 1 _ U;have W:=a.s.at 2 _ U;have gz:=a.s.z;clear a)
  | (refine wpList_store_mid U 41 _ _ U w1.heap.size 0 (D aE aM).toArray U U (R3.th1 w1) bV (fG _ _ oM) ?_
     refine Pl.cutL (R3 w1 aE aM nil3) (R3.mk1 w1 aE aM) ?_;intro Y1 B;have y:=hid B;clear B)
  | (go_at_call 19;refine V.out.mono ?_;rintro e w1 ⟨rfl,j⟩;have i:=hid j;have HIN1:=hid (I.out.kept j);clear j))
 go_ret;exact⟨U,M.out⟩
theorem zuK(l1 l2:List UInt8)(a1 a2:Option Addr)(c1 c2:Nat)(v:Value)(l:List Inp)(n which:Int)(w:World)(V:Tp.F w)(k:bE w.heap.size w v l)(hc:l1.length<=1024)(H:l2.length<=1024)(m:¬ n<0)(o:20<n)(hp:Calls prog 19 #[.slice a1 l1.length c1,.slice a2 l2.length c2,v,.int .i64 n] w λe w'=>e=.returned (.tuple #[.agg (D aE aM).toArray,.agg Tp.nil3.toArray,.int .i64 3])/\Below w.heap.size w w'):Calls prog 5 #[.slice a1 l1.length c1,.slice a2 l2.length c2,v,.int .i64 n,.int .i64 which] w λe w'=>e=.returned (.bool true)/\Below w.heap.size w w':=by
 have I:=hid V;have L:=hid k;have W:=hid hp;have q1:¬ (1024:Int)<l1.length:=by omega
 have Y:¬ (1024:Int)<l2.length:=by omega
 have Z:decide (n<0)=false:=aF m;have q4:20<n:=o;clear V k hp hc H m o;go_enter func5,ntmps5;go_wp2_with (first
  | (go_at_call 14;refine(Lk.sameShown (.slice none 0 0) (.slice none 0 0) (.slice none 0 0) (.slice none 0 0) (.slice none 0 0) (.slice none 0 0) [] [] [] _ b.out.r.sh (oE _) (by simp) (by simp)).mono ?_;rintro e w7 ⟨rfl,M⟩;have N:=hid (bn b.out.low M))
  | (go_at_call 13;have P:=d;refine(sW _).mono ?_;rintro e w6 ⟨rfl,p⟩;have b:=hid (d.out.kept p);have k0:=b.out.r.r.s.at 0 _ U;have k1:=b.out.r.r.s.at 1 _ U;have k2:=b.out.r.r.s.at 2 _ U;have kz:=b.out.r.r.s.z;clear p P)
  | (refine Bu.loadG U 41 _ U w1.heap.size 0 U (D aE aM) _ d.out.r.r.x.c underlying41 U bV ?_)
  | (go_at_call 22;have f:=g.out;clear f;refine(Tp.taped _ g.out.tf).mono ?_;rintro e w5 ⟨rfl,q⟩;have d:=hid (g.out.kept q);clear q)
  | (go_at_call 22;have f:=h.out;clear f;refine(Tp.taped _ h.out.tf).mono ?_;rintro e w4 ⟨rfl,t⟩;have g:=hid (h.out.kept t);clear t)
  | (go_at_call 20;refine(rE (.slice none 0 0) (.slice none 0 0) (.slice none 0 0) [] which _ ⟨U,Or.inl ⟨U,none,0,U⟩⟩ (by decide)).mono ?_;rw[(pJ which).1,(pJ which).2];rintro e w2 ⟨u2,rfl,u,y⟩;obtain⟨ua,uc,rfl⟩:=oG u;have h:=hid (R.out.kept y);clear u y g0 g1 X gz)
  | (refine wpList_store_mid U 47 _ _ U (w1.heap.size+1) 0 #[.slice none 0 0,.slice none 0 0,.slice none 0 0] U U (B.out.s.there 0 3 (by simp)) jK (jO _ _ _ _ _ _ _ _ _) ?_
     refine Pl.cutL (R3 w1 aE aM [.slice none 0 0,.slice none 0 0,.slice none 0 0]) B.out.put ?_;intro T a;have R:Hid (Tp.Pb w w1 v l T):=hid ⟨bn i.out a.old,⟨a,qD T,oE T⟩,HIN1.out.kept (a.old.mono i.out.size),(I.out.kept i.out).kept a.old⟩;have g0:=a.s.at 0 _ U;have g1:=a.s.at 1 _ U;have X:=a.s.at 2 _ U;have gz:=a.s.z;clear a)
  | (refine wpList_store_mid U 41 _ _ U w1.heap.size 0 (D aE aM).toArray U U (R3.th1 w1) bV (fG _ _ oM) ?_
     refine Pl.cutL (R3 w1 aE aM nil3) (R3.mk1 w1 aE aM) ?_;intro Y1 E;have B:=hid E;clear E)
  | (go_at_call 19;refine W.out.mono ?_;rintro e w1 ⟨rfl,j⟩;have i:=hid j;have HIN1:=hid (L.out.kept j);clear j))
 go_ret;exact⟨U,N.out⟩
theorem zuL(l1 l2:List UInt8)(a1 a2:Option Addr)(c1 c2:Nat)(v:Value)(l:List Inp)(n which:Int)(w:World)(Z:Tp.F w)(m:bE w.heap.size w v l)(hc:l1.length<=1024)(M:l2.length<=1024)(o:¬ n<0)(p:¬ 20<n)(c:Int)(hk:Go.Proofs.YthghjlinhokimaaGreatDoor.chkIn l 0=c)(q:c≠0)(hp:Calls prog 19 #[.slice a1 l1.length c1,.slice a2 l2.length c2,v,.int .i64 n] w λe w'=>e=.returned (.tuple #[.agg (D aE aM).toArray,.agg Tp.nil3.toArray,.int .i64 c])/\Below w.heap.size w w'):Calls prog 5 #[.slice a1 l1.length c1,.slice a2 l2.length c2,v,.int .i64 n,.int .i64 which] w λe w'=>e=.returned (.bool true)/\Below w.heap.size w w':=by
 have N:=hid Z;have P:=hid m;have HP:=hid hp;have q1:¬ (1024:Int)<l1.length:=by omega
 have q2:¬ (1024:Int)<l2.length:=by omega
 have q3:decide (n<0)=false:=aF o;have q4:¬ 20<n:=p;have hne:(c != 0)=true:=by simpa using q
 have R:=hid hk;clear hk q;clear Z m hp hc M o p;go_enter func5,ntmps5;go_wp2_with (first
  | (go_at_call 14;refine(Lk.sameShown (.slice none 0 0) (.slice none 0 0) (.slice none 0 0) (.slice none 0 0) (.slice none 0 0) (.slice none 0 0) [] [] [] _ b.out.r.sh (oE _) (by simp) (by simp)).mono ?_;rintro e w7 ⟨rfl,T⟩;have V:=hid (bn b.out.low T))
  | (go_at_call 13;have W:=d;refine(sW _).mono ?_;rintro e w6 ⟨rfl,t⟩;have b:=hid (d.out.kept t);have k0:=b.out.r.r.s.at 0 _ U;have k1:=b.out.r.r.s.at 1 _ U;have k2:=b.out.r.r.s.at 2 _ U;have kz:=b.out.r.r.s.z;clear t W)
  | (refine Bu.loadG U 41 _ U w1.heap.size 0 U (D aE aM) _ d.out.r.r.x.c underlying41 U bV ?_)
  | (go_at_call 22;have f:=g.out;clear f;refine(Tp.taped _ g.out.tf).mono ?_;rintro e w5 ⟨rfl,u⟩;have d:=hid (g.out.kept u);clear u)
  | (go_at_call 22;have f:=h.out;clear f;refine(Tp.taped _ h.out.tf).mono ?_;rintro e w4 ⟨rfl,y⟩;have g:=hid (h.out.kept y);clear y)
  | (go_at_call 21;refine(Lk.rcheck l v _ 0 _ (i.out.inp.mono i.out.low.size) (ak _)).mono ?_;rw[R.out];rintro e w3 ⟨rfl,B⟩;have h:=hid (i.out.kept B);clear B)
  | (go_at_call 20;refine(rE (.slice none 0 0) (.slice none 0 0) (.slice none 0 0) [] which _ ⟨U,Or.inl ⟨U,none,0,U⟩⟩ (by decide)).mono ?_;rw[(pJ which).1,(pJ which).2];rintro e w2 ⟨u2,rfl,E,H⟩;obtain⟨ua,uc,rfl⟩:=oG E;have i:=hid (X.out.kept H);clear E H g0 g1 g2 gz)
  | (refine wpList_store_mid U 47 _ _ U (w1.heap.size+1) 0 #[.slice none 0 0,.slice none 0 0,.slice none 0 0] U U (I.out.s.there 0 3 (by simp)) jK (jO _ _ _ _ _ _ _ _ _) ?_
     refine Pl.cutL (R3 w1 aE aM [.slice none 0 0,.slice none 0 0,.slice none 0 0]) I.out.put ?_;intro Y a;have X:Hid (Tp.Pb w w1 v l Y):=hid ⟨bn j.out a.old,⟨a,qD Y,oE Y⟩,HIN1.out.kept (a.old.mono j.out.size),(N.out.kept j.out).kept a.old⟩;have g0:=a.s.at 0 _ U;have g1:=a.s.at 1 _ U;have g2:=a.s.at 2 _ U;have gz:=a.s.z;clear a)
  | (refine wpList_store_mid U 41 _ _ U w1.heap.size 0 (D aE aM).toArray U U (R3.th1 w1) bV (fG _ _ oM) ?_
     refine Pl.cutL (R3 w1 aE aM nil3) (R3.mk1 w1 aE aM) ?_;intro Y1 L;have I:=hid L;clear L)
  | (go_at_call 19;refine HP.out.mono ?_;rintro e w1 ⟨rfl,k⟩;have j:=hid k;have HIN1:=hid (P.out.kept k);clear k))
 go_ret;exact⟨U,V.out⟩
end Go.Proofs.YthghjlinhokimaaGreatDoor
