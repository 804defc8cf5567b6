/-
  Parts of a proof, joined.
-/
import Derived.Test.YthghjlinhokimaaGreatDoorZcA
import Derived.Test.YthghjlinhokimaaGreatDoorZcLockRun02
import Derived.Test.YthghjlinhokimaaGreatDoorZc35
set_option linter.all false
set_option maxRecDepth 100000
set_option maxHeartbeats 3200000
namespace Go.Proofs.YthghjlinhokimaaGreatDoor
open Go.ChangeShapes Go.WideShapes Go.ChangeAt Go.RowKit Go.Proofs.Tryz
def strsAt(w:World)(g:Nat)(ps:List S.By):Prop:=∀(j:Nat) (s:S.By),ps[j]?=some s->w.cell? ⟨g,j,none⟩=some (.string (aT s))
theorem strsAt.kept{w w':World}{g B:Nat}{ps:List S.By}(h:strsAt w g ps)(hb:Below B w w')(hB:g<B):strsAt w' g ps:=λj s a=>(hb.cell hB).trans (h j s a)
theorem zdU{a:S.By}{ps:List S.By}{ln:Nat}{st b:S.St}(h:S.readOrder a ps ln st=.ok b):∃ k o nm,S.opOf a=some k/\k<32/\k≠30/\ps.length=(S.parts k).length/\S.readParts (S.parts k) ps S.Ord.zero []=some (o,nm)/\O.okB k o.d o.s o.n o.w=true/\S.put (O.words k o.d o.s o.n o.w) nm ln st=.ok b:=by
 unfold S.readOrder at h;split at h
 ·cases h
 ·rename_i k f
  have g:=dP f;have hp:=jy f;have c:k<32:=by simpa using g
  have e:k≠30:=by simp at hp;exact hp.1
  split at h
  ·rename_i i
   split at h
   ·cases h
   ·rename_i o nm j
    split at h
    ·rename_i hc
     refine⟨k,o,nm,f,c,e,i,j,?_,h⟩;unfold O.ck at hc;rw[(O.isOp_iff _).2 ⟨by omega,by omega,by omega⟩,bH] at hc;cases hb:O.okB k o.d o.s o.n o.w
     ·rw[hb] at hc;simp at hc
     ·rfl
    ·cases h
  ·cases h
theorem drop_at{α:Type}{l:List α}{j:Nat}{x:α}(h:l[j]?=some x):l.drop j=x::l.drop (j+1):=by
 obtain⟨a,e⟩:=aA.1 h;rw[cf a,e]
theorem zgk{k j p:Nat}{ps:List S.By}{s:S.By}{o:S.Ord}{nm:S.By}{r:S.Ord × S.By}(hp:(S.parts k)[j]?=some p)(b:ps[j]?=some s)(h:S.readParts ((S.parts k).drop j) (ps.drop j) o nm=some r):∃ x,S.readPart p s o nm=some x/\S.readParts ((S.parts k).drop (j+1)) (ps.drop (j+1)) x.1 x.2=some r:=by
 rw[drop_at hp,drop_at b] at h;simp only[S.readParts] at h;cases a:S.readPart p s o nm with
 | none=>rw[a] at h;cases h
 | some x=>rw[a] at h;exact⟨x,U,h⟩
theorem zuY(s:ByteArray)(v:Int)(h:S.reg (bs s)=some v)(w:World):Calls prog 331 #[.string s] w λe w'=>e=.returned (.tuple #[.int .i64 v,.bool true])/\w=w':=by
 have:=zeP s w;rw[h] at this;exact this.mono λe w' a=>⟨a.1,a.2.symm⟩
theorem zhY(p:Option Addr)(v:Int)(w:World):Calls prog 329 #[.pointer p,.int .i64 v,.bool true] w λe w'=>e=.returned (.int .i64 v)/\w=w':=(znj p v w).mono λe w' a=>⟨a.1,a.2.symm⟩
theorem zxe(g:Nat)(w:World):Calls prog 328 #[.int .i64 0,.pointer (some ⟨g,0,none⟩)] w λe w'=>e=.returned (.pointer (some ⟨g,1,none⟩))/\w=w':=(pW g w).mono λe w' a=>⟨a.1,a.2.symm⟩
theorem zxf(g:Nat)(w:World):Calls prog 328 #[.int .i64 1,.pointer (some ⟨g,0,none⟩)] w λe w'=>e=.returned (.pointer (some ⟨g,2,none⟩))/\w=w':=(pX g w).mono λe w' a=>⟨a.1,a.2.symm⟩
theorem zxg(g:Nat)(w:World):Calls prog 328 #[.int .i64 2,.pointer (some ⟨g,0,none⟩)] w λe w'=>e=.returned (.pointer (some ⟨g,4,none⟩))/\w=w':=(pY g w).mono λe w' a=>⟨a.1,a.2.symm⟩
theorem zxh(g:Nat)(w:World):Calls prog 328 #[.int .i64 3,.pointer (some ⟨g,0,none⟩)] w λe w'=>e=.returned (.pointer (some ⟨g,3,none⟩))/\w=w':=(pZ g w).mono λe w' a=>⟨a.1,a.2.symm⟩
theorem zvz(k:Nat)(o:S.Ord)(p:Nat)(hp:p<4)(v:Int):(jS k o).setIfInBounds (oP p) (.int .i64 v)=jS k (o.set p v):=by
 have hc:p=0 \/ p=1 \/ p=2 \/ p=3:=by omega
 rcases hc with rfl|rfl|rfl|rfl <;> rfl
def kw(w:World)(g k:Nat)(o:S.Ord):Prop:=w.heap[g]?=some (.cells (jS k o) 191 (0,0))
theorem kw.kept{w w':World}{g k:Nat}{o:S.Ord}(h:kw w g k o)(hb:Below w.heap.size w w'):kw w' g k o:=(hb.block g (ay.1 h).1).trans h
theorem kw.lt{w:World}{g k:Nat}{o:S.Ord}(h:kw w g k o):g<w.heap.size:=(ay.1 h).1
theorem kw.frozen{w:World}{g k:Nat}{o:S.Ord}(h:kw w g k o)(i:Nat):w.frozen? ⟨g,i,none⟩=false:=Lib.frozen_of_heap h i
theorem kw.cell{w:World}{g k:Nat}{o:S.Ord}(h:kw w g k o)(i:Nat):w.cell? ⟨g,i,none⟩=(jS k o)[i]?:=Lib.cell_of_heap h i
theorem kw.set{w:World}{g k:Nat}{o:S.Ord}(h:kw w g k o)(p:Nat)(hp:p<4)(v:Int):kw (w.setCell ⟨g,oP p,none⟩ (.int .i64 v)) g k (o.set p v):=by
 unfold kw;rw[zbG h,zvz k o p hp v]
theorem zjm{w:World}{mo:Nat}(h:ii w mo (gA 32))(c:S.By)(k:Nat)(a:S.opOf c=some k):(Instr.lookup 216 (.map (some mo)) (.string (aT c)) true).run prog w=.ok (.tuple #[.int .i64 k,.bool true]) w:=by
 have:=zhT (P:=prog) underlying216 underlying9 h (aT c) (zhX w);rw[zsW,nH,a] at this;exact this
theorem zsY{k:Nat}(f:k<32){o:S.Ord}(b:O.okB k o.d o.s o.n o.w=true):∀ x∈O.words k o.d o.s o.n o.w,0<=x/\x<=65535:=by
 obtain⟨b1,b2,b3,e⟩:=O.ok_bd b;have c:=O.first_bd (op:=(k:Int)) (n:=o.n) ⟨by omega,by omega⟩ b1 b2;intro x a;unfold O.words at a;split at a
 ·simp at a;rcases a with rfl|rfl
  ·exact c
  ·exact e
 ·simp at a;subst a;exact c
theorem zjn(k:Nat)(o:S.Ord):0<(O.words k o.d o.s o.n o.w).length:=by unfold O.words;split <;> simp
theorem mW(w:World)(B b mo mp:Nat)(ua ra:Option Addr)(uc rc:Nat)(st a:S.St)(ln:Nat)(i:Rd w B b mo mp ua uc ra rc st ln)(w2:World)(c:Below w.heap.size w w2)(g:Nat)(m:w.heap.size<=g)(p:g<w2.heap.size)(k:Nat)(q:k<32)(o:S.Ord)(j:O.okB k o.d o.s o.n o.w=true)
 (r:wordsAt w2 g (O.words k o.d o.s o.n o.w)) (nm:S.By) (t:S.put (O.words k o.d o.s o.n o.w) nm ln st=.ok a) (l:B<=w.heap.size) (f:st.uses.length+1<=1000000) :
 Calls prog 326 #[.pointer (some ⟨b,0,none⟩),.slice (some ⟨g,0,none⟩) (O.words k o.d o.s o.n o.w).length (O.words k o.d o.s o.n o.w).length,.string (aT nm)] w2 λe w' =>
  e=.returned (.tuple #[])/\(∃ ua' uc' ra' rc',Rd w' B b mo mp ua' uc' ra' rc' a ln)/\Below B w2 w':=by
 have u:=i.lt;refine zp4 w2 B b mo mp ua ra uc rc st a ln (i.kept c) g _ _ nm t r p (λh=>?_) (by omega) (zsY q j) (zjn k o) (ak _) (ax l c.size) f;have:=(i.rom.lt _ h).2;omega
theorem zjo(k:Nat)(f:k<32)(b:k≠30)(o:S.Ord)(a:O.okB k o.d o.s o.n o.w=true)(w:World)(c:aZ w):Calls prog 272 #[.agg #[.int .i64 k,.int .i64 o.d,.int .i64 o.s,.int .i64 o.n,.int .i64 o.w]] w λe w' =>
  ∃ g,e=.returned (.tuple #[.slice (some ⟨g,0,none⟩) (O.words k o.d o.s o.n o.w).length (O.words k o.d o.s o.n o.w).length,.int .i64 0])/\wordsAt w' g (O.words k o.d o.s o.n o.w)/\w.heap.size<=g/\g<w'.heap.size/\Below w.heap.size w w' :=
 zjc k o.d o.s o.n o.w ((O.isOp_iff _).2 ⟨by omega,by omega,by omega⟩) a w c
theorem zk5(w:World)(B b mo mp:Nat)(ua ra:Option Addr)(uc rc:Nat)(st f:S.St)(ln:Nat)(h:Rd w B b mo mp ua uc ra rc st ln)(a:S.By)(k:Nat)(j:S.opOf a=some k)(s:k<32)(l:k≠30)(hp:S.parts k=[])(nm:S.By)(d:S.put (O.words k 0 0 0 0) [] ln st=.ok f)(m:O.okB k 0 0 0 0=true)(a0:Option Addr)(c0:Nat)(o:B<=w.heap.size)(p:st.uses.length+1<=1000000)(z:AF w):Calls prog 260 #[.pointer (some ⟨b,0,none⟩),.string (aT a),.slice a0 0 c0] w λe w' =>
  e=.returned (.tuple #[])/\(∃ ua' uc' ra' rc',Rd w' B b mo mp ua' uc' ra' rc' f ln)/\Below B w w':=by
 have H:=zjm h.ops a k j;have I:w.cell? ⟨b,0,none⟩=some (.map (some mo)):=h.cell 0;have L:=h.lt;have M:=hid h;have N:=hid hp;have E:=hid z;have HPUT:=hid d;have q:=hid m;clear h hp z d j m;go_enter func260,ntmps260;go_wp2_with (go_at_call 327;refine(zje k s l N.out _ E.out.shapes).mono ?_;rintro e w1 ⟨a1,F,rfl,c⟩)
 go_loop [10,42] (λn i=>n=.string ⟨#[]⟩/\i=.int .i64 0) (λ_ _=>0)
 case atStart=>exact⟨U,U⟩
 case round =>
  obtain⟨rfl,rfl⟩:=hrel;go_wp2_with (first
   | (go_at_call 272;refine(zjo k s l S.Ord.zero q.out _ (nB (E.out.kept c) _).shapes).mono ?_;rintro e w2 ⟨g,rfl,t,u,v,r⟩)
   | (go_at_call 326;refine(mW _ B b mo mp ua ra uc rc st f ln (M.out.kept (stA c (.cells #[.int .i64 k,.int .i64 0,.int .i64 0,.int .i64 0,.int .i64 0] 191))) w2 r g u v k s S.Ord.zero q.out t [] HPUT.out (ax o (stA c (.cells #[.int .i64 k,.int .i64 0,.int .i64 0,.int .i64 0,.int .i64 0] 191)).size) p).mono ?_;rintro e P ⟨rfl,x,y⟩))
  go_end0;exact⟨U,x,(bB o (bn (stA c _) r)).trans y⟩
theorem zk7(w:World)(B b mo mp:Nat)(ua ra:Option Addr)(uc rc:Nat)(st M:S.St)(ln:Nat)(N:Rd w B b mo mp ua uc ra rc st ln)(f:S.By)(k:Nat)(P:S.opOf f=some k)(hk:k<32)(R:k≠30)(hp:0<(S.parts k).length)(m:S.Ord)(r:S.By)(ps:List S.By)(hpl:ps.length=(S.parts k).length)(T:∀ s∈ps,s.length<=4000)(V:S.readParts (S.parts k) ps S.Ord.zero []=some (m,r))(W:O.okB k m.d m.s m.n m.w=true)
 (L:S.put (O.words k m.d m.s m.n m.w) r ln st=.ok M) (X cp:Nat) (hcp:(S.parts k).length<=cp) (hgp:X<w.heap.size) (Y:strsAt w X ps) (Z:B<=w.heap.size) (hul0:st.uses.length+1<=1000000) (hF:AF w) :
 Calls prog 260 #[.pointer (some ⟨b,0,none⟩),.string (aT f),.slice (some ⟨X,0,none⟩) (S.parts k).length cp] w λe w' =>
  e=.returned (.tuple #[])/\(∃ ua' uc' ra' rc',Rd w' B b mo mp ua' uc' ra' rc' M ln)/\Below B w w':=by
 have hlk:=zjm N.ops f k P;have hc0:w.cell? ⟨b,0,none⟩=some (.map (some mo)):=N.cell 0;have hlt:=N.lt;have HR:=hid N;have HF0:=hid hF;have HPUT:=hid L;have HOK:=hid W;have HPS:=hid T;have HSP:=hid Y;have HRP:=hid V;have h4:=ze7 k;clear N hF L P W T Y V;go_enter func260,ntmps260;go_wp2_with (go_at_call 327;refine(zjf k hk R hp _ HF0.out.shapes).mono ?_;rintro e w1 ⟨g1,cap1,rfl,hpa,hg1,hg1',hcap1,t⟩)
 have HF:=hid (HF0.out.kept t);have HR1:=hid (HR.out.kept t);have HSP1:=hid (HSP.out.kept t hgp);have hPA:=hid hpa;have hsz1:=t.size;clear hpa;go_loopw [10,42] (λn i wr=>∃(j:Nat) (o:S.Ord) (nm:S.By),j<=(S.parts k).length/\i=.int .i64 j/\n=.string (aT nm)/\S.readParts ((S.parts k).drop j) (ps.drop j) o nm=some (m,r)/\kw wr w1.heap.size k o/\Below w1.heap.size w1 wr) (λ_ i _=>(S.parts k).length-(intOf i).toNat)
 case atStart=>exact⟨0,S.Ord.zero,[],by omega,U,U,HRP.out,aJ w1 _,stA (J _) _⟩
 case round =>
  obtain⟨j,o,nm,hj,rfl,rfl,u,l,a⟩:=hrel;have hszr:=a.size;have l:=hid l;by_cases hlt2:j<(S.parts k).length
  ·obtain⟨p,E⟩:∃ p,(S.parts k)[j]?=some p:=⟨_,au hlt2⟩
   obtain⟨s,F⟩:∃ s,ps[j]?=some s:=⟨_,au (by omega)⟩
   obtain⟨x,c,v⟩:=zgk E F u;have hp4:=znc E;have hsl:=HPS.out s (bh F);have cs:wr.cell? ⟨X,j,none⟩=some (.string (aT s)):=(HSP1.out.kept a (by omega)) j s F;have ck:wr.cell? ⟨g1,j,none⟩=some (.int .i64 p):=(hPA.out.kept a hg1') j p E;have hgpr:X<wr.heap.size:=by omega
   have hg1r:g1<wr.heap.size:=by omega
   have hjI:(j:Int)<(S.parts k).length:=by omega
   have H:=hid v;clear u v E F;have hc:p=0 \/ p=1 \/ p=2 \/ p=3:=by omega
   clear hp4;rcases hc with rfl|rfl|rfl|rfl
   ·obtain⟨y,I,rfl⟩:∃ y,S.reg s=some y/\x=(o.set 0 y,nm):=by
     simp only[S.readPart,show ¬ (0:Nat)=2 by omega,show ¬ (0:Nat)=3 by omega,dt] at c;cases z:S.reg s with
     | none=>rw[z] at c;cases c
     | some y=>rw[z] at c;exact⟨y,U,(aH c).symm⟩
    have HY:=hid I;have f2:=l.out.frozen 1;have z2:=l.out.lt;have d2:wr.cell? ⟨w1.heap.size,1,none⟩=some (.int .i64 o.d):=l.out.cell 1;clear I;clear c;go_wp2_with (first
     | (go_at_call 328;refine(zxe _ _).mono ?_;rintro e w' ⟨rfl,rfl⟩)
     | (go_at_call 331;refine(zuY (aT s) y HY.out _).mono ?_;rintro e w' ⟨rfl,rfl⟩)
     | (go_at_call 329;refine(zhY _ y _).mono ?_;rintro e w' ⟨rfl,rfl⟩))
    go_roundw
    case rel=>exact⟨j+1,o.set 0 y,nm,by omega,by go_num,U,H.out,(l.out.set 0 (by omega) y),a.setCell (ak _) _⟩
    case measure=>simp[intOf];omega
   ·obtain⟨y,I,rfl⟩:∃ y,S.reg s=some y/\x=(o.set 1 y,nm):=by
     simp only[S.readPart,show ¬ (1:Nat)=2 by omega,show ¬ (1:Nat)=3 by omega,dt] at c;cases z:S.reg s with
     | none=>rw[z] at c;cases c
     | some y=>rw[z] at c;exact⟨y,U,(aH c).symm⟩
    have HY:=hid I;have f2:=l.out.frozen 2;have z2:=l.out.lt;have d2:wr.cell? ⟨w1.heap.size,2,none⟩=some (.int .i64 o.s):=l.out.cell 2;clear I;clear c;go_wp2_with (first
     | (go_at_call 328;refine(zxf _ _).mono ?_;rintro e w' ⟨rfl,rfl⟩)
     | (go_at_call 331;refine(zuY (aT s) y HY.out _).mono ?_;rintro e w' ⟨rfl,rfl⟩)
     | (go_at_call 329;refine(zhY _ y _).mono ?_;rintro e w' ⟨rfl,rfl⟩))
    go_roundw
    case rel=>exact⟨j+1,o.set 1 y,nm,by omega,by go_num,U,H.out,(l.out.set 1 (by omega) y),a.setCell (ak _) _⟩
    case measure=>simp[intOf];omega
   ·obtain⟨y,I,rfl⟩:∃ y,S.wordOrName s=some y/\x=(o.set 2 y.1,y.2):=by
     simp only[S.readPart,dL] at c;cases z:S.wordOrName s with
     | none=>rw[z] at c;cases c
     | some y=>rw[z] at c;exact⟨y,U,(aH c).symm⟩
    have HC:=hid (zdT (some ⟨b,0,none⟩) (aT s) y (by rw[pL];omega) I wr (HF.out.kept a));clear c;go_wp2_with (first
     | (go_at_call 328;refine(zxg _ _).mono ?_;rintro e w' ⟨rfl,rfl⟩)
     | (go_at_call 325;refine HC.out.mono ?_;rintro e w2 ⟨rfl,q⟩;have h:=hid (l.out.kept q);have f2:=h.out.frozen 4;have z2:=h.out.lt;have d2:w2.cell? ⟨w1.heap.size,4,none⟩=some (.int .i64 o.w):=h.out.cell 4))
    go_roundw
    case rel=>exact⟨j+1,o.set 2 y.1,y.2,by omega,by go_num,U,H.out,(h.out.set 2 (by omega) y.1),(bn a q).setCell (ak _) _⟩
    case measure=>simp[intOf];omega
   ·obtain⟨y,I,rfl⟩:∃ y,S.num s=some y/\x=(o.set 3 y,nm):=by
     simp only[S.readPart,show ¬ (3:Nat)=2 by omega,dt,dL] at c;cases z:S.num s with
     | none=>rw[z] at c;cases c
     | some y=>rw[z] at c;exact⟨y,U,(aH c).symm⟩
    have HC:=hid (zjj (aT s) y (by rw[pL];omega) I wr (HF.out.kept a));clear c;go_wp2_with (first
     | (go_at_call 328;refine(zxh _ _).mono ?_;rintro e w' ⟨rfl,rfl⟩)
     | (go_at_call 330;refine HC.out.mono ?_;rintro e w2 ⟨rfl,q⟩;have h:=hid (l.out.kept q);have f2:=h.out.frozen 3;have z2:=h.out.lt;have d2:w2.cell? ⟨w1.heap.size,3,none⟩=some (.int .i64 o.n):=h.out.cell 3)
     | (go_at_call 329;refine(zhY _ y _).mono ?_;rintro e w' ⟨rfl,rfl⟩))
    go_roundw
    case rel=>exact⟨j+1,o.set 3 y,nm,by omega,by go_num,U,H.out,(h.out.set 3 (by omega) y),(bn a q).setCell (ak _) _⟩
    case measure=>simp[intOf];omega
  ·have hjn:j=(S.parts k).length:=by omega
   subst hjn;rw[di,<- hpl,di] at u;have hrd':(o,nm)=(m,r):=aH u;cases hrd';have e0:wr.cell? ⟨w1.heap.size,0,none⟩=some (.int .i64 k):=l.out.cell 0;have e1:wr.cell? ⟨w1.heap.size,1,none⟩=some (.int .i64 m.d):=l.out.cell 1;have e2:wr.cell? ⟨w1.heap.size,2,none⟩=some (.int .i64 m.s):=l.out.cell 2;have e3:wr.cell? ⟨w1.heap.size,3,none⟩=some (.int .i64 m.n):=l.out.cell 3;have e4:wr.cell? ⟨w1.heap.size,4,none⟩=some (.int .i64 m.w):=l.out.cell 4;have z0:=l.out.lt;clear u;go_wp2_with (first
    | (go_at_call 272;refine(zjo k hk R m HOK.out _ (HF.out.kept a).shapes).mono ?_;rintro e w2 ⟨g,rfl,hw2,hg0,hg2,q⟩)
    | (go_at_call 326;refine(mW wr B b mo mp ua ra uc rc st M ln (HR1.out.kept a) w2 q g hg0 hg2 k hk m HOK.out hw2 r HPUT.out (ax Z (ax hsz1 hszr)) hul0).mono ?_;rintro e w3 ⟨rfl,hR3,hb3⟩))
   go_end0;exact⟨U,hR3,(bB Z (bn (bn t a) q)).trans hb3⟩
theorem zhZ(l a:S.By)(g:l.length<=10000)(w:World)(b:AF w):Calls prog 53 #[.string (aT l),.string (aT a)] w λe w'=>e=.returned (.tuple #[.string (aT (Lib.cut l a).1),.string (aT (Lib.cut l a).2.1),.bool (Lib.cut l a).2.2])/\Below w.heap.size w w':=by
 obtain⟨m,c⟩:=b.len;refine(Tryz.strings_Cut (aT l) (aT a) m w (by rw[pL];omega) c).mono λe w' ⟨d,n,f⟩=>⟨d,?_⟩
 subst f;exact oH (J w) n
theorem zbH(l a:S.By)(c:l.length<=10000)(w:World):Calls prog 257 #[.string (aT l),.string (aT a)] w λe w'=>e=.returned (.tuple #[.string (aT (Lib.trimSuffix l a)),.bool (Lib.hasSuffix l a)])/\w=w' :=
 (Tryz.strings_CutSuffix (aT l) (aT a) w (by rw[pL];omega)).mono λe w' b=>⟨b.1,b.2.symm⟩
theorem zh0(l a:S.By):(Lib.cut l a).1.length<=l.length/\(Lib.cut l a).2.1.length<=l.length:=by
 unfold Lib.cut;split
 ·simp;omega
 ·simp
theorem zev(a:S.By):∀(k:Nat) (s:S.By),∀ p∈Lib.splitK a 0 k s,p.length<=s.length
 | 0,s,p,h=>by simp[Lib.splitK] at h;subst h;exact ak _
 | k+1,s,p,h=>by
  unfold Lib.splitK at h;split at h
  ·simp at h;subst h;exact ak _
  ·rcases aV.1 h with h|h
   ·subst h;simp;omega
   ·have:=zev a k _ p h
    simp at this;omega
theorem zn7(a:S.By)(k:Nat)(s:S.By):0<(Lib.splitK a 0 k s).length:=by
 cases k with
 | zero=>simp[Lib.splitK]
 | succ k=>unfold Lib.splitK;split <;> simp
theorem zg1(rest:S.By)(n:rest.length<=10000)(w:World)(g:AF w):Calls prog 169 #[.string (aT rest),.string ⟨#[44,32]⟩] w λe w'=>e=.returned (.slice (some ⟨w.heap.size,0,none⟩) (Lib.split rest S.comma).length (Lib.split rest S.comma).length)/\strsAt w' w.heap.size (Lib.split rest S.comma)/\w.heap.size<w'.heap.size/\Below w.heap.size w w':=by
 obtain⟨m,h⟩:=g.len;have i:=Lib.splitB_data (aT S.comma) 0 (Lib.countB (aT rest) (aT S.comma)) (aT rest);have hc:Lib.countB (aT rest) (aT S.comma)=Lib.count rest S.comma:=U;have a:=Lib.splitB_all (aT S.comma) (by decide) 0 _ (aT rest) U;have b:(Lib.splitB (aT S.comma) 0 (Lib.countB (aT rest) (aT S.comma)) (aT rest)).map bs=Lib.split rest S.comma:=i;have d:(Lib.split rest S.comma).length=Lib.countB (aT rest) (aT S.comma)+1:=by rw[<- b,ba,a]
 refine(Tryz.strings_Split (aT rest) (aT S.comma) m w (by rw[pL];omega) h (by decide)).mono λe w' ⟨k,l⟩=>?_
 subst l;refine⟨by rw[k,d],λj s c=>?_,by simp,stA (J _) _⟩;rw[jb _ _ _ _ U,bw,aX];rw[<- b,aX] at c;cases f:(Lib.splitB (aT S.comma) 0 (Lib.countB (aT rest) (aT S.comma)) (aT rest))[j]? with
 | none=>rw[f] at c;cases c
 | some x =>
  rw[f] at c;cases c;simp[mk_bs]
theorem zdx(l:S.By):(aT l).toList=l:=by rw[Lib.toList_data];rfl
def jR(w:World)(B b mo mp:Nat)(a:S.St)(ln:Nat)(e:Ending)(w':World):Prop:=e=.returned (.tuple #[])/\(∃ ua' uc' ra' rc',Rd w' B b mo mp ua' uc' ra' rc' a ln)/\Below B w w'
theorem zjp(w:World)(B b mo mp:Nat)(ua ra:Option Addr)(uc rc:Nat)(st c:S.St)(ln:Nat)(j:Rd w B b mo mp ua uc ra rc st ln)(a:S.By)(ps:List S.By)(f:∀ s∈ps,s.length<=4000)(l:S.readOrder a ps ln st=.ok c)(m:0<ps.length)(e:Nat)(g:e<w.heap.size)(h:strsAt w e ps)(i:B<=w.heap.size)(d:st.uses.length+1<=1000000)(n:AF w):Calls prog 260 #[.pointer (some ⟨b,0,none⟩),.string (aT a),.slice (some ⟨e,0,none⟩) ps.length ps.length] w (jR w B b mo mp c ln):=by
 obtain⟨k,o,nm,h1,h2,h3,h4,p,q,r⟩:=zdU l;have:=zk7 w B b mo mp ua ra uc rc st c ln j a k h1 h2 h3 (by omega) o nm ps h4 f p q r e ps.length (by omega) g h i d n;rw[<- h4] at this;exact this
theorem zh1(w:World)(B b mo mp:Nat)(ua ra:Option Addr)(uc rc:Nat)(st c:S.St)(ln:Nat)(h:Rd w B b mo mp ua uc ra rc st ln)(a:S.By)(i:S.readOrder a [] ln st=.ok c)(f:B<=w.heap.size)(d:st.uses.length+1<=1000000)(j:AF w):Calls prog 260 #[.pointer (some ⟨b,0,none⟩),.string (aT a),.slice none 0 0] w (jR w B b mo mp c ln):=by
 obtain⟨k,o,nm,h1,h2,h3,h4,g,l,m⟩:=zdU i;have hp:S.parts k=[]:=bv.1 (by simpa using h4.symm);rw[hp] at g;have e:(S.Ord.zero,([]:S.By))=(o,nm):=aH g;cases e;exact zk5 w B b mo mp ua ra uc rc st c ln h a k h1 h2 h3 hp [] m l none 0 f d j
theorem zk8(w:World)(B b mo mp:Nat)(ua ra:Option Addr)(uc rc:Nat)(st a:S.St)(ln:Nat)(j:Rd w B b mo mp ua uc ra rc st ln)(ps:List S.By)(c:∀ s∈ps,s.length<=4000)(d:S.readWord ps ln st=.ok a)(g:Nat)(h:g<w.heap.size)(e:strsAt w g ps)(i:B<=w.heap.size)(f:st.uses.length+1<=1000000)(k:AF w):Calls prog 259 #[.pointer (some ⟨b,0,none⟩),.slice (some ⟨g,0,none⟩) ps.length ps.length] w (jR w B b mo mp a ln):=by
 match ps,c,d,e with
 | [p],c,d,e=>exact zk4 w B b mo mp ua ra uc rc st a ln j g 1 p (c p (by simp)) (e 0 p U) h (by omega) d i f k
 | [],_,d,_=>cases d
 | _::_::_,_,d,_=>cases d
theorem zgl(w:World)(B b mo mp:Nat)(ua ra:Option Addr)(uc rc:Nat)(st a:S.St)(ln:Nat)(g:Rd w B b mo mp ua uc ra rc st ln)(l:S.By)(k:l.length<=4000)(hc:Lib.hasSuffix l [58]=true)(h:S.readPlace (Lib.trimSuffix l [58]) st=.ok a)(c:B<=w.heap.size):Calls prog 208 #[.pointer (some ⟨b,0,none⟩),.string (aT l)] w (jR w B b mo mp a ln):=by
 have i:=hid (zbH l [58] (by omega) w);rw[hc] at i;have j:=hid (zjl w B b mo mp ua ra uc rc st a ln g _ h c);clear g h hc;go_enter func208,ntmps208;go_wp2_with (first
  | (go_at_call 257;refine i.out.mono ?_;rintro e w' ⟨rfl,rfl⟩)
  | (go_at_call 258;refine j.out.mono ?_;rintro e w1 ⟨rfl,d,f⟩))
 first|go_end0|refine ao (jo U _ _ _) U ?_
 exact⟨U,d,f⟩
theorem zh2(w:World)(B b mo mp:Nat)(ua ra:Option Addr)(uc rc:Nat)(st d:S.St)(ln:Nat)(u:Rd w B b mo mp ua uc ra rc st ln)(l:S.By)(N:l.length<=4000)(hc:Lib.hasSuffix l [58]=false)(v:(Lib.cut l [32]).1=S.plain)(H:(Lib.cut l [32]).2.1≠[])
 (x:S.readWord (Lib.split (Lib.cut l [32]).2.1 S.comma) ln st=.ok d) (g:B<=w.heap.size) (i:st.uses.length+1<=1000000) (m:AF w) :
 Calls prog 208 #[.pointer (some ⟨b,0,none⟩),.string (aT l)] w (jR w B b mo mp d ln):=by
 have y:=hid (zbH l [58] (by omega) w);rw[hc] at y;have z:=hid (zhZ l [32] (by omega) w m);have E:=(zh0 l [32]).2;have n:Hid (∀ w1,AF w1->_):=λw1 o=>zg1 (Lib.cut l [32]).2.1 (by omega) w1 o
 have P:(aT (Lib.cut l [32]).2.1).toList.isEmpty=false:=by rw[rh];cases h:(Lib.cut l [32]).2.1 <;> simp_all
 rw[v] at z;have j:∀ s∈Lib.split (Lib.cut l [32]).2.1 S.comma,s.length<=4000:=λs I=>by have:=zev _ _ _ s I;omega
 have L:=hid u;have F:=hid m;have M:=hid x;have p:=hid j;generalize f:(Lib.cut l [32]).2.1=rest at *;clear u x hc m v j f H;have R:((aT S.plain).toList == [46,119,111,114,100])=true:=by rw[zdx];rfl
 go_enter func208,ntmps208;go_wp2_with (first
  | (go_at_call 257;refine y.out.mono ?_;rintro e w' ⟨rfl,rfl⟩)
  | (go_at_call 53;refine z.out.mono ?_;rintro e w1 ⟨rfl,a⟩)
  | (go_at_call 169;refine(n.out _ (F.out.kept a)).mono ?_;rintro e w2 ⟨rfl,k,q,c⟩)
  | (go_at_call 259;refine(zk8 w2 B b mo mp ua ra uc rc st d ln (L.out.kept (bn a c)) _ p.out M.out w1.heap.size q k (ax g (bn a c).size) i (F.out.kept (bn a c))).mono ?_;rintro e T ⟨rfl,r,t⟩))
 first|go_end0|refine ao (jo U _ _ _) U ?_
 exact⟨U,r,(bB g (bn a c)).trans t⟩
theorem zgm(w:World)(B b mo mp:Nat)(ua ra:Option Addr)(uc rc:Nat)(st f:S.St)(ln:Nat)(x:Rd w B b mo mp ua uc ra rc st ln)(l:S.By)(R:l.length<=4000)(hc:Lib.hasSuffix l [58]=false)(y:(Lib.cut l [32]).1≠S.plain)(I:(Lib.cut l [32]).2.1≠[])
 (z:S.readOrder (Lib.cut l [32]).1 (Lib.split (Lib.cut l [32]).2.1 S.comma) ln st=.ok f) (i:B<=w.heap.size) (j:st.uses.length+1<=1000000) (o:AF w) :
 Calls prog 208 #[.pointer (some ⟨b,0,none⟩),.string (aT l)] w (jR w B b mo mp f ln):=by
 have E:=hid (zbH l [58] (by omega) w);rw[hc] at E;have L:=hid (zhZ l [32] (by omega) w o);have F:=(zh0 l [32]).2;have p:Hid (∀ w1,AF w1->_):=λw1 q=>zg1 (Lib.cut l [32]).2.1 (by omega) w1 q
 have T:(aT (Lib.cut l [32]).2.1).toList.isEmpty=false:=by rw[rh];cases h:(Lib.cut l [32]).2.1 <;> simp_all
 have V:((aT (Lib.cut l [32]).1).toList == [46,119,111,114,100])=false:=by rw[zdx];simpa [S.plain] using y
 have k:∀ s∈Lib.split (Lib.cut l [32]).2.1 S.comma,s.length<=4000:=λs M=>by have:=zev _ _ _ s M;omega
 have N:=hid x;have H:=hid o;have P:=hid z;have r:=hid k;generalize g:(Lib.cut l [32]).2.1=rest at *;generalize m:(Lib.cut l [32]).1=c at *;clear x z hc o y k g I m;go_enter func208,ntmps208;go_wp2_with (first
  | (go_at_call 257;refine E.out.mono ?_;rintro e w' ⟨rfl,rfl⟩)
  | (go_at_call 53;refine L.out.mono ?_;rintro e w1 ⟨rfl,a⟩)
  | (go_at_call 169;refine(p.out _ (H.out.kept a)).mono ?_;rintro e w2 ⟨rfl,n,t,d⟩)
  | (go_at_call 260;refine(zjp w2 B b mo mp ua ra uc rc st f ln (N.out.kept (bn a d)) c _ r.out P.out (zn7 _ _ _) w1.heap.size t n (ax i (bn a d).size) j (H.out.kept (bn a d))).mono ?_;rintro e W ⟨rfl,u,v⟩))
 first|go_end0|refine ao (jo U _ _ _) U ?_
 exact⟨U,u,(bB i (bn a d)).trans v⟩
theorem zh3(w:World)(B b mo mp:Nat)(ua ra:Option Addr)(uc rc:Nat)(st d:S.St)(ln:Nat)(n:Rd w B b mo mp ua uc ra rc st ln)(l:S.By)(x:l.length<=4000)(hc:Lib.hasSuffix l [58]=false)(o:(Lib.cut l [32]).1≠S.plain)(p:(Lib.cut l [32]).2.1=[])
 (q:S.readOrder (Lib.cut l [32]).1 [] ln st=.ok d) (g:B<=w.heap.size) (h:st.uses.length+1<=1000000) (j:AF w) :
 Calls prog 208 #[.pointer (some ⟨b,0,none⟩),.string (aT l)] w (jR w B b mo mp d ln):=by
 have r:=hid (zbH l [58] (by omega) w);rw[hc] at r;have s:=hid (zhZ l [32] (by omega) w j);have y:(aT (Lib.cut l [32]).2.1).toList.isEmpty=true:=by rw[rh,p];rfl
 have z:((aT (Lib.cut l [32]).1).toList == [46,119,111,114,100])=false:=by rw[zdx];simpa [S.plain] using o
 have t:=hid n;have u:=hid j;have v:=hid q;generalize f:(Lib.cut l [32]).2.1=rest at *;generalize i:(Lib.cut l [32]).1=a at *;clear n q hc j o f p i;go_enter func208,ntmps208;go_wp2_with (first
  | (go_at_call 257;refine r.out.mono ?_;rintro e w' ⟨rfl,rfl⟩)
  | (go_at_call 53;refine s.out.mono ?_;rintro e w1 ⟨rfl,c⟩)
  | (go_at_call 260;refine(zh1 w1 B b mo mp ua ra uc rc st d ln (t.out.kept c) a v.out (ax g c.size) h (u.out.kept c)).mono ?_;rintro e E ⟨rfl,k,m⟩))
 first|go_end0|refine ao (jo U _ _ _) U ?_
 exact⟨U,k,(bB g c).trans m⟩
theorem zk9(w:World)(B b mo mp:Nat)(ua ra:Option Addr)(uc rc:Nat)(st c:S.St)(ln:Nat)(h:Rd w B b mo mp ua uc ra rc st ln)(l:S.By)(i:l.length<=4000)(a:S.readLine l ln st=.ok c)(e:B<=w.heap.size)(d:st.uses.length+1<=1000000)(j:AF w):Calls prog 208 #[.pointer (some ⟨b,0,none⟩),.string (aT l)] w (jR w B b mo mp c ln):=by
 unfold S.readLine at a;cases hc:Lib.hasSuffix l [58] with
 | true =>
  rw[hc,Q U] at a;exact zgl w B b mo mp ua ra uc rc st c ln h l i hc a e
 | false =>
  rw[hc,G (by simp)] at a;by_cases g:(Lib.cut l [32]).1=S.plain
  ·rw[Q g] at a
   by_cases f:(Lib.cut l [32]).2.1=[]
   ·unfold S.partsOf at a
    rw[Q f] at a;cases a
   ·unfold S.partsOf at a
    rw[G f] at a;exact zh2 w B b mo mp ua ra uc rc st c ln h l i hc g f a e d j
  ·rw[G g] at a
   by_cases f:(Lib.cut l [32]).2.1=[]
   ·unfold S.partsOf at a
    rw[Q f] at a;exact zh3 w B b mo mp ua ra uc rc st c ln h l i hc g f a e d j
   ·unfold S.partsOf at a
    rw[G f] at a;exact zgm w B b mo mp ua ra uc rc st c ln h l i hc g f a e d j
/-! ### how many uses a line leaves -/
theorem put_uses{ws:List Int}{nm:S.By}{ln:Nat}{st a:S.St}(h:S.put ws nm ln st=.ok a):a.uses.length<=st.uses.length+1:=by
 obtain⟨_,rfl⟩:=zhV h;simp only;split <;> simp
theorem zjq{l:S.By}{ln:Nat}{st b:S.St}(h:S.readLine l ln st=.ok b):b.uses.length<=st.uses.length+1:=by
 unfold S.readLine at h;split at h
 ·obtain⟨_,_,rfl⟩:=zfp h;simp
 ·split at h
  ·match hp:S.partsOf (Lib.cut l [32]).2.1,h with
   | [p],h=>obtain⟨v,nm,_,_,_,a⟩:=zhW h;exact put_uses a
   | [],h=>cases h
   | _::_::_,h=>cases h
  ·obtain⟨k,o,nm,_,_,_,_,_,_,a⟩:=zdU h
   exact put_uses a
theorem zfq{f:Nat}{s:S.By}{ln:Nat}{st b:S.St}(c:s≠[])(h:S.readLines (f+1) s ln st=.ok b):(Lib.cut s [10]).2.2=true /\ ∃ a,S.readLine (Lib.cut s [10]).1 ln st=.ok a/\S.readLines f (Lib.cut s [10]).2.1 (ln+1) a=.ok b:=by
 unfold S.readLines at h;rw[G c] at h;split at h
 ·rename_i hc
  split at h
  ·rename_i a d
   exact⟨hc,a,d,h⟩
  ·cases h
 ·cases h
theorem znk(s:S.By)(a:s≠[])(h:(Lib.cut s [10]).2.2=true):(Lib.cut s [10]).2.1.length<s.length:=by
 have hp:s.length≠0:=λe=>a (bv.1 e)
 unfold Lib.cut at h ⊢;split at h
 ·rename_i hi
  rw[Q hi];simp;omega
 ·cases h
theorem zjr(w:World)(B b mo mp:Nat)(ua ra:Option Addr)(uc rc:Nat)(st k:S.St)(u:Rd w B b mo mp ua uc ra rc st 0)(v:st.uses=[])(s:S.By)(hl:s.length<=4000)(R:S.readLines s.length s 0 st=.ok k)(y:B<=w.heap.size)(V:AF w)(z:Hid (∀ w',Below B w w'->AF w')):Calls prog 129 #[.pointer (some ⟨b,0,none⟩),.string (aT s)] w λe w'=>e=.returned (.tuple #[])/\(∃ E ua' uc' ra' rc',Rd w' B b mo mp ua' uc' ra' rc' k E)/\Below B w w':=by
 have W:=hid u;have X:=hid R;have F:=u.hB;clear u R V;go_enter func129,ntmps129;go_wp2;go_loopw [1] (λr wr=>∃(t:S.By) (f ln:Nat) (c:S.St) (ua':Option Addr) (uc':Nat) (ra':Option Addr) (rc':Nat),r=.string (aT t)/\t.length<=f/\t.length+ln<=4000/\S.readLines f t ln c=.ok k/\c.uses.length<=ln/\Rd wr B b mo mp ua' uc' ra' rc' c ln/\Below B w wr) (λr _=>match r with | .string x=>x.size|_=>0)
 case atStart=>exact⟨s,s.length,0,st,ua,uc,ra,rc,U,ak _,by omega,X.out,by rw[v];exact ak _,W.out,aW _ _⟩
 case round =>
  obtain⟨t,f,ln,c,ua',uc',ra',rc',rfl,Y,Z,g,hul,o,h⟩:=hrel;have j:=ax y h.size;by_cases q:t=[]
  ·subst q
   rw[S.readLines_nil] at g;cases g;have he:(aT []).toList.isEmpty=true:=rh [];go_wp2;go_end0;exact⟨U,⟨ln,ua',uc',ra',rc',o⟩,h⟩
  ·have he:(aT t).toList.isEmpty=false:=by rw[rh];cases t <;> simp_all
   have htp:t.length≠0:=λe=>q (bv.1 e)
   obtain⟨H,rfl⟩:∃ H,f=H+1:=⟨f-1,by omega⟩
   obtain⟨hcut,p,l,d⟩:=zfq q g;have m:=znk t q hcut;have hl1:=(zh0 t [10]).1;have n:=z.out wr h;have T:=hid (zhZ t [10] (by omega) wr n);rw[hcut] at T;have HL:Hid (∀ w1,Below wr.heap.size wr w1->_):=λw1 (a:Below wr.heap.size wr w1)=>zk9 w1 B b mo mp ua' ra' uc' rc' c p ln (o.kept a) (Lib.cut t [10]).1 (by omega) l (ax j a.size) (by omega) (n.kept a)
   have hu2:=zjq l;have HN:=hid d;clear g hcut l d n;go_wp2_with (first
    | (go_at_call 53;refine T.out.mono ?_;rintro e w1 ⟨rfl,a⟩)
    | (go_at_call 208;refine(HL.out w1 a).mono ?_;rintro e w2 ⟨rfl,⟨I,L,M,N,i⟩,P⟩;have c4:w2.cell? ⟨b,4,none⟩=some (.int .i64 ln):=i.cell 4;have f4:=i.frozen 4;have z4:=i.lt))
   refine⟨⟨(Lib.cut t [10]).2.1,H,ln+1,p,I,L,M,N,U,by omega,by omega,HN.out,by omega,i.put_line (ln+1),((h.trans (bB j a)).trans P).setCell F _⟩,?_⟩;show (Lib.cut t [10]).2.1.length<t.length;exact m
/-! ### what holds of what a reader has read -/
def Inv(st:S.St):Prop:=st.rom.length<=1024/\(∀ u∈st.uses,u.2.1+2<=st.rom.length) /\ ∀ p∈st.places,p.2<=1024
theorem zp5{ws:List Int}{nm:S.By}{ln:Nat}{st b:S.St}(hi:Inv st)(d:0<ws.length)(h:S.put ws nm ln st=.ok b):Inv b:=by
 obtain⟨c,rfl⟩:=zhV h;obtain⟨e,i2,i3⟩:=hi;refine⟨by simp[si];exact c,λu a=>?_,i3⟩;simp only[aC,si] at a ⊢;split at a
 ·have:=i2 u a;omega
 ·rcases bS.1 a with a|a
  ·have:=i2 u a;omega
  ·simp at a;subst a;simp only;omega
theorem zsZ{l:S.By}{ln:Nat}{st b:S.St}(hi:Inv st)(h:S.readLine l ln st=.ok b):Inv b:=by
 unfold S.readLine at h;split at h
 ·obtain⟨_,_,rfl⟩:=zfp h
  obtain⟨c,i2,i3⟩:=hi;refine⟨c,i2,λp hp=>?_⟩;rcases bS.1 hp with hp|hp
  ·exact i3 p hp
  ·simp at hp;subst hp;exact c
 ·split at h
  ·match hp:S.partsOf (Lib.cut l [32]).2.1,h with
   | [p],h=>obtain⟨v,nm,_,_,_,a⟩:=zhW h;exact zp5 hi (by simp) a
   | [],h=>cases h
   | _::_::_,h=>cases h
  ·obtain⟨k,o,nm,_,_,_,_,_,_,a⟩:=zdU h
   exact zp5 hi (zjn k o) a
theorem zjs:∀(f:Nat) (s:S.By) (ln:Nat) (st a:S.St),Inv st->S.readLines f s ln st=.ok a->Inv a
 | 0,s,ln,st,a,hi,h=>by cases h;exact hi
 | f+1,s,ln,st,a,hi,h=>by
  by_cases b:s=[]
  ·subst b;rw[S.readLines_nil] at h;cases h;exact hi
  ·obtain⟨_,c,d,e⟩:=zfq b h
   exact zjs f _ _ _ _ (zsZ hi d) e
theorem zs0:Inv S.St.zero:=⟨by simp[S.St.zero],by simp[S.St.zero],by simp[S.St.zero]⟩
section
variable {w : World} {B b mo mp : Nat} {ua : Option Addr} {uc rc rg : Nat} {st : S.St} {ln : Nat}
theorem Rd.set_rom(h:Rd w B b mo mp ua uc (some ⟨rg,0,none⟩) rc st ln)(i:Nat)(x:UInt8):Rd (w.setCell ⟨rg,i,none⟩ (.int .u8 x.toNat)) B b mo mp ua uc (some ⟨rg,0,none⟩) rc { st with rom:=st.rom.set i x } ln:=by
 obtain⟨d,a⟩:=h.rom.stored i (.int .u8 x.toNat);have hb:(Value.slice (some ⟨rg,0,none⟩) st.rom.length rc).ownBlock=some rg:=U;refine⟨h.hB,?_,h.ops.of_block (lS a h.ops.lt (λe=>h.rom_mo (hb.trans e.symm))),h.places.of_block (lS a h.places.lt (λe=>h.rom_mp (hb.trans e.symm))),h.hmp,h.ne,h.uses.kept a (h.rows.imp id (λc=>by rw[hb] at c;exact c)),?_⟩
 ·simp only[lm]
  exact(lS a h.lt (λe=>h.rom_b (hb.trans e.symm))).trans h.blk
 ·simp only[lm]
  have e:Lib.byteCells (st.rom.set i x)=(Lib.byteCells st.rom).set i (.int .u8 x.toNat):=by unfold Lib.byteCells;rw[kB]
  rw[e];exact d
theorem Rd.rg_ne(h:Rd w B b mo mp ua uc (some ⟨rg,0,none⟩) rc st ln):rg≠b/\rg<w.heap.size/\B<=rg:=by
 have h1:=h.rom_b;have h2:=h.rom.lt rg U;exact⟨λe=>h1 (by rw[e];rfl),h2.2,h2.1⟩
end
theorem zfr:∀(a:List (S.By × Nat × Nat)) (j:Nat) (u:S.By × Nat × Nat),a[j]?=some u->(eI a)[j*3]?=some (.string (aT u.1))/\(eI a)[j*3+1]?=some (.int .i64 u.2.1)/\(eI a)[j*3+2]?=some (.int .i64 u.2.2)
 | [],j,u,h=>by simp at h
 | v::a,0,u,h=>by simp at h;subst h;exact⟨U,U,U⟩
 | v::a,j+1,u,h=>by
  have b:=zfr a j u (by simpa using h);rw[show (j+1)*3=j*3+3 by omega,show j*3+3+1=(j*3+1)+3 by omega,show j*3+3+2=(j*3+2)+3 by omega];exact b
theorem zla(w:World)(B b mo mp:Nat)(ua ra:Option Addr)(uc rc:Nat)(st:S.St)(ln:Nat)(a:Rd w B b mo mp ua uc ra rc st ln)(c:st.uses=[]):Calls prog 130 #[.pointer (some ⟨b,0,none⟩)] w λe w'=>e=.returned (.tuple #[])/\w'=w:=by
 have c2:w.cell? ⟨b,2,none⟩=some (.slice ua 0 uc):=by have:=a.cell 2;rw[c] at this;exact this
 have d:=a.lt;clear a;go_enter func130,ntmps130;go_wp2
 go_loop [11] (λi=>i=.int .i64 0) (λ_=>0)
 case atStart=>rfl
 case round =>
  subst hrel;go_wp2;go_end0;exact⟨U,U⟩
theorem zjt{w:World}{mp:Nat}{ps:List (S.By × Nat)}(h:ii w mp (pl ps))(c:S.By)(p:S.By × Nat)(a:ps.find? (λp=>p.1 == c)=some p):(Instr.lookup 216 (.map (some mp)) (.string (aT c)) true).run prog w=.ok (.tuple #[.int .i64 p.2,.bool true]) w:=by
 have:=zhT (P:=prog) underlying216 underlying9 h (aT c) (zhX w);rw[zp0,nH,a] at this;exact this
theorem zvA{ps:List (S.By × Nat)}{u:S.By × Nat × Nat}{b:List (S.By × Nat × Nat)}{rom a:S.By}(h:S.lay ps (u::b) rom=.ok a):∃ p,ps.find? (λp=>p.1 == u.1)=some p/\S.lay ps b ((rom.set u.2.1 (UInt8.ofNat (p.2/256))).set (u.2.1+1) (UInt8.ofNat (p.2%256)))=.ok a:=by
 unfold S.lay at h;split at h
 ·cases h
 ·rename_i p hp
  exact⟨p,hp,h⟩
theorem zlb(w:World)(B b mo mp l uc rg rc:Nat)(st:S.St)(ln:Nat)(r:Rd w B b mo mp (some ⟨l,0,none⟩) uc (some ⟨rg,0,none⟩) rc st ln)(hu:0<st.uses.length)(hul:st.uses.length<=100000)(hi:Inv st)(h:S.By)(N:S.lay st.places st.uses st.rom=.ok h)(F:B<=w.heap.size):Calls prog 130 #[.pointer (some ⟨b,0,none⟩)] w λe w'=>e=.returned (.tuple #[])/\Rd w' B b mo mp (some ⟨l,0,none⟩) uc (some ⟨rg,0,none⟩) rc { st with rom:=h } ln/\Below B w w':=by
 have c2:w.cell? ⟨b,2,none⟩=some (.slice (some ⟨l,0,none⟩) st.uses.length uc):=r.cell 2;have hlt:=r.lt;have hBb:=r.hB;have HR:=hid r;have HS:=hid N;have HI:=hid hi;clear r N hi;go_enter func130,ntmps130;go_wp2;go_loopw [11] (λi wr=>∃(j:Nat) (rom:S.By),j<=st.uses.length/\i=.int .i64 j/\rom.length=st.rom.length/\S.lay st.places (st.uses.drop j) rom=.ok h/\Rd wr B b mo mp (some ⟨l,0,none⟩) uc (some ⟨rg,0,none⟩) rc { st with rom:=rom } ln/\Below B w wr) (λi _=>st.uses.length-(intOf i).toNat)
 case atStart=>exact⟨0,st.rom,by omega,U,U,HS.out,HR.out,aW _ _⟩
 case round =>
  obtain⟨j,rom,hj,rfl,s,d,c,o⟩:=hrel;have t:=ax F o.size;by_cases x:j<st.uses.length
  ·have hjI:(j:Int)<st.uses.length:=by omega
   obtain⟨u,m⟩:∃ u,st.uses[j]?=some u:=⟨_,au x⟩
   rw[drop_at m] at d;obtain⟨p,k,g⟩:=zvA d;obtain⟨nm,a,y⟩:=u;obtain⟨pn,f⟩:=p;obtain⟨P,i2,i3⟩:=HI.out;have H:=i2 _ (bh m);have I:=i3 _ (dP k);simp only at H I g k;obtain⟨R,T,V⟩:=zfr _ _ _ m;have L:=c.uses.lt l U;have u0:wr.cell? ⟨l,j*3,none⟩=some (.string (aT nm)):=by rw[c.uses.cellAt (j*3) (by simp only;omega)];exact R
   have u1':wr.cell? ⟨l,j*3+1,none⟩=some (.int .i64 a):=by rw[c.uses.cellAt (j*3+1) (by simp only;omega)];exact T
   have u2':wr.cell? ⟨l,j*3+2,none⟩=some (.int .i64 y):=by rw[c.uses.cellAt (j*3+2) (by simp only;omega)];exact V
   have W:l<wr.heap.size:=L.2;have c1:wr.cell? ⟨b,1,none⟩=some (.map (some mp)):=c.cell 1;have c3:wr.cell? ⟨b,3,none⟩=some (.slice (some ⟨rg,0,none⟩) st.rom.length rc):=by have:=c.cell 3;simp only[s] at this;exact this
   have hbr:=c.lt;obtain⟨hgb,hgl,z⟩:=c.rg_ne;have E:=hid (c.kept (stA (J wr) (.cells #[.string (aT nm),.int .i64 a,.int .i64 y] 277)));have hlk:∀ q,(Instr.lookup 216 (.map (some mp)) (.string (aT nm)) true).run prog ((wr.alloc (.cells #[.string (aT nm),.int .i64 a,.int .i64 y] 277)).drewN q)=.ok (.tuple #[.int .i64 f,.bool true]) ((wr.alloc (.cells #[.string (aT nm),.int .i64 a,.int .i64 y] 277)).drewN q):=λq =>
    zjt ((E.out.kept (oH (J _) q)).places) nm (pn,f) k
   have HN:=hid g;have HFP:=hid k;have n:=hid c;have hr1:st.rom.length<=1024:=P;clear d g k m R T V P i2 i3 c;have X:(a:Int)<st.rom.length:=by omega
   have Y:(a:Int)+1<st.rom.length:=by omega
   have Z:(0:Int)<=(a:Int)+1:=by omega
   have hatL:(0:Int)<=(a:Int):=by omega
   have hn1:rg≠wr.heap.size:=by omega
   obtain⟨va,da⟩:∃ v,wr.cell? ⟨rg,a,none⟩=some v:=⟨_,(n.out.rom.cellAt a (by simp only;omega)).trans (au (by rw[zcw];simp only;omega))⟩
   obtain⟨vb,db⟩:∃ v,wr.cell? ⟨rg,a+1,none⟩=some v:=⟨_,(n.out.rom.cellAt (a+1) (by simp only;omega)).trans (au (by rw[zcw];simp only;omega))⟩
   have fa:wr.frozen? ⟨rg,a,none⟩=false:=n.out.rom.frozenAt a;have fb:wr.frozen? ⟨rg,a+1,none⟩=false:=n.out.rom.frozenAt (a+1);have hpvI:(f:Int)<=65535:=by omega
   have hwp:IntKind.u16.wrap (f:Int)=f:=by rw[bc];omega
   have hwa:IntKind.i64.wrap ((a:Int)+1)=(a:Int)+1:=by rw[aI];omega
   go_wp2;go_quiet (fail)
   go_wp2;go_region_held3 (λw'=>w'.cell? ⟨b,3,none⟩=some (.slice (some ⟨rg,0,none⟩) st.rom.length rc)/\w'.cell? ⟨wr.heap.size,1,none⟩=some (.int .i64 a))
    (first
      | go_keep
      | (go_split_ands
         refine⟨?_,?_⟩
         ·(rw[az _ _ _ _ (by simp;omega)];assumption)
         ·(rw[az _ _ _ _ (by simp;omega)];assumption)))
    ((go_at_call 209;refine(zg0 f _ (by omega) (by omega)).mono ?_;rintro e w' ⟨rfl,rfl⟩))
   go_wp2;have e1:(.int .u8 ((f:Int)/256):Value)=.int .u8 ((UInt8.ofNat (f/256)).toNat:Nat):=by rw[show (UInt8.ofNat (f/256)).toNat=f/256 by simp;omega];rfl
   have e2:(.int .u8 ((f:Int)%256):Value)=.int .u8 ((UInt8.ofNat (f%256)).toNat:Nat):=by rw[show (UInt8.ofNat (f%256)).toNat=f%256 by simp];rfl
   rw[e1,e2];refine⟨⟨j+1,(rom.set a (UInt8.ofNat (f/256))).set (a+1) (UInt8.ofNat (f%256)),by omega,by simp,by simp[s],HN.out,((E.out.kept (oH (J _) (nq+1))).set_rom a _).set_rom (a+1) _,?_⟩,by simp[intOf];omega⟩;have hd:Below B w ((wr.alloc (.cells #[.string (aT nm),.int .i64 a,.int .i64 y] 277)).drewN (nq+1)):=(o.alloc t _).trans (bB (by simp;omega) (oH (J _) (nq+1)));exact(hd.setCell z _).setCell z _
  ·have M:j=st.uses.length:=by omega
   subst M;rw[di] at d;cases d;go_wp2;go_end0;exact⟨U,c,o⟩
theorem zju(w:World)(B b mo mp:Nat)(ua ra:Option Addr)(uc rc:Nat)(st:S.St)(ln:Nat)(d:Rd w B b mo mp ua uc ra rc st ln)(f:st.uses.length<=100000)(hi:Inv st)(c:S.By)(i:S.lay st.places st.uses st.rom=.ok c)(j:B<=w.heap.size):Calls prog 130 #[.pointer (some ⟨b,0,none⟩)] w λe w'=>e=.returned (.tuple #[])/\Rd w' B b mo mp ua uc ra rc { st with rom:=c } ln/\Below B w w':=by
 by_cases k:st.uses=[]
 ·rw[k] at i
  cases i;exact(zla w B b mo mp ua ra uc rc st ln d k).mono λe w' m=>⟨m.1,m.2 ▸ d,m.2 ▸ aW _ _⟩
 ·have n:0<st.uses.length:=by cases h:st.uses <;> simp_all
  obtain⟨u,o⟩:∃ u,u∈st.uses:=by cases h:st.uses with
   | nil=>exact absurd h k
   | cons a l=>exact⟨a,by simp⟩
  have v:=hi.2.1 u o;have p:∃ q,ua=some ⟨q,0,none⟩:=by
   rcases d.uses.2 with⟨h,x⟩|⟨g,r,s,h,_⟩
   ·omega
   ·exact⟨g,by injection h⟩
  have t:∃ rg,ra=some ⟨rg,0,none⟩:=by
   rcases d.rom.2 with⟨h,x⟩|⟨g,r,s,h,_⟩
   ·omega
   ·exact⟨g,by injection h⟩
  obtain⟨q,rfl⟩:=p;obtain⟨rg,rfl⟩:=t;exact zlb w B b mo mp q uc rg rc st ln d n f hi c i j
theorem zn8(p q r:Option Addr)(w:World):CallsD prog 127 #[.pointer p,.pointer q,.pointer r] .returning w λe a w'=>e=.returned (.tuple #[])/\a=.returning/\w'=w:=by
 refine callsD_of_wpS func127 U λb cs c=>?_
 apply wpS_seq;apply wpS_region;simp[wpOpsS,go_sem,recoverD,c,ntmps127,Exit.thenS];apply wpS_seq;apply wpS_seq;apply wpS_region;simp[wpOpsS,go_sem,Exit.thenS];refine wpS_cond (t:=true) (by simp[Act.eval,Array.replicate]) ?_;simp only[dL];refine wpS_of_wp (wp_ret ?_);cases b
 simp_all [Exit.thenS,bodyPostS,results,results127]
theorem zlc{w:World}{B:Nat}{ra:Option Addr}{rc:Nat}{rom:S.By}(h:w.ownsRow B 5 1 (.slice ra rom.length rc) rom.length (Lib.byteCells rom)):ip w (.slice ra rom.length rc) rom:=by
 by_cases d:rom.length=0
 ·have:rom=[]:=bv.1 d
  subst this;exact Or.inl ⟨ra,rc,U,U⟩
 ·obtain⟨g,e,f,_,i,hc,a⟩:=zdv h (by omega)
  injection f with h1 h2 h3
  subst h1;subst h3;refine Or.inr ⟨g,0,rc,U,hc,i,λj c b=>?_⟩;rw[aN,a j (aA.1 b).1];unfold Lib.byteCells;rw[aX,b];rfl
theorem zvB(w1:World)(B:Nat)(b:ii w1 B (gA 32))(hB:B<=w1.heap.size):Rd ((w1.alloc (.map #[] 0)).alloc (.cells #[.map (some B),.map (some w1.heap.size),.slice none 0 0,.slice none 0 0,.int .i64 0] 220)) B (w1.heap.size+1) B w1.heap.size none 0 none 0 S.St.zero 0:=by
 have a:=b.lt;have h1:(w1.alloc (.map #[] 0)).heap.size=w1.heap.size+1:=by simp
 refine⟨by omega,?_,?_,?_,hB,by omega,⟨U,Or.inl ⟨U,U⟩⟩,⟨U,Or.inl ⟨U,U⟩⟩⟩
 ·rw[<- h1];exact aJ _ _
 ·exact b.of_block ((bO _ _ (by omega)).trans (bO _ _ a))
 ·exact(zji w1).of_block (bO _ _ (by omega))
theorem zg2:∀(f:Nat) (s:S.By) (ln:Nat) (st a:S.St),s.length<=f->S.readLines f s ln st=.ok a->a.uses.length<=st.uses.length+s.length
 | 0,s,ln,st,a,c,h=>by cases h;omega
 | f+1,s,ln,st,a,c,h=>by
  by_cases b:s=[]
  ·subst b;rw[S.readLines_nil] at h;cases h;omega
  ·obtain⟨hc,d,e,g⟩:=zfq b h
   have h1:=znk s b hc;have h2:=zg2 f _ _ _ _ (by omega) g;have h3:=zjq e;omega
theorem zgn(w1:World)(B:Nat)(f:ii w1 B (gA 32))(hB:B<=w1.heap.size)(s:S.By)(g:s.length<=4000)(a:S.St)(h:S.readLines s.length s 0 S.St.zero=.ok a)(d:∀ w',Below B w1 w'->AF w'):Calls prog 129 #[.pointer (some ⟨w1.heap.size+1,0,none⟩),.string (aT s)] ((w1.alloc (.map #[] 0)).alloc (.cells #[.map (some B),.map (some w1.heap.size),.slice none 0 0,.slice none 0 0,.int .i64 0] 220)) λe w' =>
  e=.returned (.tuple #[])/\(∃ b ua' uc' ra' rc',Rd w' B (w1.heap.size+1) B w1.heap.size ua' uc' ra' rc' a b)/\Below B w1 w':=by
 have c:Below B w1 ((w1.alloc (.map #[] 0)).alloc (.cells #[.map (some B),.map (some w1.heap.size),.slice none 0 0,.slice none 0 0,.int .i64 0] 220)):=((aW B w1).alloc hB _).alloc (by simp;omega) _;exact(zjr _ B (w1.heap.size+1) B w1.heap.size none none 0 0 S.St.zero a (zvB w1 B f hB) U s g h (by simp;omega) (d _ c) (hid (λw' hb=>d w' (c.trans hb)))).mono λe w' ⟨i,h1,h2⟩=>⟨i,h1,c.trans h2⟩
theorem zp8{w a:World}{o1 o2 c:Value}{b t2 t3:TypeId}(h:Below (w.heap.size+1+1+1) (((w.alloc (.cells #[o1] b)).alloc (.cells #[o2] t2)).alloc (.cells #[c] t3)) a):(a.heap[w.heap.size]?=some (.cells #[o1] b (0,0))/\a.heap[w.heap.size+1]?=some (.cells #[o2] t2 (0,0))/\a.heap[w.heap.size+1+1]?=some (.cells #[c] t3 (0,0)))/\w.heap.size+1+1+1<=a.heap.size:=by
 have s1:(w.alloc (.cells #[o1] b)).heap.size=w.heap.size+1:=by simp
 have s2:((w.alloc (.cells #[o1] b)).alloc (.cells #[o2] t2)).heap.size=w.heap.size+1+1:=by simp
 refine⟨⟨?_,?_,?_⟩,by have:=h.size;simp at this;omega⟩
 ·rw[h.block _ (by omega),bO _ _ (by omega),bO _ _ (by omega)];exact aJ _ _
 ·rw[h.block _ (by omega),bO _ _ (by omega),<- s1];exact aJ _ _
 ·rw[h.block _ (by omega),<- s2];exact aJ _ _
theorem zld(s:S.By)(T:s.length<=4000)(b:S.St)(a:S.By)(t:S.readLines s.length s 0 S.St.zero=.ok b)(M:S.lay b.places b.uses b.rom=.ok a)(w:World)(N:AF w):Calls prog 67 #[.string (aT s)] w λe w'=>∃ v,e=.returned (.tuple #[v,.int .i64 0,.int .i64 0])/\ip w' v a/\Below w.heap.size w w':=by
 have V:∀(P:Fn) (first m:Array Value) (w:World),(Instr.makeFunc P first m).run prog w=.ok (.func P first m) w:=λ_ _ _ _=>U
 have W:=@iN prog;have x:b.uses.length<=100000:=by have:=zg2 _ _ _ _ _ (ak _) t;simp[S.St.zero] at this;omega
 have X:=hid (zjs _ _ _ _ _ zs0 t);have R:=hid N;have Y:=hid t;have Z:=hid M;have n:Hid (Below w.heap.size w (((w.alloc (.cells #[.slice none 0 0] 26)).alloc (.cells #[.int .i64 0] 3)).alloc (.cells #[.int .i64 0] 48))):=stA (stA (stA (J w) _) _) _;have y:Hid ((((w.alloc (.cells #[.slice none 0 0] 26)).alloc (.cells #[.int .i64 0] 3)).alloc (.cells #[.int .i64 0] 48)).heap.size=w.heap.size+1+1+1):=by show _=_;simp
 clear N t M
 go_enter_defers func67,ntmps67
 go_wp2_with (first
  | (go_at_call 128;refine(zhU _ (nB (nB (nB R.out _) _) _).shapes).mono ?_;rintro e w1 ⟨rfl,g,j⟩;rw[y.out] at g j;have o:=g.lt)
  | (go_at_call 129;refine(zgn w1 (w.heap.size+1+1+1) g (ga o) s T b Y.out (λw' hb=>R.out.kept (n.out.trans ((j.trans hb).mono (gI _ 3))))).mono ?_;rintro e w2 ⟨rfl,⟨z,ua,uc,ra,rc,p⟩,q⟩)
  | (go_at_call 130;refine(zju w2 _ _ _ _ ua ra uc rc b z p x X.out a Z.out (ax (ga o) q.size)).mono ?_;rintro e u ⟨rfl,c,B⟩;have r:=(j.trans q).trans B;obtain⟨⟨E,F,H⟩,hz3⟩:=zp8 r;have c3:u.cell? ⟨w1.heap.size+1,3,none⟩=some (.slice ra a.length rc):=c.cell 3;have z3:=c.lt;have d1:u.cell? ⟨w.heap.size,0,none⟩=some (.slice none 0 0):=Lib.cell_of_heap E 0;have d2:u.cell? ⟨w.heap.size+1,0,none⟩=some (.int .i64 0):=Lib.cell_of_heap F 0;have d3:u.cell? ⟨w.heap.size+1+1,0,none⟩=some (.int .i64 0):=Lib.cell_of_heap H 0;have f1:=Lib.frozen_of_heap E 0;have f2:=Lib.frozen_of_heap F 0;have f3:=Lib.frozen_of_heap H 0;have I:=hid c;clear c p E F H))
 refine leaves_cons (f:=127) (args:=#[.pointer (some ⟨w.heap.size,0,none⟩),.pointer (some ⟨w.heap.size+1,0,none⟩),.pointer (some ⟨w.heap.size+1+1,0,none⟩)]) (by simp) (by simp[go_sem]) ?_;refine(zn8 _ _ _ _).mono ?_;rintro e u' w'' ⟨rfl,rfl,rfl⟩;simp[Leaves,settle,results,results67,go_sem,d1,d2,d3];have d:=I.out.rom;have L:=λk hk=>(d.lt k hk).1
 have l:∀ i,i<w.heap.size+1+1+1->(Value.slice ra a.length rc).ownBlock≠some i:=λi hi h=>by have:=L i h;omega
 refine⟨zlc (((d.kept (sf _ _ _ _) (Or.inr (l _ (by omega)))).kept (sf _ _ _ _) (Or.inr (l _ (by omega)))).kept (sf _ _ _ _) (Or.inr (l _ (by omega)))),?_⟩;exact(((n.out.trans (r.mono (by omega))).setCell (ak _) _).setCell (by simp) _).setCell (by simp;omega) _
theorem zs1{s rom:S.By}(h:S.readText s=.ok rom):∃ a,S.readLines s.length s 0 S.St.zero=.ok a/\S.lay a.places a.uses a.rom=.ok rom:=by
 unfold S.readText at h;split at h
 ·rename_i st b
  exact⟨st,b,h⟩
 ·cases h
theorem zle(s:S.By)(w:World):Calls prog 66 #[.string (aT s),.string ⟨#[10]⟩] w λe w'=>e=.returned (.int .i64 (s.count 10:Nat))/\w=w' :=
 (Tryz.strings_Count_one (aT s) 10 w).mono λe w' a=>⟨a.1,a.2.symm⟩
theorem zs2(s rom:S.By)(f:s.length<=4000)(hc:s.count 10<=300)(c:S.readText s=.ok rom)(w:World)(d:AF w):Calls prog 36 #[.string (aT s)] w λe w'=>∃ v,e=.returned (.tuple #[v,.int .i64 0,.int .i64 0])/\ip w' v rom/\Below w.heap.size w w':=by
 obtain⟨a,h1,h2⟩:=zs1 c;have g:=hid (zld s f a rom h1 h2 w d);have h:¬ (4000:Int)<(aT s).size:=by rw[pL];omega
 have i:¬ (300:Int)<(s.count 10:Nat):=by omega
 clear d c h1 h2;go_enter func36,ntmps36;go_wp2_with (first
  | (go_at_call 66;refine(zle s _).mono ?_;rintro e w' ⟨rfl,rfl⟩)
  | (go_at_call 67;refine g.out.mono ?_;rintro e w1 ⟨v,rfl,j,b⟩))
 go_ret3
 exact⟨v,U,j,b⟩
/-! ### bytes -/
/-! ### the closed fact -/
theorem zlf{W:World}{l:List (String × DataW Unit)}(h:laidMet prog l W)(b:("internal/strconv.uint64pow10",Rows.laid_internal_strconv_uint64pow10)∈l):Lib.TabIs prog W "internal/strconv.uint64pow10" .u64 Lib.pow10Tab:=by
 obtain⟨g,t,cs,fuel,p,c,d,e,a⟩:=Lib.laidMet.reads h b;have e2:(Tryz.prog.globals[6]?).map (·.type)=some 397:=by kernel_rfl
 obtain rfl:=aH (g_pow.symm.trans c);obtain rfl:=aH (e2.symm.trans d);have e3:(Rows.laid_internal_strconv_uint64pow10:DataW Unit)=Lib.tabData .u64 Lib.pow10Tab:=by kernel_rfl
 rw[e3] at a;unfold Lib.TabIs;rw[e,<- Lib.cells_of_tab underlying397 underlying350 (by kernel_rfl) (by kernel_rfl) a]
theorem qF{W:World}{l:List (String × DataW Unit)}(h:laidMet prog l W)(a:W.ShapedOpen prog)(h1:("internal/strconv.uint64pow10",Rows.laid_internal_strconv_uint64pow10)∈l)(h2:("marquee/order.shapes",Rows.laid_marquee_order_shapes)∈l):AF W :=
 ⟨zlf h h1,zfk a,zdp h h2⟩
def ny:S.By:=[46,119,111,114,100,32,54,10,46,119,111,114,100,32,48,10,46,119,111,114,100,32,48,10,108,100,105,32,114,49,44,32,51,50,55,54,56,10,115,116,98,32,114,49,44,32,114,49,44,32,49,10,104,108,116,10]
theorem zuk:S.readText ny=.ok fB:=by
 have h:(match S.readText ny with | .ok r=>r == fB | .error _=>false)=true:=by decide +kernel
 split at h
 ·rename_i r a
  rw[a,iz.1 h]
 ·cases h
theorem zul{w:World}{v:Value}{l:List UInt8}(h:ip w v l):sliceAt w v l:=h
structure LBx (w : World) (b : Nat) (M : Mach) (S : Sl) (Y : World) : Prop where
 low:Below w.heap.size w Y
 ge:w.heap.size<=b
 bx:Bx Y b (D M S)
 sl:bM Y S M
theorem LBx.mk0{w w2:World}{M:Mach}{S:Sl}(hb:Below w.heap.size w w2)(d:bM w2 S M):LBx w w2.heap.size M S ((w2.alloc (.cells (D aE aM).toArray 41)).setCells w2.heap.size 0 (D M S)):=by
 have a:=(Bx.new w2 (D aE aM) 41 (b:=w2.heap.size) U).puts 0 (D M S) (by rw[cy,cy];omega);rw[jJ _ _ (by rw[cy,cy])] at a;have c:Below w2.heap.size w2 ((w2.alloc (.cells (D aE aM).toArray 41)).setCells w2.heap.size 0 (D M S)):=Bl.puts (stA (J w2) _) (ak _) _;exact⟨bn hb c,hb.size,a,d.kept c⟩
structure LE (w : World) (b c : Nat) (M : Mach) (S : Sl) (L : List Value) (Y : World) : Prop where
 low:Below w.heap.size w Y
 bx:Bx Y b (D M S)
 sh:Bx Y c L
theorem LE.mk1{w a:World}{b:Nat}{M X:Mach}{S S':Sl}(hb:Below w.heap.size w a)(c:w.heap.size<=b)(d:Bx a b (D M S)):LE w b a.heap.size X S' [.slice none 0 0,.slice none 0 0,.slice none 0 0] ((a.alloc (.cells #[.slice none 0 0,.slice none 0 0,.slice none 0 0] 47)).setCells b 0 (D X S')):=by
 have e:=d.z;have h1:=(d.over (.cells #[.slice none 0 0,.slice none 0 0,.slice none 0 0] 47)).puts 0 (D X S') (by rw[cy,cy];omega);rw[jJ _ _ (by rw[cy,cy])] at h1;exact⟨j4 (stA hb _) c _ _,h1,DW.bb (Bx.new a [.slice none 0 0,.slice none 0 0,.slice none 0 0] 47 (b:=a.heap.size) U) (by omega)⟩
theorem LE.put{w Y:World}{b c:Nat}{X:Mach}{S':Sl}{x y z a d e:Value}(h:LE w b c X S' [x,y,z] Y)(f:b≠c)(g:w.heap.size<=c):LE w b c X S' [a,d,e] (Y.setCells c 0 [a,d,e]):=by
 have h1:=h.sh.puts 0 [a,d,e] (by simp);rw[jJ _ _ (by simp)] at h1;exact⟨j4 h.low g _ _,DW.bb h.bx f,h1⟩
theorem cell_of{Y:World}{b:Nat}{M:Mach}{S:Sl}(h:Bx Y b (D M S)):Y.cell? ⟨b,14,none⟩=some (.bool M.main.Waits)/\Y.cell? ⟨b,72,none⟩=some (.int .i64 M.clock)/\Y.cell? ⟨b,61,none⟩=some (.int .i64 M.b.l):=⟨h.at 14 _ rfl,h.at 72 _ rfl,h.at 61 _ rfl⟩
theorem zma(B:Nat)(w:World):bE B w (.slice none 0 0) []:=Or.inl ⟨U,_,_,U⟩
theorem zvg(w:World):sliceAt w (.slice none 0 0) []:=Or.inl ⟨_,_,U,U⟩
theorem zbM(w:World)(B:AF w):Calls prog 11 #[] w λe w'=>e=.returned (.bool true)/\Below w.heap.size w w':=by
 have HB:=hid (zs2 ny fB (by decide) (by decide) zuk w B);have HF:=hid B;have E:=zyl;obtain⟨K,H⟩:∃ K,K=dr.clocks 64:=⟨_,U⟩
 rw[<- H] at E;have HK:=hid H;have I:=hid E;clear B H E;go_enter func11,ntmps11;go_wp2_with (first
  | (go_at_call 36;refine HB.out.mono ?_;rintro e w1 ⟨v,rfl,hv,j⟩;have HV:=hid (zul hv);have L:=hid j;clear hv j)
  | (go_at_call 37;refine(tW fB [] v (.slice none 0 0) w1 HV.out (zvg _) (by decide) (by decide)).mono ?_;rintro e w2 ⟨y,rfl,k,m,P,n⟩;have o:=hid k;have R:=hid m;have T:=hid (bn L.out n);clear k m P n)
  | (refine wpList_store_mid U 41 _ _ U w2.heap.size 0 (D (cq fB []) y).toArray U U ((Bx.new w2 (D aE aM) 41 (b:=w2.heap.size) U).there 0 75 (by rw[cy];omega)) bV (fG _ _ (jL o.out)) ?_
     refine Pl.cutL (LBx w w2.heap.size (cq fB []) y) (LBx.mk0 T.out o.out) ?_;intro Y1 p;have d:=hid p;clear p)
  | (refine wpList_load_mid U 41 _ U w2.heap.size 0 U (D (cq fB []) y) _ d.out.bx.c underlying41 U bV ?_)
  | (go_at_call 9;refine(zej (cq fB []) y (.slice none 0 0) [] 64 Y1 d.out.sl (HF.out.kept d.out.low).shapes (zma _ _) (λx hx=>by cases hx) R.out (by show (0:Int)<=20000;decide) U ⟨by decide,by show (0:Int)+64<=200000;decide⟩).mono ?_
     rintro e q ⟨F,N,vln,vsm,vw,rfl,f,_,_,_,g⟩
     change Told F N (dr.clocks 64) vln vsm vw q at f
     have h:=HK.out;rw[show (⟨⟨cq fB [],0,[]⟩,[],[],[]⟩:Cs)=dr from U,<- h];rw[<- h] at f;obtain⟨a1,c1,e1⟩:=qy f.ln;obtain⟨a2,c2,e2⟩:=qy f.sm;obtain⟨a3,n3,c3,e3⟩:=mi f.ws;rw[I.out.1] at e1;rw[I.out.2.1] at e2;subst e1 e2 e3;have V:=hid (jL f.sl);have i:=hid (d.out.bx.kept g);have r:=hid (bn d.out.low g);have W:w2.heap.size≠q.heap.size:=by have:=i.out.z;omega
     obtain⟨X,Y⟩:∃ X,X=K.s.M:=⟨_,U⟩
     have Z:Hid (X.main.Waits=true/\X.clock=64/\X.b.l=1):=hid (by rw[Y];exact I.out.2.2);rw[<- Y];clear f g Y h)
  | (refine wpList_store_mid U 41 _ _ U w2.heap.size 0 (D X F.S).toArray U U ((i.out.over _).there 0 75 (by rw[cy];omega)) bV (fG _ _ V.out) ?_
     refine Pl.cutL (LE w w2.heap.size q.heap.size X F.S [.slice none 0 0,.slice none 0 0,.slice none 0 0]) (LE.mk1 r.out d.out.ge i.out) ?_;intro Y2 t;have u:=hid t;clear t)
  | (refine wpList_store_mid U 47 _ _ U q.heap.size 0 #[.slice a1 1 c1,.slice a2 4 c2,.slice a3 n3 c3] U U (u.out.sh.there 0 3 (by simp)) jK (by simp[Value.oneCell']) ?_
     refine Pl.cutL (LE w w2.heap.size q.heap.size X F.S [.slice a1 1 c1,.slice a2 4 c2,.slice a3 n3 c3]) (u.out.put W r.out.size) ?_;intro Y3 a;have HY3:=hid a;have y0:=a.sh.at 0 _ U;have y1:=a.sh.at 1 _ U;have yz:=a.sh.z;obtain⟨x1,x2,x3⟩:=cell_of a.bx;have xz:=a.bx.z;rw[Z.out.1] at x1;rw[Z.out.2.1] at x2;rw[Z.out.2.2] at x3;clear a))
 go_ret;exact⟨U,HY3.out.low⟩
structure R3 (w1 : World) (X : Mach) (S' : Sl) (L : List Value) (Y : World) : Prop where
 old:Below w1.heap.size w1 Y
 x:Bx Y w1.heap.size (D X S')
 s:Bx Y (w1.heap.size+1) L
section
variable {w1 Y Y' : World} {X : Mach} {S' : Sl} {L : List Value}
theorem R3.mk1(w1:World)(X:Mach)(S':Sl):R3 w1 X S' nil3 (((w1.alloc (.cells (D aE aM).toArray 41)).alloc (.cells #[.slice none 0 0,.slice none 0 0,.slice none 0 0] 47)).setCells w1.heap.size 0 (D X S')):=by
 have h1:=((Bx.new w1 (D aE aM) 41 (b:=w1.heap.size) U).over (.cells #[.slice none 0 0,.slice none 0 0,.slice none 0 0] 47)).puts 0 (D X S') (by rw[cy,cy];omega);rw[jJ _ _ (by rw[cy,cy])] at h1;exact⟨j4 (stA (stA (J w1) _) _) (ak _) _ _,h1,DW.bb (Bx.new (w1.alloc (.cells (D aE aM).toArray 41)) nil3 47 (b:=w1.heap.size+1) (by simp)) (by omega)⟩
theorem R3.put{x y z a b c:Value}(h:R3 w1 X S' [x,y,z] Y):R3 w1 X S' [a,b,c] (Y.setCells (w1.heap.size+1) 0 [a,b,c]):=by
 have h1:=h.s.puts 0 [a,b,c] (by simp);rw[jJ _ _ (by simp)] at h1;exact⟨j4 h.old (by omega) _ _,DW.bb h.x (by omega),h1⟩
theorem R3.kept(h:R3 w1 X S' L Y)(hb:Below Y.heap.size Y Y'):R3 w1 X S' L Y':=⟨bn h.old hb,h.x.kept hb,h.s.kept hb⟩
end
theorem R3.th1(w1:World):((w1.alloc (.cells (D aE aM).toArray 41)).alloc (.cells #[.slice none 0 0,.slice none 0 0,.slice none 0 0] 47)).there w1.heap.size 0 75:=((Bx.new w1 (D aE aM) 41 (b:=w1.heap.size) rfl).over _).there 0 75 (by rw[cy];omega)
theorem zcC(M:Mach)(S:Sl)(n:Int)(w:World):Calls prog 15 #[.agg (D M S).toArray,.int .i64 n] w λe w'=>e=.returned (.bool (decide (19000<M.b.f)))/\Below w.heap.size w w':=by
 have hB:=Bx.new w (D M S) 41 (b:=w.heap.size) U;have a:=hB.at 64 (.int .i64 M.b.f) U;clear hB;go_enter func15,ntmps15;go_wp2;go_ret;exact⟨U,stA (J w) _⟩
end Go.Proofs.YthghjlinhokimaaGreatDoor
