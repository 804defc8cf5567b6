/-
  Parts of a proof, joined.
-/
import Derived.Test.YthghjlinhokimaaGreatDoorZbA
import Derived.Test.YthghjlinhokimaaGreatDoorZbLockRun02
import Derived.Test.YthghjlinhokimaaGreatDoorZb35
set_option linter.all false
set_option maxRecDepth 100000
set_option maxHeartbeats 3200000
open Option renaming none->G,some->A
open Go renaming World->u,Value->π,Calls->Δ,Addr->cK
open Bool renaming false->ξ,true->Γ
open Go.Proofs.Tryz renaming prog->ω
open Go.Act renaming put->ag
open Or renaming inl->aj,inr->ao
open Go.Result renaming andThen->aE
open Go.RowKit renaming intOf->aU
open Go.Lib renaming byteCells->aV,cut->bA,TabIs->fm,countB->fT,hasSuffix->ic,split->il,pow10Tab->iZ,splitK->jA,splitB->lj,trimSuffix->lq
open Go.Value renaming oneCell'->bi,slice->κ,int->J,bool->ν,tuple->Ψ,string->Ω,agg->ac,pointer->aB
open UInt8 renaming ofNat->bF
open Go.Instr renaming lookup->dV
open Go.Exit renaming thenS->p8
open Go.IntKind renaming i64->Q
open Go.Ending renaming returned->μ
open Go.Obj renaming cells->χ
namespace Go.Proofs.YthghjlinhokimaaGreatDoor
open Go.ChangeShapes Go.WideShapes Go.ChangeAt Go.RowKit Go.Proofs.Tryz
def strsAt(w:u)(g:Nat)(ps:List S.By):Prop:=∀(j:Nat) (s:S.By),ps[j]?=A s->w.cell? ⟨g,j,G⟩=A (Ω (aT s))
theorem strsAt.kept{w w':u}{g B:Nat}{ps:List S.By}(h:strsAt w g ps)(hb:Below B w w')(hB:g<B):strsAt w' g ps:=λj s a=>(hb.cell hB).trans (h j s a)
theorem zeo{a:S.By}{ps:List S.By}{ln:Nat}{st b:S.St}(h:S.readOrder a ps ln st=.ok b):∃ k o nm,S.opOf a=A k/\k<32/\k≠30/\ps.length=(S.parts k).length/\S.readParts (S.parts k) ps S.Ord.zero []=A (o,nm)/\O.okB k o.d o.s o.n o.w=Γ/\S.put (O.words k o.d o.s o.n o.w) nm ln st=.ok b:=by
 unfold S.readOrder at h;split at h
 ·cases h
 ·rename_i k f
  have g:=gN f;have hp:=mU f;have c:k<32:=by simpa using g
  have e:k≠30:=by simp at hp;exact hp.1
  split at h
  ·rename_i i
   split at h
   ·cases h
   ·rename_i o nm j
    split at h
    ·rename_i hc
     refine⟨k,o,nm,f,c,e,i,j,?_,h⟩;unfold O.ck at hc;rw[(O.isOp_iff _).2 ⟨by omega,by omega,by omega⟩,bR] at hc;cases hb:O.okB k o.d o.s o.n o.w
     ·rw[hb] at hc;simp at hc
     ·rfl
    ·cases h
  ·cases h
theorem drop_at{α:Type}{l:List α}{j:Nat}{x:α}(h:l[j]?=A x):l.drop j=x::l.drop (j+1):=by
 obtain⟨a,e⟩:=ay.1 h;rw[dx a,e]
theorem zg9{k j p:Nat}{ps:List S.By}{s:S.By}{o:S.Ord}{nm:S.By}{r:S.Ord × S.By}(hp:(S.parts k)[j]?=A p)(b:ps[j]?=A s)(h:S.readParts ((S.parts k).drop j) (ps.drop j) o nm=A r):∃ x,S.readPart p s o nm=A x/\S.readParts ((S.parts k).drop (j+1)) (ps.drop (j+1)) x.1 x.2=A r:=by
 rw[drop_at hp,drop_at b] at h;simp only[S.readParts] at h;cases a:S.readPart p s o nm with
 | none=>rw[a] at h;cases h
 | some x=>rw[a] at h;exact⟨x,D,h⟩
theorem zxT(s:ByteArray)(v:Int)(h:S.reg (bs s)=A v)(w:u):Δ ω 331 #[Ω s] w λe w'=>e=μ (Ψ #[J Q v,ν Γ])/\w=w':=by
 have:=zfr s w;rw[h] at this;exact this.mono λe w' a=>⟨a.1,a.2.symm⟩
theorem zjm(p:Option cK)(v:Int)(w:u):Δ ω 329 #[.pointer p,J Q v,ν Γ] w λe w'=>e=μ (J Q v)/\w=w':=(zpM p v w).mono λe w' a=>⟨a.1,a.2.symm⟩
theorem zAl(g:Nat)(w:u):Δ ω 328 #[J Q 0,aB (A ⟨g,0,G⟩)] w λe w'=>e=μ (aB (A ⟨g,1,G⟩))/\w=w':=(wI g w).mono λe w' a=>⟨a.1,a.2.symm⟩
theorem zAm(g:Nat)(w:u):Δ ω 328 #[J Q 1,aB (A ⟨g,0,G⟩)] w λe w'=>e=μ (aB (A ⟨g,2,G⟩))/\w=w':=(wJ g w).mono λe w' a=>⟨a.1,a.2.symm⟩
theorem zAn(g:Nat)(w:u):Δ ω 328 #[J Q 2,aB (A ⟨g,0,G⟩)] w λe w'=>e=μ (aB (A ⟨g,4,G⟩))/\w=w':=(wK g w).mono λe w' a=>⟨a.1,a.2.symm⟩
theorem zAo(g:Nat)(w:u):Δ ω 328 #[J Q 3,aB (A ⟨g,0,G⟩)] w λe w'=>e=μ (aB (A ⟨g,3,G⟩))/\w=w':=(wL g w).mono λe w' a=>⟨a.1,a.2.symm⟩
theorem zyv(k:Nat)(o:S.Ord)(p:Nat)(hp:p<4)(v:Int):(ny k o).setIfInBounds (t7 p) (J Q v)=ny k (o.set p v):=by
 have hc:p=0 \/ p=1 \/ p=2 \/ p=3:=by omega
 rcases hc with rfl|rfl|rfl|rfl <;> rfl
def oD(w:u)(g k:Nat)(o:S.Ord):Prop:=w.heap[g]?=A (χ (ny k o) 191 (0,0))
theorem oD.kept{w w':u}{g k:Nat}{o:S.Ord}(h:oD w g k o)(hb:Below w.heap.size w w'):oD w' g k o:=(hb.block g (aa.1 h).1).trans h
theorem oD.lt{w:u}{g k:Nat}{o:S.Ord}(h:oD w g k o):g<w.heap.size:=(aa.1 h).1
theorem oD.frozen{w:u}{g k:Nat}{o:S.Ord}(h:oD w g k o)(i:Nat):w.frozen? ⟨g,i,G⟩=ξ:=Lib.frozen_of_heap h i
theorem oD.cell{w:u}{g k:Nat}{o:S.Ord}(h:oD w g k o)(i:Nat):w.cell? ⟨g,i,G⟩=(ny k o)[i]?:=Lib.cell_of_heap h i
theorem oD.set{w:u}{g k:Nat}{o:S.Ord}(h:oD w g k o)(p:Nat)(hp:p<4)(v:Int):oD (w.setCell ⟨g,t7 p,G⟩ (J Q v)) g k (o.set p v):=by
 unfold oD;rw[zb2 h,zyv k o p hp v]
theorem zk9{w:u}{mo:Nat}(h:kM w mo (j0 32))(c:S.By)(k:Nat)(a:S.opOf c=A k):(dV 216 (.map (A mo)) (Ω (aT c)) Γ).run ω w=.ok (Ψ #[J Q k,ν Γ]) w:=by
 have:=zjh (P:=ω) underlying216 underlying9 h (aT c) (zjl w);rw[zvM,sK,a] at this;exact this
theorem zvO{k:Nat}(e:k<32){o:S.Ord}(b:O.okB k o.d o.s o.n o.w=Γ):∀ x∈O.words k o.d o.s o.n o.w,0<=x/\x<=65535:=by
 obtain⟨b1,b2,b3,b4⟩:=O.ok_bd b;have c:=O.first_bd (op:=(k:Int)) (n:=o.n) ⟨by omega,by omega⟩ b1 b2;intro x a;unfold O.words at a;split at a
 ·simp at a;rcases a with rfl|rfl
  ·exact c
  ·exact b4
 ·simp at a;subst a;exact c
theorem zla(k:Nat)(o:S.Ord):0<(O.words k o.d o.s o.n o.w).length:=by unfold O.words;split <;> simp
theorem rO(w:u)(B b mo mp:Nat)(ua ra:Option cK)(uc rc:Nat)(st a:S.St)(ln:Nat)(i:Rd w B b mo mp ua uc ra rc st ln)(w2:u)(c:Below w.heap.size w w2)(g:Nat)(m:w.heap.size<=g)(p:g<w2.heap.size)(k:Nat)(q:k<32)(o:S.Ord)(j:O.okB k o.d o.s o.n o.w=Γ)
 (r:wordsAt w2 g (O.words k o.d o.s o.n o.w)) (nm:S.By) (t:S.put (O.words k o.d o.s o.n o.w) nm ln st=.ok a) (l:B<=w.heap.size) (f:st.uses.length+1<=1000000) :
 Δ ω 326 #[aB (A ⟨b,0,G⟩),κ (A ⟨g,0,G⟩) (O.words k o.d o.s o.n o.w).length (O.words k o.d o.s o.n o.w).length,Ω (aT nm)] w2 λe w' =>
  e=μ (Ψ #[])/\(∃ ua' uc' ra' rc',Rd w' B b mo mp ua' uc' ra' rc' a ln)/\Below B w2 w':=by
 have v:=i.lt;refine zsI w2 B b mo mp ua ra uc rc st a ln (i.kept c) g _ _ nm t r p (λh=>?_) (by omega) (zvO q j) (zla k o) (ψ _) (ax l c.size) f;have:=(i.rom.lt _ h).2;omega
theorem zlb(k:Nat)(f:k<32)(b:k≠30)(o:S.Ord)(a:O.okB k o.d o.s o.n o.w=Γ)(w:u)(c:br w):Δ ω 272 #[ac #[J Q k,J Q o.d,J Q o.s,J Q o.n,J Q o.w]] w λe w' =>
  ∃ g,e=μ (Ψ #[κ (A ⟨g,0,G⟩) (O.words k o.d o.s o.n o.w).length (O.words k o.d o.s o.n o.w).length,J Q 0])/\wordsAt w' g (O.words k o.d o.s o.n o.w)/\w.heap.size<=g/\g<w'.heap.size/\Below w.heap.size w w' :=
 zkY k o.d o.s o.n o.w ((O.isOp_iff _).2 ⟨by omega,by omega,by omega⟩) a w c
theorem zng(w:u)(B b mo mp:Nat)(ua ra:Option cK)(uc rc:Nat)(st f:S.St)(ln:Nat)(h:Rd w B b mo mp ua uc ra rc st ln)(a:S.By)(k:Nat)(j:S.opOf a=A k)(s:k<32)(l:k≠30)(hp:S.parts k=[])(nm:S.By)(d:S.put (O.words k 0 0 0 0) [] ln st=.ok f)(m:O.okB k 0 0 0 0=Γ)(a0:Option cK)(c0:Nat)(o:B<=w.heap.size)(p:st.uses.length+1<=1000000)(E:AF w):Δ ω 260 #[aB (A ⟨b,0,G⟩),Ω (aT a),κ a0 0 c0] w λe w' =>
  e=μ (Ψ #[])/\(∃ ua' uc' ra' rc',Rd w' B b mo mp ua' uc' ra' rc' f ln)/\Below B w w':=by
 have I:=zk9 h.ops a k j;have L:w.cell? ⟨b,0,G⟩=A (.map (A mo)):=h.cell 0;have M:=h.lt;have N:=hid h;have P:=hid hp;have F:=hid E;have HPUT:=hid d;have q:=hid m;clear h hp E d j m;go_enter func260,ntmps260;go_wp2_with (go_at_call 327;refine(zkZ k s l P.out _ F.out.shapes).mono ?_;rintro e w1 ⟨a1,H,rfl,c⟩)
 go_loop [10,42] (λn i=>n=Ω ⟨#[]⟩/\i=J Q 0) (λ_ _=>0)
 case atStart=>exact⟨D,D⟩
 case round =>
  obtain⟨rfl,rfl⟩:=hrel;go_wp2_with (first
   | (go_at_call 272;refine(zlb k s l S.Ord.zero q.out _ (rZ (F.out.kept c) _).shapes).mono ?_;rintro e w2 ⟨g,rfl,t,v,x,r⟩)
   | (go_at_call 326;refine(rO _ B b mo mp ua ra uc rc st f ln (N.out.kept (stA c (χ #[J Q k,J Q 0,J Q 0,J Q 0,J Q 0] 191))) w2 r g v x k s S.Ord.zero q.out t [] HPUT.out (ax o (stA c (χ #[J Q k,J Q 0,J Q 0,J Q 0,J Q 0] 191)).size) p).mono ?_;rintro e R ⟨rfl,y,z⟩))
  go_end0;exact⟨D,y,(bB o (bw (stA c _) r)).trans z⟩
theorem znh(w:u)(B b mo mp:Nat)(ua ra:Option cK)(uc rc:Nat)(st N:S.St)(ln:Nat)(P:Rd w B b mo mp ua uc ra rc st ln)(f:S.By)(k:Nat)(R:S.opOf f=A k)(hk:k<32)(T:k≠30)(hp:0<(S.parts k).length)(m:S.Ord)(r:S.By)(ps:List S.By)(hpl:ps.length=(S.parts k).length)(U:∀ s∈ps,s.length<=4000)(V:S.readParts (S.parts k) ps S.Ord.zero []=A (m,r))(W:O.okB k m.d m.s m.n m.w=Γ)
 (M:S.put (O.words k m.d m.s m.n m.w) r ln st=.ok N) (X cp:Nat) (hcp:(S.parts k).length<=cp) (hgp:X<w.heap.size) (Z:strsAt w X ps) (hBw:B<=w.heap.size) (hul0:st.uses.length+1<=1000000) (hF:AF w) :
 Δ ω 260 #[aB (A ⟨b,0,G⟩),Ω (aT f),κ (A ⟨X,0,G⟩) (S.parts k).length cp] w λe w' =>
  e=μ (Ψ #[])/\(∃ ua' uc' ra' rc',Rd w' B b mo mp ua' uc' ra' rc' N ln)/\Below B w w':=by
 have hlk:=zk9 P.ops f k R;have hc0:w.cell? ⟨b,0,G⟩=A (.map (A mo)):=P.cell 0;have hlt:=P.lt;have HR:=hid P;have HF0:=hid hF;have HPUT:=hid M;have HOK:=hid W;have HPS:=hid U;have HSP:=hid Z;have HRP:=hid V;have h4:=yW k;clear P hF M R W U Z V;go_enter func260,ntmps260;go_wp2_with (go_at_call 327;refine(zk0 k hk T hp _ HF0.out.shapes).mono ?_;rintro e w1 ⟨g1,cap1,rfl,hpa,hg1,hg1',hcap1,t⟩)
 have HF:=hid (HF0.out.kept t);have HR1:=hid (HR.out.kept t);have HSP1:=hid (HSP.out.kept t hgp);have hPA:=hid hpa;have hsz1:=t.size;clear hpa;go_loopw [10,42] (λn i wr=>∃(j:Nat) (o:S.Ord) (nm:S.By),j<=(S.parts k).length/\i=J Q j/\n=Ω (aT nm)/\S.readParts ((S.parts k).drop j) (ps.drop j) o nm=A (m,r)/\oD wr w1.heap.size k o/\Below w1.heap.size w1 wr) (λ_ i _=>(S.parts k).length-(aU i).toNat)
 case atStart=>exact⟨0,S.Ord.zero,[],by omega,D,D,HRP.out,aM w1 _,stA (aR _) _⟩
 case round =>
  obtain⟨j,o,nm,hj,rfl,rfl,v,l,a⟩:=hrel;have hszr:=a.size;have l:=hid l;by_cases hlt2:j<(S.parts k).length
  ·obtain⟨p,F⟩:∃ p,(S.parts k)[j]?=A p:=⟨_,aq hlt2⟩
   obtain⟨s,H⟩:∃ s,ps[j]?=A s:=⟨_,aq (by omega)⟩
   obtain⟨x,c,z⟩:=zg9 F H v;have hp4:=zjc F;have hsl:=HPS.out s (bu H);have cs:wr.cell? ⟨X,j,G⟩=A (Ω (aT s)):=(HSP1.out.kept a (by omega)) j s H;have ck:wr.cell? ⟨g1,j,G⟩=A (J Q p):=(hPA.out.kept a hg1') j p F;have hgpr:X<wr.heap.size:=by omega
   have hg1r:g1<wr.heap.size:=by omega
   have hjI:(j:Int)<(S.parts k).length:=by omega
   have I:=hid z;clear v z F H;have hc:p=0 \/ p=1 \/ p=2 \/ p=3:=by omega
   clear hp4;rcases hc with rfl|rfl|rfl|rfl
   ·obtain⟨y,L,rfl⟩:∃ y,S.reg s=A y/\x=(o.set 0 y,nm):=by
     simp only[S.readPart,show ¬ (0:Nat)=2 by omega,show ¬ (0:Nat)=3 by omega,fj] at c;cases E:S.reg s with
     | none=>rw[E] at c;cases c
     | some y=>rw[E] at c;exact⟨y,D,(aL c).symm⟩
    have HY:=hid L;have f2:=l.out.frozen 1;have z2:=l.out.lt;have d2:wr.cell? ⟨w1.heap.size,1,G⟩=A (J Q o.d):=l.out.cell 1;clear L;clear c;go_wp2_with (first
     | (go_at_call 328;refine(zAl _ _).mono ?_;rintro e w' ⟨rfl,rfl⟩)
     | (go_at_call 331;refine(zxT (aT s) y HY.out _).mono ?_;rintro e w' ⟨rfl,rfl⟩)
     | (go_at_call 329;refine(zjm _ y _).mono ?_;rintro e w' ⟨rfl,rfl⟩))
    go_roundw
    case rel=>exact⟨j+1,o.set 0 y,nm,by omega,by go_num,D,I.out,(l.out.set 0 (by omega) y),a.setCell (ψ _) _⟩
    case measure=>simp[aU];omega
   ·obtain⟨y,L,rfl⟩:∃ y,S.reg s=A y/\x=(o.set 1 y,nm):=by
     simp only[S.readPart,show ¬ (1:Nat)=2 by omega,show ¬ (1:Nat)=3 by omega,fj] at c;cases E:S.reg s with
     | none=>rw[E] at c;cases c
     | some y=>rw[E] at c;exact⟨y,D,(aL c).symm⟩
    have HY:=hid L;have f2:=l.out.frozen 2;have z2:=l.out.lt;have d2:wr.cell? ⟨w1.heap.size,2,G⟩=A (J Q o.s):=l.out.cell 2;clear L;clear c;go_wp2_with (first
     | (go_at_call 328;refine(zAm _ _).mono ?_;rintro e w' ⟨rfl,rfl⟩)
     | (go_at_call 331;refine(zxT (aT s) y HY.out _).mono ?_;rintro e w' ⟨rfl,rfl⟩)
     | (go_at_call 329;refine(zjm _ y _).mono ?_;rintro e w' ⟨rfl,rfl⟩))
    go_roundw
    case rel=>exact⟨j+1,o.set 1 y,nm,by omega,by go_num,D,I.out,(l.out.set 1 (by omega) y),a.setCell (ψ _) _⟩
    case measure=>simp[aU];omega
   ·obtain⟨y,L,rfl⟩:∃ y,S.wordOrName s=A y/\x=(o.set 2 y.1,y.2):=by
     simp only[S.readPart,fO] at c;cases E:S.wordOrName s with
     | none=>rw[E] at c;cases c
     | some y=>rw[E] at c;exact⟨y,D,(aL c).symm⟩
    have HC:=hid (zen (A ⟨b,0,G⟩) (aT s) y (by rw[sU];omega) L wr (HF.out.kept a));clear c;go_wp2_with (first
     | (go_at_call 328;refine(zAn _ _).mono ?_;rintro e w' ⟨rfl,rfl⟩)
     | (go_at_call 325;refine HC.out.mono ?_;rintro e w2 ⟨rfl,q⟩;have h:=hid (l.out.kept q);have f2:=h.out.frozen 4;have z2:=h.out.lt;have d2:w2.cell? ⟨w1.heap.size,4,G⟩=A (J Q o.w):=h.out.cell 4))
    go_roundw
    case rel=>exact⟨j+1,o.set 2 y.1,y.2,by omega,by go_num,D,I.out,(h.out.set 2 (by omega) y.1),(bw a q).setCell (ψ _) _⟩
    case measure=>simp[aU];omega
   ·obtain⟨y,L,rfl⟩:∃ y,S.num s=A y/\x=(o.set 3 y,nm):=by
     simp only[S.readPart,show ¬ (3:Nat)=2 by omega,fj,fO] at c;cases E:S.num s with
     | none=>rw[E] at c;cases c
     | some y=>rw[E] at c;exact⟨y,D,(aL c).symm⟩
    have HC:=hid (zk5 (aT s) y (by rw[sU];omega) L wr (HF.out.kept a));clear c;go_wp2_with (first
     | (go_at_call 328;refine(zAo _ _).mono ?_;rintro e w' ⟨rfl,rfl⟩)
     | (go_at_call 330;refine HC.out.mono ?_;rintro e w2 ⟨rfl,q⟩;have h:=hid (l.out.kept q);have f2:=h.out.frozen 3;have z2:=h.out.lt;have d2:w2.cell? ⟨w1.heap.size,3,G⟩=A (J Q o.n):=h.out.cell 3)
     | (go_at_call 329;refine(zjm _ y _).mono ?_;rintro e w' ⟨rfl,rfl⟩))
    go_roundw
    case rel=>exact⟨j+1,o.set 3 y,nm,by omega,by go_num,D,I.out,(h.out.set 3 (by omega) y),(bw a q).setCell (ψ _) _⟩
    case measure=>simp[aU];omega
  ·have hjn:j=(S.parts k).length:=by omega
   subst hjn;rw[fu,<- hpl,fu] at v;have hrd':(o,nm)=(m,r):=aL v;cases hrd';have e0:wr.cell? ⟨w1.heap.size,0,G⟩=A (J Q k):=l.out.cell 0;have e1:wr.cell? ⟨w1.heap.size,1,G⟩=A (J Q m.d):=l.out.cell 1;have e2:wr.cell? ⟨w1.heap.size,2,G⟩=A (J Q m.s):=l.out.cell 2;have e3:wr.cell? ⟨w1.heap.size,3,G⟩=A (J Q m.n):=l.out.cell 3;have e4:wr.cell? ⟨w1.heap.size,4,G⟩=A (J Q m.w):=l.out.cell 4;have z0:=l.out.lt;clear v;go_wp2_with (first
    | (go_at_call 272;refine(zlb k hk T m HOK.out _ (HF.out.kept a).shapes).mono ?_;rintro e w2 ⟨g,rfl,hw2,hg0,hg2,q⟩)
    | (go_at_call 326;refine(rO wr B b mo mp ua ra uc rc st N ln (HR1.out.kept a) w2 q g hg0 hg2 k hk m HOK.out hw2 r HPUT.out (ax hBw (ax hsz1 hszr)) hul0).mono ?_;rintro e w3 ⟨rfl,hR3,hb3⟩))
   go_end0;exact⟨D,hR3,(bB hBw (bw (bw t a) q)).trans hb3⟩
theorem zjn(l a:S.By)(g:l.length<=10000)(w:u)(b:AF w):Δ ω 53 #[Ω (aT l),Ω (aT a)] w λe w'=>e=μ (Ψ #[Ω (aT (bA l a).1),Ω (aT (bA l a).2.1),ν (bA l a).2.2])/\Below w.heap.size w w':=by
 obtain⟨m,c⟩:=b.len;refine(Tryz.strings_Cut (aT l) (aT a) m w (by rw[sU];omega) c).mono λe w' ⟨d,n,f⟩=>⟨d,?_⟩
 subst f;exact rq (aR w) n
theorem zb3(l a:S.By)(c:l.length<=10000)(w:u):Δ ω 257 #[Ω (aT l),Ω (aT a)] w λe w'=>e=μ (Ψ #[Ω (aT (lq l a)),ν (ic l a)])/\w=w' :=
 (Tryz.strings_CutSuffix (aT l) (aT a) w (by rw[sU];omega)).mono λe w' b=>⟨b.1,b.2.symm⟩
theorem zjo(l a:S.By):(bA l a).1.length<=l.length/\(bA l a).2.1.length<=l.length:=by
 unfold bA;split
 ·simp;omega
 ·simp
theorem ze3(a:S.By):∀(k:Nat) (s:S.By),∀ p∈jA a 0 k s,p.length<=s.length
 | 0,s,p,h=>by simp[jA] at h;subst h;exact ψ _
 | k+1,s,p,h=>by
  unfold jA at h;split at h
  ·simp at h;subst h;exact ψ _
  ·rcases bp.1 h with h|h
   ·subst h;simp;omega
   ·have:=ze3 a k _ p h
    simp at this;omega
theorem zqM(a:S.By)(k:Nat)(s:S.By):0<(jA a 0 k s).length:=by
 cases k with
 | zero=>simp[jA]
 | succ k=>unfold jA;split <;> simp
theorem zig(rest:S.By)(n:rest.length<=10000)(w:u)(g:AF w):Δ ω 169 #[Ω (aT rest),Ω ⟨#[44,32]⟩] w λe w'=>e=μ (κ (A ⟨w.heap.size,0,G⟩) (il rest S.comma).length (il rest S.comma).length)/\strsAt w' w.heap.size (il rest S.comma)/\w.heap.size<w'.heap.size/\Below w.heap.size w w':=by
 obtain⟨m,h⟩:=g.len;have i:=Lib.splitB_data (aT S.comma) 0 (fT (aT rest) (aT S.comma)) (aT rest);have hc:fT (aT rest) (aT S.comma)=Lib.count rest S.comma:=D;have a:=Lib.splitB_all (aT S.comma) (by decide) 0 _ (aT rest) D;have b:(lj (aT S.comma) 0 (fT (aT rest) (aT S.comma)) (aT rest)).map bs=il rest S.comma:=i;have d:(il rest S.comma).length=fT (aT rest) (aT S.comma)+1:=by rw[<- b,bf,a]
 refine(Tryz.strings_Split (aT rest) (aT S.comma) m w (by rw[sU];omega) h (by decide)).mono λe w' ⟨k,l⟩=>?_
 subst l;refine⟨by rw[k,d],λj s c=>?_,by simp,stA (aR _) _⟩;rw[ly _ _ _ _ D,ch,bn];rw[<- b,bn] at c;cases f:(lj (aT S.comma) 0 (fT (aT rest) (aT S.comma)) (aT rest))[j]? with
 | none=>rw[f] at c;cases c
 | some x =>
  rw[f] at c;cases c;simp[mk_bs]
theorem zdZ(l:S.By):(aT l).toList=l:=by rw[Lib.toList_data];rfl
def nt(w:u)(B b mo mp:Nat)(a:S.St)(ln:Nat)(e:Ending)(w':u):Prop:=e=μ (Ψ #[])/\(∃ ua' uc' ra' rc',Rd w' B b mo mp ua' uc' ra' rc' a ln)/\Below B w w'
theorem zlc(w:u)(B b mo mp:Nat)(ua ra:Option cK)(uc rc:Nat)(st c:S.St)(ln:Nat)(j:Rd w B b mo mp ua uc ra rc st ln)(a:S.By)(ps:List S.By)(f:∀ s∈ps,s.length<=4000)(l:S.readOrder a ps ln st=.ok c)(m:0<ps.length)(e:Nat)(g:e<w.heap.size)(h:strsAt w e ps)(i:B<=w.heap.size)(d:st.uses.length+1<=1000000)(n:AF w):Δ ω 260 #[aB (A ⟨b,0,G⟩),Ω (aT a),κ (A ⟨e,0,G⟩) ps.length ps.length] w (nt w B b mo mp c ln):=by
 obtain⟨k,o,nm,h1,h2,h3,h4,p,q,r⟩:=zeo l;have:=znh w B b mo mp ua ra uc rc st c ln j a k h1 h2 h3 (by omega) o nm ps h4 f p q r e ps.length (by omega) g h i d n;rw[<- h4] at this;exact this
theorem zjp(w:u)(B b mo mp:Nat)(ua ra:Option cK)(uc rc:Nat)(st c:S.St)(ln:Nat)(h:Rd w B b mo mp ua uc ra rc st ln)(a:S.By)(i:S.readOrder a [] ln st=.ok c)(f:B<=w.heap.size)(d:st.uses.length+1<=1000000)(j:AF w):Δ ω 260 #[aB (A ⟨b,0,G⟩),Ω (aT a),κ G 0 0] w (nt w B b mo mp c ln):=by
 obtain⟨k,o,nm,h1,h2,h3,h4,g,l,m⟩:=zeo i;have hp:S.parts k=[]:=bM.1 (by simpa using h4.symm);rw[hp] at g;have e:(S.Ord.zero,([]:S.By))=(o,nm):=aL g;cases e;exact zng w B b mo mp ua ra uc rc st c ln h a k h1 h2 h3 hp [] m l G 0 f d j
theorem zni(w:u)(B b mo mp:Nat)(ua ra:Option cK)(uc rc:Nat)(st a:S.St)(ln:Nat)(j:Rd w B b mo mp ua uc ra rc st ln)(ps:List S.By)(c:∀ s∈ps,s.length<=4000)(d:S.readWord ps ln st=.ok a)(g:Nat)(h:g<w.heap.size)(e:strsAt w g ps)(i:B<=w.heap.size)(f:st.uses.length+1<=1000000)(k:AF w):Δ ω 259 #[aB (A ⟨b,0,G⟩),κ (A ⟨g,0,G⟩) ps.length ps.length] w (nt w B b mo mp a ln):=by
 match ps,c,d,e with
 | [p],c,d,e=>exact znf w B b mo mp ua ra uc rc st a ln j g 1 p (c p (by simp)) (e 0 p D) h (by omega) d i f k
 | [],_,d,_=>cases d
 | _::_::_,_,d,_=>cases d
theorem zha(w:u)(B b mo mp:Nat)(ua ra:Option cK)(uc rc:Nat)(st a:S.St)(ln:Nat)(g:Rd w B b mo mp ua uc ra rc st ln)(l:S.By)(k:l.length<=4000)(hc:ic l [58]=Γ)(h:S.readPlace (lq l [58]) st=.ok a)(c:B<=w.heap.size):Δ ω 208 #[aB (A ⟨b,0,G⟩),Ω (aT l)] w (nt w B b mo mp a ln):=by
 have i:=hid (zb3 l [58] (by omega) w);rw[hc] at i;have j:=hid (zk8 w B b mo mp ua ra uc rc st a ln g _ h c);clear g h hc;go_enter func208,ntmps208;go_wp2_with (first
  | (go_at_call 257;refine i.out.mono ?_;rintro e w' ⟨rfl,rfl⟩)
  | (go_at_call 258;refine j.out.mono ?_;rintro e w1 ⟨rfl,d,f⟩))
 first|go_end0|refine Ξ (mH D _ _ _) D ?_
 exact⟨D,d,f⟩
theorem zjq(w:u)(B b mo mp:Nat)(ua ra:Option cK)(uc rc:Nat)(st d:S.St)(ln:Nat)(v:Rd w B b mo mp ua uc ra rc st ln)(l:S.By)(P:l.length<=4000)(hc:ic l [58]=ξ)(x:(bA l [32]).1=S.plain)(I:(bA l [32]).2.1≠[])
 (y:S.readWord (il (bA l [32]).2.1 S.comma) ln st=.ok d) (g:B<=w.heap.size) (i:st.uses.length+1<=1000000) (m:AF w) :
 Δ ω 208 #[aB (A ⟨b,0,G⟩),Ω (aT l)] w (nt w B b mo mp d ln):=by
 have z:=hid (zb3 l [58] (by omega) w);rw[hc] at z;have E:=hid (zjn l [32] (by omega) w m);have F:=(zjo l [32]).2;have n:Hid (∀ w1,AF w1->_):=λw1 o=>zig (bA l [32]).2.1 (by omega) w1 o
 have R:(aT (bA l [32]).2.1).toList.isEmpty=ξ:=by rw[yb];cases h:(bA l [32]).2.1 <;> simp_all
 rw[x] at E;have j:∀ s∈il (bA l [32]).2.1 S.comma,s.length<=4000:=λs L=>by have:=ze3 _ _ _ s L;omega
 have M:=hid v;have H:=hid m;have N:=hid y;have p:=hid j;generalize f:(bA l [32]).2.1=rest at *;clear v y hc m x j f I;have T:((aT S.plain).toList == [46,119,111,114,100])=Γ:=by rw[zdZ];rfl
 go_enter func208,ntmps208;go_wp2_with (first
  | (go_at_call 257;refine z.out.mono ?_;rintro e w' ⟨rfl,rfl⟩)
  | (go_at_call 53;refine E.out.mono ?_;rintro e w1 ⟨rfl,a⟩)
  | (go_at_call 169;refine(n.out _ (H.out.kept a)).mono ?_;rintro e w2 ⟨rfl,k,q,c⟩)
  | (go_at_call 259;refine(zni w2 B b mo mp ua ra uc rc st d ln (M.out.kept (bw a c)) _ p.out N.out w1.heap.size q k (ax g (bw a c).size) i (H.out.kept (bw a c))).mono ?_;rintro e U ⟨rfl,r,t⟩))
 first|go_end0|refine Ξ (mH D _ _ _) D ?_
 exact⟨D,r,(bB g (bw a c)).trans t⟩
theorem zhb(w:u)(B b mo mp:Nat)(ua ra:Option cK)(uc rc:Nat)(st f:S.St)(ln:Nat)(y:Rd w B b mo mp ua uc ra rc st ln)(l:S.By)(T:l.length<=4000)(hc:ic l [58]=ξ)(z:(bA l [32]).1≠S.plain)(L:(bA l [32]).2.1≠[])
 (E:S.readOrder (bA l [32]).1 (il (bA l [32]).2.1 S.comma) ln st=.ok f) (i:B<=w.heap.size) (j:st.uses.length+1<=1000000) (o:AF w) :
 Δ ω 208 #[aB (A ⟨b,0,G⟩),Ω (aT l)] w (nt w B b mo mp f ln):=by
 have F:=hid (zb3 l [58] (by omega) w);rw[hc] at F;have M:=hid (zjn l [32] (by omega) w o);have H:=(zjo l [32]).2;have p:Hid (∀ w1,AF w1->_):=λw1 q=>zig (bA l [32]).2.1 (by omega) w1 q
 have U:(aT (bA l [32]).2.1).toList.isEmpty=ξ:=by rw[yb];cases h:(bA l [32]).2.1 <;> simp_all
 have V:((aT (bA l [32]).1).toList == [46,119,111,114,100])=ξ:=by rw[zdZ];simpa [S.plain] using z
 have k:∀ s∈il (bA l [32]).2.1 S.comma,s.length<=4000:=λs N=>by have:=ze3 _ _ _ s N;omega
 have P:=hid y;have I:=hid o;have R:=hid E;have r:=hid k;generalize g:(bA l [32]).2.1=rest at *;generalize m:(bA l [32]).1=c at *;clear y E hc o z k g L m;go_enter func208,ntmps208;go_wp2_with (first
  | (go_at_call 257;refine F.out.mono ?_;rintro e w' ⟨rfl,rfl⟩)
  | (go_at_call 53;refine M.out.mono ?_;rintro e w1 ⟨rfl,a⟩)
  | (go_at_call 169;refine(p.out _ (I.out.kept a)).mono ?_;rintro e w2 ⟨rfl,n,t,d⟩)
  | (go_at_call 260;refine(zlc w2 B b mo mp ua ra uc rc st f ln (P.out.kept (bw a d)) c _ r.out R.out (zqM _ _ _) w1.heap.size t n (ax i (bw a d).size) j (I.out.kept (bw a d))).mono ?_;rintro e W ⟨rfl,v,x⟩))
 first|go_end0|refine Ξ (mH D _ _ _) D ?_
 exact⟨D,v,(bB i (bw a d)).trans x⟩
theorem zjr(w:u)(B b mo mp:Nat)(ua ra:Option cK)(uc rc:Nat)(st d:S.St)(ln:Nat)(n:Rd w B b mo mp ua uc ra rc st ln)(l:S.By)(y:l.length<=4000)(hc:ic l [58]=ξ)(o:(bA l [32]).1≠S.plain)(p:(bA l [32]).2.1=[])
 (q:S.readOrder (bA l [32]).1 [] ln st=.ok d) (g:B<=w.heap.size) (h:st.uses.length+1<=1000000) (j:AF w) :
 Δ ω 208 #[aB (A ⟨b,0,G⟩),Ω (aT l)] w (nt w B b mo mp d ln):=by
 have r:=hid (zb3 l [58] (by omega) w);rw[hc] at r;have s:=hid (zjn l [32] (by omega) w j);have z:(aT (bA l [32]).2.1).toList.isEmpty=Γ:=by rw[yb,p];rfl
 have E:((aT (bA l [32]).1).toList == [46,119,111,114,100])=ξ:=by rw[zdZ];simpa [S.plain] using o
 have t:=hid n;have v:=hid j;have x:=hid q;generalize f:(bA l [32]).2.1=rest at *;generalize i:(bA l [32]).1=a at *;clear n q hc j o f p i;go_enter func208,ntmps208;go_wp2_with (first
  | (go_at_call 257;refine r.out.mono ?_;rintro e w' ⟨rfl,rfl⟩)
  | (go_at_call 53;refine s.out.mono ?_;rintro e w1 ⟨rfl,c⟩)
  | (go_at_call 260;refine(zjp w1 B b mo mp ua ra uc rc st d ln (t.out.kept c) a x.out (ax g c.size) h (v.out.kept c)).mono ?_;rintro e F ⟨rfl,k,m⟩))
 first|go_end0|refine Ξ (mH D _ _ _) D ?_
 exact⟨D,k,(bB g c).trans m⟩
theorem znj(w:u)(B b mo mp:Nat)(ua ra:Option cK)(uc rc:Nat)(st c:S.St)(ln:Nat)(h:Rd w B b mo mp ua uc ra rc st ln)(l:S.By)(i:l.length<=4000)(a:S.readLine l ln st=.ok c)(e:B<=w.heap.size)(d:st.uses.length+1<=1000000)(j:AF w):Δ ω 208 #[aB (A ⟨b,0,G⟩),Ω (aT l)] w (nt w B b mo mp c ln):=by
 unfold S.readLine at a;cases hc:ic l [58] with
 | true =>
  rw[hc,am D] at a;exact zha w B b mo mp ua ra uc rc st c ln h l i hc a e
 | false =>
  rw[hc,ae (by simp)] at a;by_cases g:(bA l [32]).1=S.plain
  ·rw[am g] at a
   by_cases f:(bA l [32]).2.1=[]
   ·unfold S.partsOf at a
    rw[am f] at a;cases a
   ·unfold S.partsOf at a
    rw[ae f] at a;exact zjq w B b mo mp ua ra uc rc st c ln h l i hc g f a e d j
  ·rw[ae g] at a
   by_cases f:(bA l [32]).2.1=[]
   ·unfold S.partsOf at a
    rw[am f] at a;exact zjr w B b mo mp ua ra uc rc st c ln h l i hc g f a e d j
   ·unfold S.partsOf at a
    rw[ae f] at a;exact zhb w B b mo mp ua ra uc rc st c ln h l i hc g f a e d j
/-! ### how many uses a line leaves -/
theorem put_uses{ws:List Int}{nm:S.By}{ln:Nat}{st a:S.St}(h:S.put ws nm ln st=.ok a):a.uses.length<=st.uses.length+1:=by
 obtain⟨_,rfl⟩:=zjj h;simp only;split <;> simp
theorem zld{l:S.By}{ln:Nat}{st b:S.St}(h:S.readLine l ln st=.ok b):b.uses.length<=st.uses.length+1:=by
 unfold S.readLine at h;split at h
 ·obtain⟨_,_,rfl⟩:=zf4 h;simp
 ·split at h
  ·match hp:S.partsOf (bA l [32]).2.1,h with
   | [p],h=>obtain⟨v,nm,_,_,_,a⟩:=zjk h;exact put_uses a
   | [],h=>cases h
   | _::_::_,h=>cases h
  ·obtain⟨k,o,nm,_,_,_,_,_,_,a⟩:=zeo h
   exact put_uses a
theorem zf5{f:Nat}{s:S.By}{ln:Nat}{st b:S.St}(c:s≠[])(h:S.readLines (f+1) s ln st=.ok b):(bA s [10]).2.2=Γ /\ ∃ a,S.readLine (bA s [10]).1 ln st=.ok a/\S.readLines f (bA s [10]).2.1 (ln+1) a=.ok b:=by
 unfold S.readLines at h;rw[ae c] at h;split at h
 ·rename_i hc
  split at h
  ·rename_i a d
   exact⟨hc,a,d,h⟩
  ·cases h
 ·cases h
theorem zpN(s:S.By)(a:s≠[])(h:(bA s [10]).2.2=Γ):(bA s [10]).2.1.length<s.length:=by
 have hp:s.length≠0:=λe=>a (bM.1 e)
 unfold bA at h ⊢;split at h
 ·rename_i hi
  rw[am hi];simp;omega
 ·cases h
theorem zle(w:u)(B b mo mp:Nat)(ua ra:Option cK)(uc rc:Nat)(st k:S.St)(v:Rd w B b mo mp ua uc ra rc st 0)(y:st.uses=[])(s:S.By)(hl:s.length<=4000)(T:S.readLines s.length s 0 st=.ok k)(z:B<=w.heap.size)(V:AF w)(E:Hid (∀ w',Below B w w'->AF w')):Δ ω 129 #[aB (A ⟨b,0,G⟩),Ω (aT s)] w λe w'=>e=μ (Ψ #[])/\(∃ F ua' uc' ra' rc',Rd w' B b mo mp ua' uc' ra' rc' k F)/\Below B w w':=by
 have W:=hid v;have X:=hid T;have H:=v.hB;clear v T V;go_enter func129,ntmps129;go_wp2;go_loopw [1] (λr wr=>∃(t:S.By) (f ln:Nat) (c:S.St) (ua':Option cK) (uc':Nat) (ra':Option cK) (rc':Nat),r=Ω (aT t)/\t.length<=f/\t.length+ln<=4000/\S.readLines f t ln c=.ok k/\c.uses.length<=ln/\Rd wr B b mo mp ua' uc' ra' rc' c ln/\Below B w wr) (λr _=>match r with | Ω x=>x.size|_=>0)
 case atStart=>exact⟨s,s.length,0,st,ua,uc,ra,rc,D,ψ _,by omega,X.out,by rw[y];exact ψ _,W.out,bq _ _⟩
 case round =>
  obtain⟨t,f,ln,c,ua',uc',ra',rc',rfl,Z,htl,g,hul,o,h⟩:=hrel;have j:=ax z h.size;by_cases q:t=[]
  ·subst q
   rw[S.readLines_nil] at g;cases g;have he:(aT []).toList.isEmpty=Γ:=yb [];go_wp2;go_end0;exact⟨D,⟨ln,ua',uc',ra',rc',o⟩,h⟩
  ·have he:(aT t).toList.isEmpty=ξ:=by rw[yb];cases t <;> simp_all
   have htp:t.length≠0:=λe=>q (bM.1 e)
   obtain⟨I,rfl⟩:∃ I,f=I+1:=⟨f-1,by omega⟩
   obtain⟨hcut,p,l,d⟩:=zf5 q g;have m:=zpN t q hcut;have hl1:=(zjo t [10]).1;have n:=E.out wr h;have U:=hid (zjn t [10] (by omega) wr n);rw[hcut] at U;have HL:Hid (∀ w1,Below wr.heap.size wr w1->_):=λw1 (a:Below wr.heap.size wr w1)=>znj w1 B b mo mp ua' ra' uc' rc' c p ln (o.kept a) (bA t [10]).1 (by omega) l (ax j a.size) (by omega) (n.kept a)
   have hu2:=zld l;have HN:=hid d;clear g hcut l d n;go_wp2_with (first
    | (go_at_call 53;refine U.out.mono ?_;rintro e w1 ⟨rfl,a⟩)
    | (go_at_call 208;refine(HL.out w1 a).mono ?_;rintro e w2 ⟨rfl,⟨L,M,N,P,i⟩,R⟩;have c4:w2.cell? ⟨b,4,G⟩=A (J Q ln):=i.cell 4;have f4:=i.frozen 4;have z4:=i.lt))
   refine⟨⟨(bA t [10]).2.1,I,ln+1,p,L,M,N,P,D,by omega,by omega,HN.out,by omega,i.put_line (ln+1),((h.trans (bB j a)).trans R).setCell H _⟩,?_⟩;show (bA t [10]).2.1.length<t.length;exact m
/-! ### what holds of what a reader has read -/
def Inv(st:S.St):Prop:=st.rom.length<=1024/\(∀ θ∈st.uses,θ.2.1+2<=st.rom.length) /\ ∀ p∈st.places,p.2<=1024
theorem zsJ{ws:List Int}{nm:S.By}{ln:Nat}{st b:S.St}(hi:Inv st)(d:0<ws.length)(h:S.put ws nm ln st=.ok b):Inv b:=by
 obtain⟨c,rfl⟩:=zjj h;obtain⟨e,i2,i3⟩:=hi;refine⟨by simp[zc];exact c,λθ a=>?_,i3⟩;simp only[az,zc] at a ⊢;split at a
 ·have:=i2 θ a;omega
 ·rcases cO.1 a with a|a
  ·have:=i2 θ a;omega
  ·simp at a;subst a;simp only;omega
theorem zvP{l:S.By}{ln:Nat}{st b:S.St}(hi:Inv st)(h:S.readLine l ln st=.ok b):Inv b:=by
 unfold S.readLine at h;split at h
 ·obtain⟨_,_,rfl⟩:=zf4 h
  obtain⟨c,i2,i3⟩:=hi;refine⟨c,i2,λp hp=>?_⟩;rcases cO.1 hp with hp|hp
  ·exact i3 p hp
  ·simp at hp;subst hp;exact c
 ·split at h
  ·match hp:S.partsOf (bA l [32]).2.1,h with
   | [p],h=>obtain⟨v,nm,_,_,_,a⟩:=zjk h;exact zsJ hi (by simp) a
   | [],h=>cases h
   | _::_::_,h=>cases h
  ·obtain⟨k,o,nm,_,_,_,_,_,_,a⟩:=zeo h
   exact zsJ hi (zla k o) a
theorem zlf:∀(f:Nat) (s:S.By) (ln:Nat) (st a:S.St),Inv st->S.readLines f s ln st=.ok a->Inv a
 | 0,s,ln,st,a,hi,h=>by cases h;exact hi
 | f+1,s,ln,st,a,hi,h=>by
  by_cases b:s=[]
  ·subst b;rw[S.readLines_nil] at h;cases h;exact hi
  ·obtain⟨_,c,d,e⟩:=zf5 b h
   exact zlf f _ _ _ _ (zvP hi d) e
theorem zvQ:Inv S.St.zero:=⟨by simp[S.St.zero],by simp[S.St.zero],by simp[S.St.zero]⟩
section
variable {w : u} {B b mo mp : Nat} {ua : Option cK} {uc rc rg : Nat} {st : S.St} {ln : Nat}
theorem Rd.set_rom(h:Rd w B b mo mp ua uc (A ⟨rg,0,G⟩) rc st ln)(i:Nat)(x:UInt8):Rd (w.setCell ⟨rg,i,G⟩ (J .u8 x.toNat)) B b mo mp ua uc (A ⟨rg,0,G⟩) rc { st with rom:=st.rom.set i x } ln:=by
 obtain⟨d,a⟩:=h.rom.stored i (J .u8 x.toNat);have hb:(κ (A ⟨rg,0,G⟩) st.rom.length rc).ownBlock=A rg:=D;refine⟨h.hB,?_,h.ops.of_block (qB a h.ops.lt (λe=>h.rom_mo (hb.trans e.symm))),h.places.of_block (qB a h.places.lt (λe=>h.rom_mp (hb.trans e.symm))),h.hmp,h.ne,h.uses.kept a (h.rows.imp id (λc=>by rw[hb] at c;exact c)),?_⟩
 ·simp only[pE]
  exact(qB a h.lt (λe=>h.rom_b (hb.trans e.symm))).trans h.blk
 ·simp only[pE]
  have e:aV (st.rom.set i x)=(aV st.rom).set i (J .u8 x.toNat):=by unfold aV;rw[oJ]
  rw[e];exact d
theorem Rd.rg_ne(h:Rd w B b mo mp ua uc (A ⟨rg,0,G⟩) rc st ln):rg≠b/\rg<w.heap.size/\B<=rg:=by
 have h1:=h.rom_b;have h2:=h.rom.lt rg D;exact⟨λe=>h1 (by rw[e];rfl),h2.2,h2.1⟩
end
theorem zf6:∀(a:List (S.By × Nat × Nat)) (j:Nat) (θ:S.By × Nat × Nat),a[j]?=A θ->(iF a)[j*3]?=A (Ω (aT θ.1))/\(iF a)[j*3+1]?=A (J Q θ.2.1)/\(iF a)[j*3+2]?=A (J Q θ.2.2)
 | [],j,θ,h=>by simp at h
 | v::a,0,θ,h=>by simp at h;subst h;exact⟨D,D,D⟩
 | v::a,j+1,θ,h=>by
  have b:=zf6 a j θ (by simpa using h);rw[show (j+1)*3=j*3+3 by omega,show j*3+3+1=(j*3+1)+3 by omega,show j*3+3+2=(j*3+2)+3 by omega];exact b
theorem znk(w:u)(B b mo mp:Nat)(ua ra:Option cK)(uc rc:Nat)(st:S.St)(ln:Nat)(a:Rd w B b mo mp ua uc ra rc st ln)(c:st.uses=[]):Δ ω 130 #[aB (A ⟨b,0,G⟩)] w λe w'=>e=μ (Ψ #[])/\w'=w:=by
 have c2:w.cell? ⟨b,2,G⟩=A (κ ua 0 uc):=by have:=a.cell 2;rw[c] at this;exact this
 have d:=a.lt;clear a;go_enter func130,ntmps130;go_wp2
 go_loop [11] (λi=>i=J Q 0) (λ_=>0)
 case atStart=>rfl
 case round =>
  subst hrel;go_wp2;go_end0;exact⟨D,D⟩
theorem zlg{w:u}{mp:Nat}{ps:List (S.By × Nat)}(h:kM w mp (pl ps))(c:S.By)(p:S.By × Nat)(a:ps.find? (λp=>p.1 == c)=A p):(dV 216 (.map (A mp)) (Ω (aT c)) Γ).run ω w=.ok (Ψ #[J Q p.2,ν Γ]) w:=by
 have:=zjh (P:=ω) underlying216 underlying9 h (aT c) (zjl w);rw[zsG,sK,a] at this;exact this
theorem zyw{ps:List (S.By × Nat)}{θ:S.By × Nat × Nat}{b:List (S.By × Nat × Nat)}{rom a:S.By}(h:S.lay ps (θ::b) rom=.ok a):∃ p,ps.find? (λp=>p.1 == θ.1)=A p/\S.lay ps b ((rom.set θ.2.1 (bF (p.2/256))).set (θ.2.1+1) (bF (p.2%256)))=.ok a:=by
 unfold S.lay at h;split at h
 ·cases h
 ·rename_i p hp
  exact⟨p,hp,h⟩
theorem znl(w:u)(B b mo mp l uc rg rc:Nat)(st:S.St)(ln:Nat)(r:Rd w B b mo mp (A ⟨l,0,G⟩) uc (A ⟨rg,0,G⟩) rc st ln)(hu:0<st.uses.length)(Z:st.uses.length<=100000)(hi:Inv st)(h:S.By)(N:S.lay st.places st.uses st.rom=.ok h)(F:B<=w.heap.size):Δ ω 130 #[aB (A ⟨b,0,G⟩)] w λe w'=>e=μ (Ψ #[])/\Rd w' B b mo mp (A ⟨l,0,G⟩) uc (A ⟨rg,0,G⟩) rc { st with rom:=h } ln/\Below B w w':=by
 have c2:w.cell? ⟨b,2,G⟩=A (κ (A ⟨l,0,G⟩) st.uses.length uc):=r.cell 2;have hlt:=r.lt;have hBb:=r.hB;have HR:=hid r;have HS:=hid N;have HI:=hid hi;clear r N hi;go_enter func130,ntmps130;go_wp2;go_loopw [11] (λi wr=>∃(j:Nat) (rom:S.By),j<=st.uses.length/\i=J Q j/\rom.length=st.rom.length/\S.lay st.places (st.uses.drop j) rom=.ok h/\Rd wr B b mo mp (A ⟨l,0,G⟩) uc (A ⟨rg,0,G⟩) rc { st with rom:=rom } ln/\Below B w wr) (λi _=>st.uses.length-(aU i).toNat)
 case atStart=>exact⟨0,st.rom,by omega,D,D,HS.out,HR.out,bq _ _⟩
 case round =>
  obtain⟨j,rom,hj,rfl,s,d,c,o⟩:=hrel;have t:=ax F o.size;by_cases x:j<st.uses.length
  ·have hjI:(j:Int)<st.uses.length:=by omega
   obtain⟨θ,m⟩:∃ θ,st.uses[j]?=A θ:=⟨_,aq x⟩
   rw[drop_at m] at d;obtain⟨p,k,g⟩:=zyw d;obtain⟨nm,a,y⟩:=θ;obtain⟨pn,f⟩:=p;obtain⟨P,i2,i3⟩:=HI.out;have H:=i2 _ (bu m);have I:=i3 _ (gN k);simp only at H I g k;obtain⟨k0,k1,k2⟩:=zf6 _ _ _ m;have L:=c.uses.lt l D;have u0:wr.cell? ⟨l,j*3,G⟩=A (Ω (aT nm)):=by rw[c.uses.cellAt (j*3) (by simp only;omega)];exact k0
   have u1':wr.cell? ⟨l,j*3+1,G⟩=A (J Q a):=by rw[c.uses.cellAt (j*3+1) (by simp only;omega)];exact k1
   have u2':wr.cell? ⟨l,j*3+2,G⟩=A (J Q y):=by rw[c.uses.cellAt (j*3+2) (by simp only;omega)];exact k2
   have R:l<wr.heap.size:=L.2;have c1:wr.cell? ⟨b,1,G⟩=A (.map (A mp)):=c.cell 1;have c3:wr.cell? ⟨b,3,G⟩=A (κ (A ⟨rg,0,G⟩) st.rom.length rc):=by have:=c.cell 3;simp only[s] at this;exact this
   have hbr:=c.lt;obtain⟨hgb,hgl,z⟩:=c.rg_ne;have E:=hid (c.kept (stA (aR wr) (χ #[Ω (aT nm),J Q a,J Q y] 277)));have hlk:∀ q,(dV 216 (.map (A mp)) (Ω (aT nm)) Γ).run ω ((wr.alloc (χ #[Ω (aT nm),J Q a,J Q y] 277)).drewN q)=.ok (Ψ #[J Q f,ν Γ]) ((wr.alloc (χ #[Ω (aT nm),J Q a,J Q y] 277)).drewN q):=λq =>
    zlg ((E.out.kept (rq (aR _) q)).places) nm (pn,f) k
   have HN:=hid g;have HFP:=hid k;have n:=hid c;have hr1:st.rom.length<=1024:=P;clear d g k m k0 k1 k2 P i2 i3 c;have T:(a:Int)<st.rom.length:=by omega
   have U:(a:Int)+1<st.rom.length:=by omega
   have V:(0:Int)<=(a:Int)+1:=by omega
   have W:(0:Int)<=(a:Int):=by omega
   have hn1:rg≠wr.heap.size:=by omega
   obtain⟨va,da⟩:∃ v,wr.cell? ⟨rg,a,G⟩=A v:=⟨_,(n.out.rom.cellAt a (by simp only;omega)).trans (aq (by rw[zcS];simp only;omega))⟩
   obtain⟨vb,db⟩:∃ v,wr.cell? ⟨rg,a+1,G⟩=A v:=⟨_,(n.out.rom.cellAt (a+1) (by simp only;omega)).trans (aq (by rw[zcS];simp only;omega))⟩
   have fa:wr.frozen? ⟨rg,a,G⟩=ξ:=n.out.rom.frozenAt a;have fb:wr.frozen? ⟨rg,a+1,G⟩=ξ:=n.out.rom.frozenAt (a+1);have X:(f:Int)<=65535:=by omega
   have hwp:IntKind.u16.wrap (f:Int)=f:=by rw[bj];omega
   have hwa:IntKind.i64.wrap ((a:Int)+1)=(a:Int)+1:=by rw[aH];omega
   go_wp2;go_quiet (fail)
   go_wp2;go_region_held3 (λw'=>w'.cell? ⟨b,3,G⟩=A (κ (A ⟨rg,0,G⟩) st.rom.length rc)/\w'.cell? ⟨wr.heap.size,1,G⟩=A (J Q a))
    (first
      | go_keep
      | (go_split_ands
         refine⟨?_,?_⟩
         ·(rw[ap _ _ _ _ (by simp;omega)];assumption)
         ·(rw[ap _ _ _ _ (by simp;omega)];assumption)))
    ((go_at_call 209;refine(zif f _ (by omega) (by omega)).mono ?_;rintro e w' ⟨rfl,rfl⟩))
   go_wp2;have e1:(J .u8 ((f:Int)/256):π)=J .u8 ((bF (f/256)).toNat:Nat):=by rw[show (bF (f/256)).toNat=f/256 by simp;omega];rfl
   have e2:(J .u8 ((f:Int)%256):π)=J .u8 ((bF (f%256)).toNat:Nat):=by rw[show (bF (f%256)).toNat=f%256 by simp];rfl
   rw[e1,e2];refine⟨⟨j+1,(rom.set a (bF (f/256))).set (a+1) (bF (f%256)),by omega,by simp,by simp[s],HN.out,((E.out.kept (rq (aR _) (nq+1))).set_rom a _).set_rom (a+1) _,?_⟩,by simp[aU];omega⟩;have hd:Below B w ((wr.alloc (χ #[Ω (aT nm),J Q a,J Q y] 277)).drewN (nq+1)):=(o.alloc t _).trans (bB (by simp;omega) (rq (aR _) (nq+1)));exact(hd.setCell z _).setCell z _
  ·have M:j=st.uses.length:=by omega
   subst M;rw[fu] at d;cases d;go_wp2;go_end0;exact⟨D,c,o⟩
theorem zlh(w:u)(B b mo mp:Nat)(ua ra:Option cK)(uc rc:Nat)(st:S.St)(ln:Nat)(d:Rd w B b mo mp ua uc ra rc st ln)(f:st.uses.length<=100000)(hi:Inv st)(c:S.By)(i:S.lay st.places st.uses st.rom=.ok c)(j:B<=w.heap.size):Δ ω 130 #[aB (A ⟨b,0,G⟩)] w λe w'=>e=μ (Ψ #[])/\Rd w' B b mo mp ua uc ra rc { st with rom:=c } ln/\Below B w w':=by
 by_cases k:st.uses=[]
 ·rw[k] at i
  cases i;exact(znk w B b mo mp ua ra uc rc st ln d k).mono λe w' m=>⟨m.1,m.2 ▸ d,m.2 ▸ bq _ _⟩
 ·have n:0<st.uses.length:=by cases h:st.uses <;> simp_all
  obtain⟨θ,o⟩:∃ θ,θ∈st.uses:=by cases h:st.uses with
   | nil=>exact absurd h k
   | cons a l=>exact⟨a,by simp⟩
  have v:=hi.2.1 θ o;have p:∃ q,ua=A ⟨q,0,G⟩:=by
   rcases d.uses.2 with⟨h,x⟩|⟨g,r,s,h,_⟩
   ·omega
   ·exact⟨g,by injection h⟩
  have t:∃ rg,ra=A ⟨rg,0,G⟩:=by
   rcases d.rom.2 with⟨h,x⟩|⟨g,r,s,h,_⟩
   ·omega
   ·exact⟨g,by injection h⟩
  obtain⟨q,rfl⟩:=p;obtain⟨rg,rfl⟩:=t;exact znl w B b mo mp q uc rg rc st ln d n f hi c i j
theorem zqN(p q r:Option cK)(w:u):CallsD ω 127 #[.pointer p,.pointer q,.pointer r] .returning w λe a w'=>e=μ (Ψ #[])/\a=.returning/\w'=w:=by
 refine callsD_of_wpS func127 D λb cs c=>?_
 apply wpS_seq;apply wpS_region;simp[wpOpsS,go_sem,recoverD,c,ntmps127,p8];apply wpS_seq;apply wpS_seq;apply wpS_region;simp[wpOpsS,go_sem,p8];refine wpS_cond (t:=Γ) (by simp[Act.eval,Array.replicate]) ?_;simp only[fO];refine wpS_of_wp (wp_ret ?_);cases b
 simp_all [p8,bodyPostS,results,results127]
theorem znm{w:u}{B:Nat}{ra:Option cK}{rc:Nat}{rom:S.By}(h:w.ownsRow B 5 1 (κ ra rom.length rc) rom.length (aV rom)):jF w (κ ra rom.length rc) rom:=by
 by_cases d:rom.length=0
 ·have:rom=[]:=bM.1 d
  subst this;exact aj ⟨ra,rc,D,D⟩
 ·obtain⟨g,e,f,_,i,hc,a⟩:=zdY h (by omega)
  injection f with h1 h2 h3
  subst h1;subst h3;refine ao ⟨g,0,rc,D,hc,i,λj c b=>?_⟩;rw[aX,a j (ay.1 b).1];unfold aV;rw[bn,b];rfl
theorem zyx(w1:u)(B:Nat)(b:kM w1 B (j0 32))(hB:B<=w1.heap.size):Rd ((w1.alloc (.map #[] 0)).alloc (χ #[.map (A B),.map (A w1.heap.size),κ G 0 0,κ G 0 0,J Q 0] 220)) B (w1.heap.size+1) B w1.heap.size G 0 G 0 S.St.zero 0:=by
 have a:=b.lt;have h1:(w1.alloc (.map #[] 0)).heap.size=w1.heap.size+1:=by simp
 refine⟨by omega,?_,?_,?_,hB,by omega,⟨D,aj ⟨D,D⟩⟩,⟨D,aj ⟨D,D⟩⟩⟩
 ·rw[<- h1];exact aM _ _
 ·exact b.of_block ((bJ _ _ (by omega)).trans (bJ _ _ a))
 ·exact(zk4 w1).of_block (bJ _ _ (by omega))
theorem zih:∀(f:Nat) (s:S.By) (ln:Nat) (st a:S.St),s.length<=f->S.readLines f s ln st=.ok a->a.uses.length<=st.uses.length+s.length
 | 0,s,ln,st,a,c,h=>by cases h;omega
 | f+1,s,ln,st,a,c,h=>by
  by_cases b:s=[]
  ·subst b;rw[S.readLines_nil] at h;cases h;omega
  ·obtain⟨hc,d,e,g⟩:=zf5 b h
   have h1:=zpN s b hc;have h2:=zih f _ _ _ _ (by omega) g;have h3:=zld e;omega
theorem zhc(w1:u)(B:Nat)(f:kM w1 B (j0 32))(hB:B<=w1.heap.size)(s:S.By)(g:s.length<=4000)(a:S.St)(h:S.readLines s.length s 0 S.St.zero=.ok a)(d:∀ w',Below B w1 w'->AF w'):Δ ω 129 #[aB (A ⟨w1.heap.size+1,0,G⟩),Ω (aT s)] ((w1.alloc (.map #[] 0)).alloc (χ #[.map (A B),.map (A w1.heap.size),κ G 0 0,κ G 0 0,J Q 0] 220)) λe w' =>
  e=μ (Ψ #[])/\(∃ b ua' uc' ra' rc',Rd w' B (w1.heap.size+1) B w1.heap.size ua' uc' ra' rc' a b)/\Below B w1 w':=by
 have c:Below B w1 ((w1.alloc (.map #[] 0)).alloc (χ #[.map (A B),.map (A w1.heap.size),κ G 0 0,κ G 0 0,J Q 0] 220)):=((bq B w1).alloc hB _).alloc (by simp;omega) _;exact(zle _ B (w1.heap.size+1) B w1.heap.size G G 0 0 S.St.zero a (zyx w1 B f hB) D s g h (by simp;omega) (d _ c) (hid (λw' hb=>d w' (c.trans hb)))).mono λe w' ⟨i,h1,h2⟩=>⟨i,h1,c.trans h2⟩
theorem zsK{w a:u}{o1 o2 o3:π}{b t2 t3:TypeId}(h:Below (w.heap.size+1+1+1) (((w.alloc (χ #[o1] b)).alloc (χ #[o2] t2)).alloc (χ #[o3] t3)) a):(a.heap[w.heap.size]?=A (χ #[o1] b (0,0))/\a.heap[w.heap.size+1]?=A (χ #[o2] t2 (0,0))/\a.heap[w.heap.size+1+1]?=A (χ #[o3] t3 (0,0)))/\w.heap.size+1+1+1<=a.heap.size:=by
 have s1:(w.alloc (χ #[o1] b)).heap.size=w.heap.size+1:=by simp
 have s2:((w.alloc (χ #[o1] b)).alloc (χ #[o2] t2)).heap.size=w.heap.size+1+1:=by simp
 refine⟨⟨?_,?_,?_⟩,by have:=h.size;simp at this;omega⟩
 ·rw[h.block _ (by omega),bJ _ _ (by omega),bJ _ _ (by omega)];exact aM _ _
 ·rw[h.block _ (by omega),bJ _ _ (by omega),<- s1];exact aM _ _
 ·rw[h.block _ (by omega),<- s2];exact aM _ _
theorem znn(s:S.By)(R:s.length<=4000)(b:S.St)(a:S.By)(t:S.readLines s.length s 0 S.St.zero=.ok b)(L:S.lay b.places b.uses b.rom=.ok a)(w:u)(M:AF w):Δ ω 67 #[Ω (aT s)] w λe w'=>∃ v,e=μ (Ψ #[v,J Q 0,J Q 0])/\jF w' v a/\Below w.heap.size w w':=by
 have T:∀(N:Fn) (first m:Array π) (w:u),(Instr.makeFunc N first m).run ω w=.ok (.func N first m) w:=λ_ _ _ _=>D
 have U:=@lL ω;have y:b.uses.length<=100000:=by have:=zih _ _ _ _ _ (ψ _) t;simp[S.St.zero] at this;omega
 have V:=hid (zlf _ _ _ _ _ zvQ t);have P:=hid M;have W:=hid t;have X:=hid L;have n:Hid (Below w.heap.size w (((w.alloc (χ #[κ G 0 0] 26)).alloc (χ #[J Q 0] 3)).alloc (χ #[J Q 0] 48))):=stA (stA (stA (aR w) _) _) _;have z:Hid ((((w.alloc (χ #[κ G 0 0] 26)).alloc (χ #[J Q 0] 3)).alloc (χ #[J Q 0] 48)).heap.size=w.heap.size+1+1+1):=by show _=_;simp
 clear M t L
 go_enter_defers func67,ntmps67
 go_wp2_with (first
  | (go_at_call 128;refine(zji _ (rZ (rZ (rZ P.out _) _) _).shapes).mono ?_;rintro e w1 ⟨rfl,g,j⟩;rw[z.out] at g j;have o:=g.lt)
  | (go_at_call 129;refine(zhc w1 (w.heap.size+1+1+1) g (iy o) s R b W.out (λw' hb=>P.out.kept (n.out.trans ((j.trans hb).mono (kg _ 3))))).mono ?_;rintro e w2 ⟨rfl,⟨B,ua,uc,ra,rc,p⟩,q⟩)
  | (go_at_call 130;refine(zlh w2 _ _ _ _ ua ra uc rc b B p y V.out a X.out (ax (iy o) q.size)).mono ?_;rintro e x ⟨rfl,c,E⟩;have r:=(j.trans q).trans E;obtain⟨⟨k1,k2,F⟩,Z⟩:=zsK r;have c3:x.cell? ⟨w1.heap.size+1,3,G⟩=A (κ ra a.length rc):=c.cell 3;have z3:=c.lt;have d1:x.cell? ⟨w.heap.size,0,G⟩=A (κ G 0 0):=Lib.cell_of_heap k1 0;have d2:x.cell? ⟨w.heap.size+1,0,G⟩=A (J Q 0):=Lib.cell_of_heap k2 0;have d3:x.cell? ⟨w.heap.size+1+1,0,G⟩=A (J Q 0):=Lib.cell_of_heap F 0;have f1:=Lib.frozen_of_heap k1 0;have f2:=Lib.frozen_of_heap k2 0;have f3:=Lib.frozen_of_heap F 0;have H:=hid c;clear c p k1 k2 F))
 refine leaves_cons (f:=127) (args:=#[aB (A ⟨w.heap.size,0,G⟩),aB (A ⟨w.heap.size+1,0,G⟩),aB (A ⟨w.heap.size+1+1,0,G⟩)]) (by simp) (by simp[go_sem]) ?_;refine(zqN _ _ _ _).mono ?_;rintro e u' w'' ⟨rfl,rfl,rfl⟩;simp[Leaves,settle,results,results67,go_sem,d1,d2,d3];have d:=H.out.rom;have I:=λk hk=>(d.lt k hk).1
 have l:∀ i,i<w.heap.size+1+1+1->(κ ra a.length rc).ownBlock≠A i:=λi hi h=>by have:=I i h;omega
 refine⟨znm (((d.kept (za _ _ _ _) (ao (l _ (by omega)))).kept (za _ _ _ _) (ao (l _ (by omega)))).kept (za _ _ _ _) (ao (l _ (by omega)))),?_⟩;exact(((n.out.trans (r.mono (by omega))).setCell (ψ _) _).setCell (by simp) _).setCell (by simp;omega) _
theorem zvR{s rom:S.By}(h:S.readText s=.ok rom):∃ a,S.readLines s.length s 0 S.St.zero=.ok a/\S.lay a.places a.uses a.rom=.ok rom:=by
 unfold S.readText at h;split at h
 ·rename_i st b
  exact⟨st,b,h⟩
 ·cases h
theorem zno(s:S.By)(w:u):Δ ω 66 #[Ω (aT s),Ω ⟨#[10]⟩] w λe w'=>e=μ (J Q (s.count 10:Nat))/\w=w' :=
 (Tryz.strings_Count_one (aT s) 10 w).mono λe w' a=>⟨a.1,a.2.symm⟩
theorem zpO(s rom:S.By)(f:s.length<=4000)(hc:s.count 10<=300)(c:S.readText s=.ok rom)(w:u)(d:AF w):Δ ω 36 #[Ω (aT s)] w λe w'=>∃ v,e=μ (Ψ #[v,J Q 0,J Q 0])/\jF w' v rom/\Below w.heap.size w w':=by
 obtain⟨a,h1,h2⟩:=zvR c;have g:=hid (znn s f a rom h1 h2 w d);have h:¬ (4000:Int)<(aT s).size:=by rw[sU];omega
 have i:¬ (300:Int)<(s.count 10:Nat):=by omega
 clear d c h1 h2;go_enter func36,ntmps36;go_wp2_with (first
  | (go_at_call 66;refine(zno s _).mono ?_;rintro e w' ⟨rfl,rfl⟩)
  | (go_at_call 67;refine g.out.mono ?_;rintro e w1 ⟨v,rfl,j,b⟩))
 go_ret3
 exact⟨v,D,j,b⟩
/-! ### bytes -/
/-! ### the closed fact -/
theorem znp{W:u}{l:List (String × DataW Unit)}(h:laidMet ω l W)(b:("internal/strconv.uint64pow10",Rows.laid_internal_strconv_uint64pow10)∈l):fm ω W "internal/strconv.uint64pow10" .u64 iZ:=by
 obtain⟨g,t,cs,fuel,p,c,d,e,a⟩:=Lib.laidMet.reads h b;have e2:(Tryz.prog.globals[6]?).map (·.type)=A 397:=by kernel_rfl
 obtain rfl:=aL (g_pow.symm.trans c);obtain rfl:=aL (e2.symm.trans d);have e3:(Rows.laid_internal_strconv_uint64pow10:DataW Unit)=Lib.tabData .u64 iZ:=by kernel_rfl
 rw[e3] at a;unfold fm;rw[e,<- Lib.cells_of_tab underlying397 underlying350 (by kernel_rfl) (by kernel_rfl) a]
theorem sL{W:u}{l:List (String × DataW Unit)}(h:laidMet ω l W)(a:W.ShapedOpen ω)(h1:("internal/strconv.uint64pow10",Rows.laid_internal_strconv_uint64pow10)∈l)(h2:("marquee/order.shapes",Rows.laid_marquee_order_shapes)∈l):AF W :=
 ⟨znp h h1,zfZ a,zdS h h2⟩
section
variable {w : u} {L1 L2 : List π} {ι : u}
theorem zfd(M:Mach)(S:Sl)(v:π)(l:List Inp)(n:Int)(w:u)(z:cf w S M)(B:∀ j,j<5->(M.byt j).length<=9223372036854775807)(d:M.ok)(f:bP w.heap.size w v l)(E:-9223372036854775808<=n/\n<=9223372036854775807)(F:bS M l n≠0):Δ ω 9 #[ac (υ M S).toArray,v,J Q n] w λe w'=>e=μ (Ψ #[ac (υ aD aP).toArray,ac #[κ G 0 0,κ G 0 0,κ G 0 0],J Q (bS M l n)])/\Below w.heap.size w w':=by
 have g:=Bx.new w (υ M S) 41 (b:=w.heap.size) D;have h:Below w.heap.size w (((w.alloc (χ (υ M S).toArray 41)).alloc (χ (υ aD aP).toArray 41)).alloc (χ #[κ G 0 0,κ G 0 0,κ G 0 0] 47)):=stA (stA (stA (aR w) _) _) _;have p:Hid (RR w (υ aD aP) [κ G 0 0,κ G 0 0,κ G 0 0] (((w.alloc (χ (υ M S).toArray 41)).alloc (χ (υ aD aP).toArray 41)).alloc (χ #[κ G 0 0,κ G 0 0,κ G 0 0] 47))) :=
  ⟨h,(Bx.new (w.alloc (χ (υ M S).toArray 41)) (υ aD aP) 41 (b:=w.heap.size+1) (by simp)).over _,Bx.new ((w.alloc (χ (υ M S).toArray 41)).alloc (χ (υ aD aP).toArray 41)) [κ G 0 0,κ G 0 0,κ G 0 0] 47 (b:=w.heap.size+2) (by simp)⟩
 have q:=hid ((g.over (χ (υ aD aP).toArray 41)).over (χ #[κ G 0 0,κ G 0 0,κ G 0 0] 47));have L:=hid (z.kept h);have s:=hid ((f.kept h).mono h.size);have N:=hid B;have t:=hid d;have P:=hid E;obtain⟨r,i⟩:∃ r,r=bS M l n:=⟨_,D⟩
 have a:=zgu M S v l n _ L.out N.out t.out s.out P.out F;rw[<- i] at F a ⊢;have x:=hid a;clear z B f d E g h a i;go_enter func9,ntmps9;go_wp2_with (first
  | (refine wpList_load_mid D 41 _ D w.heap.size 0 D (υ M S) _ q.out.c underlying41 D cn ?_)
  | (go_at_call 31;refine x.out.mono ?_;rintro e w1 ⟨rfl,k⟩;have m:=hid (p.out.kept k);clear k)
  | (refine wpList_store_mid D 41 _ _ D (w.heap.size+1) 0 (υ aD aP).toArray D D (m.out.b1.there 0 75 (by rw[dG];omega)) cn (iq _ _ vS) ?_
     refine Pl.cutL (RR w (υ aD aP) [κ G 0 0,κ G 0 0,κ G 0 0]) m.out.zero1 ?_;intro Z H;have o:=hid H;clear H)
  | (refine wpList_store_mid D 47 _ _ D (w.heap.size+2) 0 #[κ G 0 0,κ G 0 0,κ G 0 0] D D (o.out.b2.there 0 3 (by simp)) kX (by simp[bi]) ?_
     refine Pl.cutL (RR w (υ aD aP) [κ G 0 0,κ G 0 0,κ G 0 0]) o.out.zero2 ?_;intro V I;have y:=hid I;clear I))
 refine Ξ (v:=Ψ #[ac (υ aD aP).toArray,ac #[κ G 0 0,κ G 0 0,κ G 0 0],J Q r]) ?_ D ⟨D,y.out.low⟩;have l1:=run_loadVar_mid V (w.heap.size+1) 0 41 _ _ y.out.b1.c underlying41 D cn;have l2:=run_loadVar_mid V (w.heap.size+2) 0 47 _ _ y.out.b2.c underlying47 D kX;simp only[results,results9];simp;show (aE (Sem.run ω (loadVar 41 ⟨w.heap.size+1,0,G⟩) V) _)=_;rw[l1];show (aE (Sem.run ω (loadVar 47 ⟨w.heap.size+2,0,G⟩) V) _)=_;rw[l2];rfl
end
def qU:S.By:=[46,119,111,114,100,32,54,10,46,119,111,114,100,32,48,10,46,119,111,114,100,32,48,10,108,100,105,32,114,49,44,32,51,50,55,54,56,10,115,116,98,32,114,49,44,32,114,49,44,32,49,10,104,108,116,10]
theorem zqi:S.readText qU=.ok ig:=by
 have h:(match S.readText qU with | .ok r=>r == ig | .error _=>ξ)=Γ:=by decide +kernel
 split at h
 ·rename_i r a
  rw[a,ll.1 h]
 ·cases h
theorem zqj{w:u}{v:π}{l:List UInt8}(h:jF w v l):sliceAt w v l:=h
structure LBx (w : u) (b : Nat) (M : Mach) (S : Sl) (ι : u) : Prop where
 low:Below w.heap.size w ι
 ge:w.heap.size<=b
 bx:Bx ι b (υ M S)
 sl:cf ι S M
theorem LBx.mk0{w w2:u}{M:Mach}{S:Sl}(hb:Below w.heap.size w w2)(d:cf w2 S M):LBx w w2.heap.size M S ((w2.alloc (χ (υ aD aP).toArray 41)).setCells w2.heap.size 0 (υ M S)):=by
 have a:=(Bx.new w2 (υ aD aP) 41 (b:=w2.heap.size) D).puts 0 (υ M S) (by rw[dG,dG];omega);rw[mK _ _ (by rw[dG,dG])] at a;have c:Below w2.heap.size w2 ((w2.alloc (χ (υ aD aP).toArray 41)).setCells w2.heap.size 0 (υ M S)):=Bl.puts (stA (aR w2) _) (ψ _) _;exact⟨bw hb c,hb.size,a,d.kept c⟩
structure LE (w : u) (b c : Nat) (M : Mach) (S : Sl) (L : List π) (ι : u) : Prop where
 low:Below w.heap.size w ι
 bx:Bx ι b (υ M S)
 sh:Bx ι c L
theorem LE.mk1{w a:u}{b:Nat}{M X:Mach}{S S':Sl}(hb:Below w.heap.size w a)(c:w.heap.size<=b)(d:Bx a b (υ M S)):LE w b a.heap.size X S' [κ G 0 0,κ G 0 0,κ G 0 0] ((a.alloc (χ #[κ G 0 0,κ G 0 0,κ G 0 0] 47)).setCells b 0 (υ X S')):=by
 have e:=d.z;have h1:=(d.over (χ #[κ G 0 0,κ G 0 0,κ G 0 0] 47)).puts 0 (υ X S') (by rw[dG,dG];omega);rw[mK _ _ (by rw[dG,dG])] at h1;exact⟨ni (stA hb _) c _ _,h1,DW.bb (Bx.new a [κ G 0 0,κ G 0 0,κ G 0 0] 47 (b:=a.heap.size) D) (by omega)⟩
theorem LE.put{w ι:u}{b c:Nat}{X:Mach}{S':Sl}{x y z a d e:π}(h:LE w b c X S' [x,y,z] ι)(f:b≠c)(g:w.heap.size<=c):LE w b c X S' [a,d,e] (ι.setCells c 0 [a,d,e]):=by
 have h1:=h.sh.puts 0 [a,d,e] (by simp);rw[mK _ _ (by simp)] at h1;exact⟨ni h.low g _ _,DW.bb h.bx f,h1⟩
theorem cell_of{ι:u}{b:Nat}{M:Mach}{S:Sl}(h:Bx ι b (υ M S)):ι.cell? ⟨b,14,G⟩=A (ν M.main.Waits)/\ι.cell? ⟨b,72,G⟩=A (J Q M.clock)/\ι.cell? ⟨b,61,G⟩=A (J Q M.b.l):=⟨h.at 14 _ rfl,h.at 72 _ rfl,h.at 61 _ rfl⟩
theorem AW(B:Nat)(w:u):bP B w (κ G 0 0) []:=aj ⟨D,_,_,D⟩
theorem zuB(w:u):sliceAt w (κ G 0 0) []:=aj ⟨_,_,D,D⟩
theorem zb8(w:u)(E:AF w):Δ ω 11 #[] w λe w'=>e=μ (ν Γ)/\Below w.heap.size w w':=by
 have HB:=hid (zpO qU ig (by decide) (by decide) zqi w E);have HF:=hid E;have H:=zyc;obtain⟨K,I⟩:∃ K,K=dA.clocks 64:=⟨_,D⟩
 rw[<- I] at H;have HK:=hid I;have L:=hid H;clear E I H;go_enter func11,ntmps11;go_wp2_with (first
  | (go_at_call 36;refine HB.out.mono ?_;rintro e w1 ⟨v,rfl,hv,j⟩;have HV:=hid (zqj hv);have P:=hid j;clear hv j)
  | (go_at_call 37;refine(zK ig [] v (κ G 0 0) w1 HV.out (zuB _) (by decide) (by decide)).mono ?_;rintro e w2 ⟨B,rfl,k,m,R,n⟩;have o:=hid k;have T:=hid m;have U:=hid (bw P.out n);clear k m R n)
  | (refine wpList_store_mid D 41 _ _ D w2.heap.size 0 (υ (dv ig []) B).toArray D D ((Bx.new w2 (υ aD aP) 41 (b:=w2.heap.size) D).there 0 75 (by rw[dG];omega)) cn (iq _ _ (kC o.out)) ?_
     refine Pl.cutL (LBx w w2.heap.size (dv ig []) B) (LBx.mk0 U.out o.out) ?_;intro Y1 p;have d:=hid p;clear p)
  | (refine wpList_load_mid D 41 _ D w2.heap.size 0 D (υ (dv ig []) B) _ d.out.bx.c underlying41 D cn ?_)
  | (go_at_call 9;refine(AV (dv ig []) B (κ G 0 0) [] 64 Y1 d.out.sl (HF.out.kept d.out.low).shapes (AW _ _) (λx hx=>by cases hx) T.out (by show (0:Int)<=20000;decide) D ⟨by decide,by show (0:Int)+64<=200000;decide⟩).mono ?_
     rintro e q ⟨F,N,vln,vsm,vw,rfl,f,_,_,_,g⟩
     change Told F N (dA.clocks 64) vln vsm vw q at f
     have h:=HK.out;rw[show (⟨⟨dv ig [],0,[]⟩,[],[],[]⟩:Cs)=dA from D,<- h];rw[<- h] at f;obtain⟨a1,c1,e1⟩:=tZ f.ln;obtain⟨a2,c2,e2⟩:=tZ f.sm;obtain⟨a3,n3,c3,e3⟩:=ol f.ws;rw[L.out.1] at e1;rw[L.out.2.1] at e2;subst e1 e2 e3;have V:=hid (kC f.sl);have i:=hid (d.out.bx.kept g);have r:=hid (bw d.out.low g);have W:w2.heap.size≠q.heap.size:=by have:=i.out.z;omega
     obtain⟨X,Z⟩:∃ X,X=K.s.M:=⟨_,D⟩
     have HX:Hid (X.main.Waits=Γ/\X.clock=64/\X.b.l=1):=hid (by rw[Z];exact L.out.2.2);rw[<- Z];clear f g Z h)
  | (refine wpList_store_mid D 41 _ _ D w2.heap.size 0 (υ X F.S).toArray D D ((i.out.over _).there 0 75 (by rw[dG];omega)) cn (iq _ _ V.out) ?_
     refine Pl.cutL (LE w w2.heap.size q.heap.size X F.S [κ G 0 0,κ G 0 0,κ G 0 0]) (LE.mk1 r.out d.out.ge i.out) ?_;intro Y2 t;have y:=hid t;clear t)
  | (refine wpList_store_mid D 47 _ _ D q.heap.size 0 #[κ a1 1 c1,κ a2 4 c2,κ a3 n3 c3] D D (y.out.sh.there 0 3 (by simp)) kX (by simp[bi]) ?_
     refine Pl.cutL (LE w w2.heap.size q.heap.size X F.S [κ a1 1 c1,κ a2 4 c2,κ a3 n3 c3]) (y.out.put W r.out.size) ?_;intro Y3 a;have HY3:=hid a;have y0:=a.sh.at 0 _ D;have y1:=a.sh.at 1 _ D;have yz:=a.sh.z;obtain⟨x1,x2,x3⟩:=cell_of a.bx;have xz:=a.bx.z;rw[HX.out.1] at x1;rw[HX.out.2.1] at x2;rw[HX.out.2.2] at x3;clear a))
 go_ret;exact⟨D,HY3.out.low⟩
structure R3 (w1 : u) (X : Mach) (S' : Sl) (L : List π) (ι : u) : Prop where
 old:Below w1.heap.size w1 ι
 x:Bx ι w1.heap.size (υ X S')
 s:Bx ι (w1.heap.size+1) L
section
variable {w1 ι Y' : u} {X : Mach} {S' : Sl} {L : List π}
theorem R3.mk1(w1:u)(X:Mach)(S':Sl):R3 w1 X S' nil3 (((w1.alloc (χ (υ aD aP).toArray 41)).alloc (χ #[κ G 0 0,κ G 0 0,κ G 0 0] 47)).setCells w1.heap.size 0 (υ X S')):=by
 have h1:=((Bx.new w1 (υ aD aP) 41 (b:=w1.heap.size) D).over (χ #[κ G 0 0,κ G 0 0,κ G 0 0] 47)).puts 0 (υ X S') (by rw[dG,dG];omega);rw[mK _ _ (by rw[dG,dG])] at h1;exact⟨ni (stA (stA (aR w1) _) _) (ψ _) _ _,h1,DW.bb (Bx.new (w1.alloc (χ (υ aD aP).toArray 41)) nil3 47 (b:=w1.heap.size+1) (by simp)) (by omega)⟩
theorem R3.put{x y z a b c:π}(h:R3 w1 X S' [x,y,z] ι):R3 w1 X S' [a,b,c] (ι.setCells (w1.heap.size+1) 0 [a,b,c]):=by
 have h1:=h.s.puts 0 [a,b,c] (by simp);rw[mK _ _ (by simp)] at h1;exact⟨ni h.old (by omega) _ _,DW.bb h.x (by omega),h1⟩
theorem R3.kept(h:R3 w1 X S' L ι)(hb:Below ι.heap.size ι Y'):R3 w1 X S' L Y':=⟨bw h.old hb,h.x.kept hb,h.s.kept hb⟩
end
theorem R3.th1(w1:u):((w1.alloc (χ (υ aD aP).toArray 41)).alloc (χ #[κ G 0 0,κ G 0 0,κ G 0 0] 47)).there w1.heap.size 0 75:=((Bx.new w1 (υ aD aP) 41 (b:=w1.heap.size) rfl).over _).there 0 75 (by rw[dG];omega)
theorem xx(M:Mach)(S:Sl)(n:Int)(w:u):Δ ω 15 #[ac (υ M S).toArray,J Q n] w λe w'=>e=μ (ν (decide (19000<M.b.f)))/\Below w.heap.size w w':=by
 have hB:=Bx.new w (υ M S) 41 (b:=w.heap.size) D;have a:=hB.at 64 (J Q M.b.f) D;clear hB;go_enter func15,ntmps15;go_wp2;go_ret;exact⟨D,stA (aR w) _⟩
end Go.Proofs.YthghjlinhokimaaGreatDoor
