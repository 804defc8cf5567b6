/-
  Parts of a proof, joined.
-/
import Derived.Test.YthghjlinhokimaaGreatDoorZbA
import Derived.Test.YthghjlinhokimaaGreatDoorZbWatchTrace04
set_option linter.all false
set_option maxRecDepth 100000
set_option maxHeartbeats 3200000
open Option renaming none->G,some->A
open Go renaming World->u,Value->π,Calls->Δ
open Bool renaming false->ξ,true->Γ
open Go.Proofs.Tryz renaming prog->ω
open Go.Act renaming put->ag
open Go.Lib renaming itoa->ba
open Go.Value renaming ownBlock->im,int->J,slice->κ,string->Ω,agg->ac
open Go.IntKind renaming i64->Q,u16->Y
open Go.Ending renaming returned->μ
open Go.Obj renaming cells->χ
namespace Go.Proofs.YthghjlinhokimaaGreatDoor
open Go.ChangeShapes Go.WideShapes Go.ChangeAt Go.RowKit Go.Proofs.Tryz
theorem zqC:(Tryz.prog.info? 22).map (λi=>(i.zero,i.size,i.bytes))=A (A (J Y 0),1,2):=by kernel_rfl
theorem BF{w w1 X:u}{k:Nat}{d s n ww f:Int}{t t':TypeId}(a:Below ((w.alloc (χ #[J Q k,J Q d,J Q s,J Q n,J Q ww] t)).alloc (χ #[J Y f] t')).heap.size ((w.alloc (χ #[J Q k,J Q d,J Q s,J Q n,J Q ww] t)).alloc (χ #[J Y f] t')) X)(hb:Below X.heap.size X w1):w1.cell? ⟨w.heap.size,0,G⟩=A (J Q k)/\Below ((w.alloc (χ #[J Q k,J Q d,J Q s,J Q n,J Q ww] t)).alloc (χ #[J Y f] t')).heap.size ((w.alloc (χ #[J Q k,J Q d,J Q s,J Q n,J Q ww] t)).alloc (χ #[J Y f] t')) w1:=by
 have hB:=bw a hb;exact⟨(hB.cell (by simp;omega)).trans (by simp),hB⟩
theorem zzU{w:u}{base:Nat}{e:TypeId}{size n a g:Nat}{xs:List π}(h:w.ownsRow base e size (κ (A ⟨g,0,G⟩) n a) n xs):n<=a:=by
 rcases h.2 with⟨b,_⟩|⟨g',c,d,b,_,_,f,_⟩
 ·cases b
 ·cases b;exact f
theorem zvk(k:Nat)(m:k<32)(v:k≠30)(d s n ww:Int)(b:O.okB k d s n ww=Γ)(hc:O.hasC k 119=ξ)(w:u)(p:Facts w):Δ ω 102 #[ac #[J Q k,J Q d,J Q s,J Q n,J Q ww]] w λe w'=>∃ g c,e=μ (κ (A ⟨g,0,G⟩) 1 c)/\1<=c/\wordsAt w' g [O.first k d s n]/\g<w'.heap.size/\Below w.heap.size w w':=by
 obtain⟨⟨R,d1⟩,⟨s0,s1⟩,⟨T,U⟩,⟨w0,x⟩⟩:=O.ok_bd b;have q:O.first k d s n=k*2048+d*256+s*32+n%32:=by unfold O.first;omega
 have HFst:=hid q;have y:=hid p;have z:=hid hc;clear p b hc q;have B:(0:Int)<=k:=by omega
 have r:(k:Int)<32:=by omega
 obtain⟨i0,E,F,H,I⟩:=info_parts zqC;go_enter func102,ntmps102;go_upto_region 2 with fail
 go_cut [28] (λj L=>j=.bool ξ/\Below ((w.alloc (χ #[J Q k,J Q d,J Q s,J Q n,J Q ww] 191)).alloc (χ #[J Y (k*2048+d*256+s*32+n%32)] 22)).heap.size ((w.alloc (χ #[J Q k,J Q d,J Q s,J Q n,J Q ww] 191)).alloc (χ #[J Y (k*2048+d*256+s*32+n%32)] 22)) L)
 case first =>
  have V:∀(W:u) (o:Obj),W.drew.alloc o=(W.alloc o).drew:=λ_ _=>D
  go_region_with (first
   | (go_at_call 142;refine(xn _ (by repeat first|exact y.out|apply zfp|apply zeh)).mono ?_;rintro e w1 ⟨g,M,rfl,h,N,P,l⟩;obtain⟨c0,c1,c2⟩:=h k m;clear h;obtain⟨q0,hB⟩:=BF (w:=w) (k:=k) (d:=d) (s:=s) (n:=n) (ww:=ww) (f:=(k*2048+d*256+s*32+n%32)) (t:=191) (t':=22) (by repeat first|with_reducible exact aR _|apply di|apply stA) l)
   | (go_at_call 176;refine(zi3 k m _).mono ?_;rw[z.out];rintro e w' ⟨rfl,rfl⟩))
  all_goals (go_wp2_with fail;go_meet)
  all_goals first|exact⟨D,hB⟩|exact⟨D,hB.drew⟩|exact⟨D,hB.drew.drew⟩
 case rest =>
 obtain⟨rfl,a⟩:=hcut;go_wp2;go_ret;refine⟨w.heap.size+1,1,D,by omega,λi hi=>?_,by have:=a.size;simp at this;omega,bw (stA (stA (aR _) _) _) a⟩;obtain rfl:i=0:=by simpa using hi
 rw[a.cell (by simp),HFst.out];exact ly _ _ _ _ (by simp)
theorem zvl(k:Nat)(I:k<32)(P:k≠30)(d s n ww:Int)(p:O.okB k d s n ww=Γ)(hc:O.hasC k 119=Γ)(w:u)(L:Facts w):Δ ω 102 #[ac #[J Q k,J Q d,J Q s,J Q n,J Q ww]] w λe w'=>∃ g c,e=μ (κ (A ⟨g,0,G⟩) 2 c)/\2<=c/\wordsAt w' g [O.first k d s n,ww]/\g<w'.heap.size/\Below w.heap.size w w':=by
 obtain⟨⟨d0,d1⟩,⟨s0,s1⟩,⟨n0,n1⟩,⟨w0,R⟩⟩:=O.ok_bd p;have M:O.first k d s n=k*2048+d*256+s*32+n%32:=by unfold O.first;omega
 have HFst:=hid M;have T:=hid L;have U:=hid hc;clear L p hc M;have V:(0:Int)<=k:=by omega
 have N:(k:Int)<32:=by omega
 obtain⟨i0,x,y,z,B⟩:=info_parts zqC;go_enter func102,ntmps102;go_upto_region 2 with fail
 go_cut [28] (λE X=>E=.bool Γ/\Below ((w.alloc (χ #[J Q k,J Q d,J Q s,J Q n,J Q ww] 191)).alloc (χ #[J Y (k*2048+d*256+s*32+n%32)] 22)).heap.size ((w.alloc (χ #[J Q k,J Q d,J Q s,J Q n,J Q ww] 191)).alloc (χ #[J Y (k*2048+d*256+s*32+n%32)] 22)) X)
 case first =>
  have ad:∀(W:u) (o:Obj),W.drew.alloc o=(W.alloc o).drew:=λ_ _=>D
  go_region_with (first
   | (go_at_call 142;refine(xn _ (by repeat first|exact T.out|apply zfp|apply zeh)).mono ?_;rintro e w1 ⟨g,Z,rfl,q,hg1,hg2,F⟩;obtain⟨c0,c1,c2⟩:=q k I;clear q;obtain⟨q0,hB⟩:=BF (w:=w) (k:=k) (d:=d) (s:=s) (n:=n) (ww:=ww) (f:=(k*2048+d*256+s*32+n%32)) (t:=191) (t':=22) (by repeat first|with_reducible exact aR _|apply di|apply stA) F)
   | (go_at_call 176;refine(zi3 k I _).mono ?_;rw[U.out];rintro e w' ⟨rfl,rfl⟩))
  all_goals (go_wp2_with fail;go_meet)
  all_goals first|exact⟨D,hB⟩|exact⟨D,hB.drew⟩|exact⟨D,hB.drew.drew⟩
 case rest =>
 obtain⟨rfl,b⟩:=hcut;have q4:wc.cell? ⟨w.heap.size,4,G⟩=A (J Q ww):=(b.cell (by simp;omega)).trans (by simp);have l:=(World.ownsRow_lit (base:=w.heap.size) (e:=22) (size:=1) (w.alloc (χ #[J Q k,J Q d,J Q s,J Q n,J Q ww] 191)) #[J Y (k*2048+d*256+s*32+n%32)] 1 (by simp) (by unfold maxLen;omega) D).kept (rx b) (Or.inr (λh=>by simp[im] at h));rw[show (w.alloc (χ #[J Q k,J Q d,J Q s,J Q n,J Q ww] 191)).heap.size=w.heap.size+1 by simp] at l;have hz:w.heap.size+1<wc.heap.size:=by have:=b.size;simp at this;omega
 go_wp2_with (at_builtin;refine wpList_append_lies _ (by rfl) _ _ _ (by rfl) w.heap.size 22 i0 _ 1 2 underlying194 x y z B D (by omega) _ 1 _ (by rfl) (l.alloc _) ⟨wc.heap.size,0,G⟩ 1 1 [J Y ww] (by rfl) (by rfl) (World.news_of_block (cs:=#[J Y ww]) (t:=22) (fr:=(0,0)) (aM wc _)) (by simp[Value.oneCell']) (by omega) (by unfold maxLen;omega) (by omega) (by simp;omega) (wc.heap.size+1) (by simp) ?_;intro gg cp w3 a m hat r)
 go_ret;have v:=stA (bw (stA (stA (aR w) _) _) b) (χ #[J Y ww] 22);refine⟨gg,cp,D,zzU a,λi hi=>?_,r,v.grown m v.size (λj hj=>by simp[im] at hj;omega)⟩;have H:i=0 \/ i=1:=by simp at hi;omega
 rw[a.cellAt i (by omega),HFst.out];rcases H with rfl|rfl <;> rfl
theorem zph(op d s n ww:Int)(h1:O.isOp op=Γ)(a:O.okB op.toNat d s n ww=Γ)(w:u)(b:Facts w):Δ ω 102 #[ac #[J Q op,J Q d,J Q s,J Q n,J Q ww]] w λe w'=>∃ g c,e=μ (κ (A ⟨g,0,G⟩) (O.words op d s n ww).length c)/\(O.words op d s n ww).length<=c/\wordsAt w' g (O.words op d s n ww)/\g<w'.heap.size/\Below w.heap.size w w':=by
 obtain⟨a1,a2,a3⟩:=(O.isOp_iff op).1 h1;obtain⟨k,rfl⟩:=aA a1;rw[bR] at a;unfold O.words;rw[bR];cases hc:O.hasC k 119
 ·exact zvk k (by omega) (by omega) d s n ww a hc w b
 ·exact zvl k (by omega) (by omega) d s n ww a hc w b
theorem tS{w:u}(h:RF w)(k:Nat):RF (w.drewN k):=h.kept (rq (aR _) k)
theorem Ab(a b:Int)(d:0<=a/\a<=65535)(hb:0<=b/\b<=65535)(w:u)(f:Facts w):Δ ω 102 #[ac #[J Q (O.rOp a),J Q (O.rD a),J Q (O.rS a),J Q (O.rN a),J Q (O.rW a b)]] w λe w' =>
  ∃(g n c:Nat),e=μ (κ (A ⟨g,0,G⟩) n c)/\0<n/\w'.cell? ⟨g,0,G⟩=A (J Y (O.first (O.rOp a) (O.rD a) (O.rS a) (O.rN a)))/\g<w'.heap.size/\Below w.heap.size w w':=by
 refine(zph _ _ _ _ _ (O.rOp_isOp a d) (O.read_ok a b d hb) w f).mono λe w' ⟨g,c,h,_,i,j,hb⟩=>?_
 refine⟨g,(O.words (O.rOp a) (O.rD a) (O.rS a) (O.rN a) (O.rW a b)).length,c,h,?_,?_,j,hb⟩
 ·unfold O.words;split <;> simp
 ·have:=i 0 (by unfold O.words;split <;> simp)
  rw[this];unfold O.words;split <;> rfl
theorem zcE(a b:Int)(c:0<=a/\a<=65535)(hb:0<=b/\b<=65535)(w:u)(d:RF w):Δ ω 103 #[ac #[J Q (O.rOp a),J Q (O.rD a),J Q (O.rS a),J Q (O.rN a),J Q (O.rW a b)]] w λe w'=>e=μ (Ω (aT (S.orderText (O.rk a) (S.rOrd a b))))/\Below w.heap.size w w':=by
 obtain⟨o1,o2,o3⟩:=(O.isOp_iff _).1 (O.rOp_isOp a c);have f:((O.rk a:Nat):Int)=O.rOp a:=by show (((O.rOp a).toNat:Nat):Int)=O.rOp a;omega
 have h:=zkQ (O.rk a) (by show (O.rOp a).toNat<32;omega) (by show (O.rOp a).toNat≠30;omega) (S.rOrd a b) (O.read_ok a b c hb) w d;rw[f] at h;exact h
theorem Ac(a b:Int)(c:0<=a/\a<=65535)(hb:0<=b/\b<=65535)(w:u)(d:Facts w):Δ ω 101 #[J Y a,J Y b] w λe w'=>e=μ (.tuple #[ac #[J Q (O.rOp a),J Q (O.rD a),J Q (O.rS a),J Q (O.rN a),J Q (O.rW a b)],J Q (O.rLen a)])/\Below w.heap.size w w':=zgm a b c hb w d
theorem zdR(x y:UInt8):IntKind.u16.wrap (x.toNat:Int)=x.toNat/\IntKind.u16.wrap ((x.toNat:Int)*256)=(x.toNat:Int)*256/\IntKind.u16.wrap ((x.toNat:Int)*256+y.toNat)=S.word x y:=by
 have a:=x.toNat_lt;have b:=y.toNat_lt;refine⟨?_,?_,?_⟩
 ·rw[bj];omega
 ·rw[bj];omega
 ·rw[bj];unfold S.word;omega
theorem zg1(a b:Int)(d:0<=a/\a<=65535)(hb:0<=b/\b<=65535):(aT (S.orderText (O.rk a) (S.rOrd a b))).size<=60:=by
 have c:=O.read_ok a b d hb;obtain⟨o1,o2,o3⟩:=(O.isOp_iff _).1 (O.rOp_isOp a d);have e:=zpK (O.rk a) (by show (O.rOp _).toNat<32;omega);have f:=zdv (k:=O.rk a) (o:=S.rOrd a b) c;show (S.orderText _ _).length<=60;unfold S.orderText;rw[az];split
 ·simp;omega
 ·rw[cy];omega
theorem zxK(g o n p:Nat)(l:List UInt8)(hn:l.length=n)(h2:2<=n)(he:n%2=0)(hm:n<=1024)(hcap:n<=p)(w:u)(hg:g<w.heap.size)(hb:iJ w g o l)(hF:RF w):Δ ω 54 #[κ (A ⟨g,o,G⟩) n p] w λe w'=>e=μ (Ω (aT (S.list l)))/\Below w.heap.size w w':=by
 have P:=hid hF;have HB:=hid hb;clear hF hb;go_enter func54,ntmps54;go_wp2;go_loopw [0,3] (λr t wr=>∃(q:Nat) (acc:List UInt8) (a:Option Addr),q<=n/\q%2=0/\r=.slice a (n-q) (p-q)/\(q<n->a=A ⟨g,o+q,G⟩)/\t=Ω (aT acc)/\Below w.heap.size w wr/\acc++S.list (l.drop q)=S.list l/\acc.length<=64*q) (λr _ _=>match r with | κ _ k _=>k|_=>0)
 case atStart=>exact⟨0,[],_,by omega,D,D,λ_=>D,D,aR _,D,by simp⟩
 case round =>
  obtain⟨q,acc,a,hq,hq2,rfl,ha,rfl,d,R,hlen⟩:=hrel;have hszr:=d.size;by_cases hlt:q<n
  ·obtain rfl:=ha hlt
   have m:(l.drop q).length=n-q:=by rw[cW,hn]
   have hne:l.drop q≠[]:=λh=>by rw[h] at m;simp at m;omega
   have T:=hid ((HB.out.kept d hg).drop q);have hgr:g<wr.heap.size:=by omega
   have B:=hid (zk3 (l.drop q) hne);have hacs:(aT acc).size<=65536:=by rw[sU];omega
   have s:=hid R;clear R
   match hdq:l.drop q,m with
   | x::y::r,m =>
    rw[hdq] at B T s;obtain⟨a0,a1⟩:=S.word_bd x y;obtain⟨wx1,wx2,wx3⟩:=zdR x y;have wy1:IntKind.u16.wrap (y.toNat:Int)=y.toNat:=(zdR y y).1;have c0:wr.cell? ⟨g,o+q,G⟩=A (J .u8 x.toNat):=T.out 0 x D;have c1:wr.cell? ⟨g,o+q+1,G⟩=A (J .u8 y.toNat):=T.out 1 y D;have hil:(aT (ba (S.word x y))).size<=7:=vK (S.word x y) (by omega);have i1:¬ 9223372036854775807<6+(aT (ba (S.word x y))).size:=by omega
    have i2:¬ 9223372036854775807<6+(aT (ba (S.word x y))).size+1:=by omega
    have i3:¬ 9223372036854775807<(aT acc).size+(6+(aT (ba (S.word x y))).size+1):=by omega
    match r,m with
    | [],m =>
     have hn2:n-q=2:=by simpa using m.symm
     have E:S.firstLine [x,y]=S.lineOf (S.word x y) 2 0:=D;have hos:=zg1 (S.word x y) 0 ⟨a0,a1⟩ (by omega);have j1:¬ 9223372036854775807<(aT (S.orderText (O.rk (S.word x y)) (S.rOrd (S.word x y) 0))).size+1:=by omega
     have j2:¬ 9223372036854775807<(aT acc).size+((aT (S.orderText (O.rk (S.word x y)) (S.rOrd (S.word x y) 0))).size+1):=by omega
     have L:=S.rLen_or (S.word x y);by_cases I:O.first (O.rOp (S.word x y)) (O.rD (S.word x y)) (O.rS (S.word x y)) (O.rN (S.word x y))=S.word x y
     ·rcases L with L|L
      ·have b:=Ao (S.word x y) 2 0 I (by rw[L];decide)
       rw[<- E] at b;rw[b] at B;have M:(O.first (O.rOp (S.word x y)) (O.rD (S.word x y)) (O.rS (S.word x y)) (O.rN (S.word x y)) == (S.word x y))=Γ:=by rw[I];simp
       have HFE:=hid I;clear I;have U:=hid b;clear b E;go_wp2;go_quiet (fail)
       go_wp2_with (first
        | (go_at_call 101;refine(Ac (S.word x y) 0 ⟨a0,a1⟩ (by omega) _ (tS (P.out.kept d) _).facts).mono ?_;rw[L];rintro e w1 ⟨rfl,f⟩;have i:=hid (((tS (P.out.kept d) _).kept f).kept (stA (aR _) (χ #[J Q (O.rOp (S.word x y)),J Q (O.rD (S.word x y)),J Q (O.rS (S.word x y)),J Q (O.rN (S.word x y)),J Q (O.rW (S.word x y) 0)] 191))))
        | (go_at_call 102;refine(Ab (S.word x y) 0 ⟨a0,a1⟩ (by omega) _ i.out.facts).mono ?_;rintro e w2 ⟨g2,V,k2,rfl,j,W,X,c⟩;have N:(0:Int)<V:=dT.2 j;have F:=hid (i.out.kept c);obtain⟨Z,hff⟩:=cj c;have hz2:=rY c)
        | (go_at_call 103;refine(zcE (S.word x y) 0 ⟨a0,a1⟩ (by omega) _ F.out).mono ?_;rintro e w3 ⟨rfl,H⟩))
       refine⟨⟨q+2,acc++(S.orderText (O.rk (S.word x y)) (S.rOrd (S.word x y) 0)++[10]),_,by omega,by omega,by rw[show n-(q+2)=0 by omega,show p-q-2=p-(q+2) by omega],λh=>?_,by rw[show (⟨#[10]⟩:ByteArray)=aT [10] from D,nR,nR],bw (bw (stA (bw (rq d _) f) _) c) H,?_,?_⟩,?_⟩
       ·first|rfl|(rw[ae (by omega)];rfl)
       ·rw[<- s.out,B.out]
        rw[show l.drop (q+2)=(l.drop q).drop 2 by rw[fJ],hdq];simp[L]
       ·have hlx:(S.orderText (O.rk (S.word x y)) (S.rOrd (S.word x y) 0)).length<=60:=hos
        simp;omega
       ·simp only;omega
      ·have b:=yZ (S.word x y) 2 0 (λh=>by rw[L] at h;omega)
       rw[<- E] at b;rw[b] at B;have M:(O.first (O.rOp (S.word x y)) (O.rD (S.word x y)) (O.rS (S.word x y)) (O.rN (S.word x y)) == (S.word x y))=Γ:=by rw[I];simp
       have HFE:=hid I;clear I;have U:=hid b;clear b E;go_wp2;go_quiet (fail)
       go_wp2_with (first
        | (go_at_call 101;refine(Ac (S.word x y) 0 ⟨a0,a1⟩ (by omega) _ (tS (P.out.kept d) _).facts).mono ?_;rw[L];rintro e w1 ⟨rfl,f⟩;have i:=hid (((tS (P.out.kept d) _).kept f).kept (stA (aR _) (χ #[J Q (O.rOp (S.word x y)),J Q (O.rD (S.word x y)),J Q (O.rS (S.word x y)),J Q (O.rN (S.word x y)),J Q (O.rW (S.word x y) 0)] 191))))
        | (go_at_call 102;refine(Ab (S.word x y) 0 ⟨a0,a1⟩ (by omega) _ i.out.facts).mono ?_;rintro e w2 ⟨g2,V,k2,rfl,j,W,X,c⟩;have N:(0:Int)<V:=dT.2 j;have F:=hid (i.out.kept c);obtain⟨Z,hff⟩:=cj c;have hz2:=rY c)
        | (go_at_call 104;refine(rp (S.word x y) (by omega) (by omega) _ F.out.af).mono ?_;rintro e w3 ⟨rfl,H⟩))
       refine⟨⟨q+2,acc++(S.wordText (S.word x y)++[10]),_,by omega,by omega,by rw[show n-(q+2)=0 by omega,show p-q-2=p-(q+2) by omega],λh=>?_,by rw[yY,nR],bw (bw (stA (bw (rq d _) f) _) c) H,?_,?_⟩,?_⟩
       ·first|rfl|(rw[ae (by omega)];rfl)
       ·rw[<- s.out,B.out]
        rw[show l.drop (q+2)=(l.drop q).drop 2 by rw[fJ],hdq];simp
       ·have hlx:(S.wordText (S.word x y)).length<=60:=by simp[S.wordText,S.plain];rw[sU] at hil;omega
        simp;omega
       ·simp only;omega
     ·have b:=yZ (S.word x y) 2 0 (λh=>I h.1)
      rw[<- E] at b;rw[b] at B;have M:(O.first (O.rOp (S.word x y)) (O.rD (S.word x y)) (O.rS (S.word x y)) (O.rN (S.word x y)) == (S.word x y))=ξ:=by simpa using I
      clear I;have U:=hid b;clear b E;go_wp2;go_quiet (fail)
      go_wp2_with (first
       | (go_at_call 101;refine(Ac (S.word x y) 0 ⟨a0,a1⟩ (by omega) _ (tS (P.out.kept d) _).facts).mono ?_;rintro e w1 ⟨rfl,f⟩;have i:=hid (((tS (P.out.kept d) _).kept f).kept (stA (aR _) (χ #[J Q (O.rOp (S.word x y)),J Q (O.rD (S.word x y)),J Q (O.rS (S.word x y)),J Q (O.rN (S.word x y)),J Q (O.rW (S.word x y) 0)] 191))))
       | (go_at_call 102;refine(Ab (S.word x y) 0 ⟨a0,a1⟩ (by omega) _ i.out.facts).mono ?_;rintro e w2 ⟨g2,V,k2,rfl,j,W,X,c⟩;have N:(0:Int)<V:=dT.2 j;have F:=hid (i.out.kept c);obtain⟨Z,hff⟩:=cj c;have hz2:=rY c)
       | (go_at_call 104;refine(rp (S.word x y) (by omega) (by omega) _ F.out.af).mono ?_;rintro e w3 ⟨rfl,H⟩))
      refine⟨⟨q+2,acc++(S.wordText (S.word x y)++[10]),_,by omega,by omega,by rw[show n-(q+2)=0 by omega,show p-q-2=p-(q+2) by omega],λh=>?_,by rw[yY,nR],bw (bw (stA (bw (rq d _) f) _) c) H,?_,?_⟩,?_⟩
      ·first|rfl|(rw[ae (by omega)];rfl)
      ·rw[<- s.out,B.out]
       rw[show l.drop (q+2)=(l.drop q).drop 2 by rw[fJ],hdq];simp
      ·have hlx:(S.wordText (S.word x y)).length<=60:=by simp[S.wordText,S.plain];rw[sU] at hil;omega
       simp;omega
      ·simp only;omega
    | [z],m=>simp at m;omega
    | x2::v::r2,m =>
     have hn4:(3:Int)<((n-q:Nat):Int):=by simp at m;omega
     have hn0:(0:Int)<((n-q:Nat):Int):=by omega
     have hn1:(1:Int)<((n-q:Nat):Int):=by omega
     have hn2:(2:Int)<((n-q:Nat):Int):=by omega
     have hm4:4<=n-q:=by omega
     obtain⟨b0,b1⟩:=S.word_bd x2 v;obtain⟨vx1,vx2,vx3⟩:=zdR x2 v;have vy1:IntKind.u16.wrap (v.toNat:Int)=v.toNat:=(zdR v v).1;have c2:wr.cell? ⟨g,o+q+2,G⟩=A (J .u8 x2.toNat):=T.out 2 x2 D;have c3:wr.cell? ⟨g,o+q+3,G⟩=A (J .u8 v.toNat):=T.out 3 v D;have E:S.firstLine (x::y::x2::v::r2)=S.lineOf (S.word x y) (n-q) (S.word x2 v):=by rw[<- m];rfl
     have hos:=zg1 (S.word x y) (S.word x2 v) ⟨a0,a1⟩ ⟨b0,b1⟩;have j1:¬ 9223372036854775807<(aT (S.orderText (O.rk (S.word x y)) (S.rOrd (S.word x y) (S.word x2 v)))).size+1:=by omega
     have j2:¬ 9223372036854775807<(aT acc).size+((aT (S.orderText (O.rk (S.word x y)) (S.rOrd (S.word x y) (S.word x2 v)))).size+1):=by omega
     have L:=S.rLen_or (S.word x y);by_cases I:O.first (O.rOp (S.word x y)) (O.rD (S.word x y)) (O.rS (S.word x y)) (O.rN (S.word x y))=S.word x y
     ·rcases L with L|L
      ·have b:=Ao (S.word x y) (n-q) (S.word x2 v) I (by rw[L];omega)
       rw[<- E] at b;rw[b] at B;have M:(O.first (O.rOp (S.word x y)) (O.rD (S.word x y)) (O.rS (S.word x y)) (O.rN (S.word x y)) == (S.word x y))=Γ:=by rw[I];simp
       have HFE:=hid I;clear I;have hle:(2:Int)*1<=((n-q:Nat):Int):=by omega
       have U:=hid b;clear b E;go_wp2;go_quiet (fail)
       go_wp2;go_quiet (fail)
       go_wp2_with (first
        | (go_at_call 101;refine(Ac (S.word x y) (S.word x2 v) ⟨a0,a1⟩ ⟨b0,b1⟩ _ (tS (P.out.kept d) _).facts).mono ?_;rw[L];rintro e w1 ⟨rfl,f⟩;have i:=hid (((tS (P.out.kept d) _).kept f).kept (stA (aR _) (χ #[J Q (O.rOp (S.word x y)),J Q (O.rD (S.word x y)),J Q (O.rS (S.word x y)),J Q (O.rN (S.word x y)),J Q (O.rW (S.word x y) (S.word x2 v))] 191))))
        | (go_at_call 102;refine(Ab (S.word x y) (S.word x2 v) ⟨a0,a1⟩ ⟨b0,b1⟩ _ i.out.facts).mono ?_;rintro e w2 ⟨g2,V,k2,rfl,j,W,X,c⟩;have N:(0:Int)<V:=dT.2 j;have F:=hid (i.out.kept c);obtain⟨Z,hff⟩:=cj c;have hz2:=rY c)
        | (go_at_call 103;refine(zcE (S.word x y) (S.word x2 v) ⟨a0,a1⟩ ⟨b0,b1⟩ _ F.out).mono ?_;rintro e w3 ⟨rfl,H⟩))
       refine⟨⟨q+2,acc++(S.orderText (O.rk (S.word x y)) (S.rOrd (S.word x y) (S.word x2 v))++[10]),_,by omega,by omega,by rw[show n-q-2=n-(q+2) by omega,show p-q-2=p-(q+2) by omega],λh=>?_,by rw[show (⟨#[10]⟩:ByteArray)=aT [10] from D,nR,nR],bw (bw (stA (bw (rq d _) f) _) c) H,?_,?_⟩,?_⟩
       ·first|rfl|(rw[ae (by omega)];rfl)
       ·rw[<- s.out,B.out]
        rw[show l.drop (q+2)=(l.drop q).drop 2 by rw[fJ],hdq];simp[L]
       ·have hlx:(S.orderText (O.rk (S.word x y)) (S.rOrd (S.word x y) (S.word x2 v))).length<=60:=hos
        simp;omega
       ·simp only;omega
      ·have b:=Ao (S.word x y) (n-q) (S.word x2 v) I (by rw[L];omega)
       rw[<- E] at b;rw[b] at B;have M:(O.first (O.rOp (S.word x y)) (O.rD (S.word x y)) (O.rS (S.word x y)) (O.rN (S.word x y)) == (S.word x y))=Γ:=by rw[I];simp
       have HFE:=hid I;clear I;have hle:(2:Int)*2<=((n-q:Nat):Int):=by omega
       have U:=hid b;clear b E;go_wp2;go_quiet (fail)
       go_wp2;go_quiet (fail)
       go_wp2_with (first
        | (go_at_call 101;refine(Ac (S.word x y) (S.word x2 v) ⟨a0,a1⟩ ⟨b0,b1⟩ _ (tS (P.out.kept d) _).facts).mono ?_;rw[L];rintro e w1 ⟨rfl,f⟩;have i:=hid (((tS (P.out.kept d) _).kept f).kept (stA (aR _) (χ #[J Q (O.rOp (S.word x y)),J Q (O.rD (S.word x y)),J Q (O.rS (S.word x y)),J Q (O.rN (S.word x y)),J Q (O.rW (S.word x y) (S.word x2 v))] 191))))
        | (go_at_call 102;refine(Ab (S.word x y) (S.word x2 v) ⟨a0,a1⟩ ⟨b0,b1⟩ _ i.out.facts).mono ?_;rintro e w2 ⟨g2,V,k2,rfl,j,W,X,c⟩;have N:(0:Int)<V:=dT.2 j;have F:=hid (i.out.kept c);obtain⟨Z,hff⟩:=cj c;have hz2:=rY c)
        | (go_at_call 103;refine(zcE (S.word x y) (S.word x2 v) ⟨a0,a1⟩ ⟨b0,b1⟩ _ F.out).mono ?_;rintro e w3 ⟨rfl,H⟩))
       refine⟨⟨q+4,acc++(S.orderText (O.rk (S.word x y)) (S.rOrd (S.word x y) (S.word x2 v))++[10]),_,by omega,by omega,by rw[show n-q-4=n-(q+4) by omega,show p-q-4=p-(q+4) by omega],λh=>?_,by rw[show (⟨#[10]⟩:ByteArray)=aT [10] from D,nR,nR],bw (bw (stA (bw (rq d _) f) _) c) H,?_,?_⟩,?_⟩
       ·first|rfl|(rw[ae (by omega)];rfl)
       ·rw[<- s.out,B.out]
        rw[show l.drop (q+4)=(l.drop q).drop 4 by rw[fJ],hdq];simp[L]
       ·have hlx:(S.orderText (O.rk (S.word x y)) (S.rOrd (S.word x y) (S.word x2 v))).length<=60:=hos
        simp;omega
       ·simp only;omega
     ·have b:=yZ (S.word x y) (n-q) (S.word x2 v) (λh=>I h.1)
      rw[<- E] at b;rw[b] at B;have M:(O.first (O.rOp (S.word x y)) (O.rD (S.word x y)) (O.rS (S.word x y)) (O.rN (S.word x y)) == (S.word x y))=ξ:=by simpa using I
      clear I;have U:=hid b;clear b E;go_wp2;go_quiet (fail)
      go_wp2;go_quiet (fail)
      go_wp2_with (first
       | (go_at_call 101;refine(Ac (S.word x y) (S.word x2 v) ⟨a0,a1⟩ ⟨b0,b1⟩ _ (tS (P.out.kept d) _).facts).mono ?_;rintro e w1 ⟨rfl,f⟩;have i:=hid (((tS (P.out.kept d) _).kept f).kept (stA (aR _) (χ #[J Q (O.rOp (S.word x y)),J Q (O.rD (S.word x y)),J Q (O.rS (S.word x y)),J Q (O.rN (S.word x y)),J Q (O.rW (S.word x y) (S.word x2 v))] 191))))
       | (go_at_call 102;refine(Ab (S.word x y) (S.word x2 v) ⟨a0,a1⟩ ⟨b0,b1⟩ _ i.out.facts).mono ?_;rintro e w2 ⟨g2,V,k2,rfl,j,W,X,c⟩;have N:(0:Int)<V:=dT.2 j;have F:=hid (i.out.kept c);obtain⟨Z,hff⟩:=cj c;have hz2:=rY c)
       | (go_at_call 104;refine(rp (S.word x y) (by omega) (by omega) _ F.out.af).mono ?_;rintro e w3 ⟨rfl,H⟩))
      refine⟨⟨q+2,acc++(S.wordText (S.word x y)++[10]),_,by omega,by omega,by rw[show n-q-2=n-(q+2) by omega,show p-q-2=p-(q+2) by omega],λh=>?_,by rw[yY,nR],bw (bw (stA (bw (rq d _) f) _) c) H,?_,?_⟩,?_⟩
      ·first|rfl|(rw[ae (by omega)];rfl)
      ·rw[<- s.out,B.out]
       rw[show l.drop (q+2)=(l.drop q).drop 2 by rw[fJ],hdq];simp
      ·have hlx:(S.wordText (S.word x y)).length<=60:=by simp[S.wordText,S.plain];rw[sU] at hil;omega
       simp;omega
      ·simp only;omega
   | [x],m=>simp at m;omega
   | [],m=>simp at m;omega
  ·have hqn:q=n:=by omega
   subst hqn;have h0:q-q=0:=by omega
   rw[h0];have hacc':acc=S.list l:=by
    rw[<- R,mI (by omega)];simp[S.list,S.listN]
   subst hacc';go_wp2;go_ret;exact⟨D,d⟩
theorem zsl(v:π)(l:List UInt8)(d:l.length%2=0)(f:l.length<=1024)(w:u)(h:jF w v l)(i:RF w):Δ ω 54 #[v] w λe w'=>e=μ (Ω (aT (S.list l)))/\Below w.heap.size w w':=by
 have c:∀(a:Option Addr) (b:Nat),Δ ω 54 #[κ a 0 b] w λe w'=>e=μ (Ω (aT []))/\Below w.heap.size w w':=λa b=>by
  go_enter func54,ntmps54;go_wp2
  go_loop [0,3] (λr t=>r=κ a 0 b/\t=Ω (aT [])) (λ_ _=>0)
  case atStart=>exact⟨D,D⟩
  case round =>
   obtain⟨rfl,rfl⟩:=hrel;go_wp2;go_ret;exact⟨D,aR _⟩
 rcases h with⟨a,b,rfl,rfl⟩|⟨g,o,b,rfl,h2,h3,h4⟩
 ·exact c a b
 ·by_cases j:l.length=0
  ·have:l=[]:=bM.1 j
   subst this;exact c _ b
  ·exact zxK g o l.length b l D (by omega) d f h2 w h3 h4 i
def j6(M:Mach)(l:List Inp)(n:Int):Int:=if M.chk=0 then (if chkIn l M.clock=0 then (if 0<=n/\n<=500/\M.clock+n<=200000 then 0 else 3) else chkIn l M.clock) else M.chk
theorem xD{M:Mach}(a:M.ok)(l:List Inp)(n:Int):j6 M l n=jz M l n:=by
 unfold j6;by_cases h1:M.chk=0
 ·have hc:=(wA a h1).clock
  by_cases h2:chkIn l M.clock=0
  ·have e:bS M l 0=0:=zfV h1 h2 ⟨jH 0,by decide,by omega⟩
   unfold jz;rw[e,am D,am h1,am h2]
  ·have e:bS M l 0=chkIn l M.clock:=by unfold bS;rw[am h1,ae h2]
   unfold jz;rw[e];simp[h1,h2]
 ·have e:bS M l 0=M.chk:=by unfold bS;rw[ae h1]
  unfold jz;rw[e];simp[h1]
theorem zky{M:Mach}{l:List Inp}{n:Int}(h1:M.chk=0)(h2:chkIn l M.clock=0)(h:¬ (0<=n/\n<=500/\M.clock+n<=200000)):j6 M l n=3:=by
 unfold j6;rw[am h1,am h2,ae h]
theorem zxB{M:Mach}{l:List Inp}{n:Int}(h1:M.chk=0)(h2:chkIn l M.clock=0)(h:0<=n/\n<=500/\M.clock+n<=200000):j6 M l n=0:=by
 unfold j6;rw[am h1,am h2,am h]
theorem Wt.badRun(M:Mach)(S:Sl)(v:π)(l:List Inp)(n:Int)(w:u)(N:S.lens M)(q:M.ok)(r:bP w.heap.size w v l)(X:-9223372036854775808<=n/\n<=9223372036854775807):Δ ω 10 #[ac (υ M S).toArray,v,J Q n,J Q 500] w λe w'=>e=μ (J Q (j6 M l n))/\Below w.heap.size w w':=by
 have x:Below w.heap.size w (w.alloc (χ (υ M S).toArray 41)):=stA (aR w) _;have o:=hid (Bx.new w (υ M S) 41 (b:=w.heap.size) D);have p:=hid ((r.kept x).mono x.size);have F:=hid N;have Z:w.heap.size<(w.alloc (χ (υ M S).toArray 41)).heap.size:=by simp
 by_cases hc:M.chk=0
 ·have R:=wA q hc
  have U:=R.clock;have s:=hid hc;by_cases hi:chkIn l M.clock=0
  ·have y:=hid hi
   clear hc hi r N q R;by_cases H:n<0
   ·have m:=zky s.out y.out (n:=n) (by omega)
    rw[m];have d1:decide (n<0)=Γ:=aO H;clear m H;go_enter func10,ntmps10;go_wp2_with (first
     | (refine wpList_load_mid D 41 _ D w.heap.size 0 D (υ M S) _ o.out.c underlying41 D cn ?_)
     | (go_at_call 35;refine(tP M S _ F.out).mono ?_;rw[s.out];rintro e w1 ⟨rfl,a⟩;have d:=hid (o.out.kept a);have g:=hid (bw x a);have j:=hid ((p.out.kept a).mono a.size);have t:=d.out.at 72 (J Q M.clock) D;have P:=d.out.z;clear a)
     | (go_at_call 21;refine(Lk.rcheck l v _ M.clock _ j.out (ψ _)).mono ?_;rw[y.out];rintro e w2 ⟨rfl,f⟩;have i:=hid (d.out.kept f);have k:=hid (bw g.out f);have B:=i.out.at 72 (J Q M.clock) D;have T:=i.out.z;clear f))
    go_ret;exact⟨D,k.out⟩
   ·have d1:decide (n<0)=ξ:=aG H
    by_cases h2:500<n
    ·have m:=zky s.out y.out (n:=n) (by omega)
     rw[m];have d2:decide (500<n)=Γ:=aO h2;clear m H h2;go_enter func10,ntmps10;go_wp2_with (first
      | (refine wpList_load_mid D 41 _ D w.heap.size 0 D (υ M S) _ o.out.c underlying41 D cn ?_)
      | (go_at_call 35;refine(tP M S _ F.out).mono ?_;rw[s.out];rintro e w1 ⟨rfl,a⟩;have d:=hid (o.out.kept a);have g:=hid (bw x a);have j:=hid ((p.out.kept a).mono a.size);have t:=d.out.at 72 (J Q M.clock) D;have P:=d.out.z;clear a)
      | (go_at_call 21;refine(Lk.rcheck l v _ M.clock _ j.out (ψ _)).mono ?_;rw[y.out];rintro e w2 ⟨rfl,f⟩;have i:=hid (d.out.kept f);have k:=hid (bw g.out f);have B:=i.out.at 72 (J Q M.clock) D;have T:=i.out.z;clear f))
     go_ret;exact⟨D,k.out⟩
    ·have d2:decide (500<n)=ξ:=aG h2
     have V:0<=n:=by omega
     have W:n<=500:=by omega
     by_cases h4:200000<M.clock+n
     ·have m:=zky s.out y.out (n:=n) (by omega)
      rw[m];have d3:decide (200000<M.clock+n)=Γ:=aO h4;clear m H h2 h4;go_enter func10,ntmps10;go_wp2_with (first
       | (refine wpList_load_mid D 41 _ D w.heap.size 0 D (υ M S) _ o.out.c underlying41 D cn ?_)
       | (go_at_call 35;refine(tP M S _ F.out).mono ?_;rw[s.out];rintro e w1 ⟨rfl,a⟩;have d:=hid (o.out.kept a);have g:=hid (bw x a);have j:=hid ((p.out.kept a).mono a.size);have t:=d.out.at 72 (J Q M.clock) D;have P:=d.out.z;clear a)
       | (go_at_call 21;refine(Lk.rcheck l v _ M.clock _ j.out (ψ _)).mono ?_;rw[y.out];rintro e w2 ⟨rfl,f⟩;have i:=hid (d.out.kept f);have k:=hid (bw g.out f);have B:=i.out.at 72 (J Q M.clock) D;have T:=i.out.z;clear f))
      go_ret;exact⟨D,k.out⟩
     ·have m:=zxB s.out y.out (n:=n) (by omega)
      rw[m];have d3:decide (200000<M.clock+n)=ξ:=aG h4;clear m H h2 h4;go_enter func10,ntmps10;go_wp2_with (first
       | (refine wpList_load_mid D 41 _ D w.heap.size 0 D (υ M S) _ o.out.c underlying41 D cn ?_)
       | (go_at_call 35;refine(tP M S _ F.out).mono ?_;rw[s.out];rintro e w1 ⟨rfl,a⟩;have d:=hid (o.out.kept a);have g:=hid (bw x a);have j:=hid ((p.out.kept a).mono a.size);have t:=d.out.at 72 (J Q M.clock) D;have P:=d.out.z;clear a)
       | (go_at_call 21;refine(Lk.rcheck l v _ M.clock _ j.out (ψ _)).mono ?_;rw[y.out];rintro e w2 ⟨rfl,f⟩;have i:=hid (d.out.kept f);have k:=hid (bw g.out f);have B:=i.out.at 72 (J Q M.clock) D;have T:=i.out.z;clear f))
      go_ret;exact⟨D,k.out⟩
  ·have m:j6 M l n=chkIn l M.clock:=by unfold j6;rw[am hc,ae hi]
   have E:(chkIn l M.clock != 0)=Γ:=by simpa using hi
   rw[m];have I:=hid (λ(w1:u) (h:bP w1.heap.size w1 v l)=>Lk.rcheck l v _ M.clock w1 h (ψ _));generalize chkIn l M.clock=c at E I;clear hc hi r N q R m;go_enter func10,ntmps10;go_wp2_with (first
    | (refine wpList_load_mid D 41 _ D w.heap.size 0 D (υ M S) _ o.out.c underlying41 D cn ?_)
    | (go_at_call 35;refine(tP M S _ F.out).mono ?_;rw[s.out];rintro e w1 ⟨rfl,a⟩;have d:=hid (o.out.kept a);have g:=hid (bw x a);have j:=hid ((p.out.kept a).mono a.size);have t:=d.out.at 72 (J Q M.clock) D;have P:=d.out.z;clear a)
    | (go_at_call 21;refine(I.out _ j.out).mono ?_;rintro e w2 ⟨rfl,f⟩;have k:=hid (bw g.out f);clear f))
   go_ret;exact⟨D,k.out⟩
 ·have m:j6 M l n=M.chk:=by unfold j6;rw[ae hc]
  have E:(M.chk != 0)=Γ:=by simpa using hc
  rw[m];have L:=hid (λ(w1:u)=>tP M S w1 F.out);generalize M.chk=c at E L;clear hc r N q m;go_enter func10,ntmps10;go_wp2_with (first
   | (refine wpList_load_mid D 41 _ D w.heap.size 0 D (υ M S) _ o.out.c underlying41 D cn ?_)
   | (go_at_call 35;refine(L.out _).mono ?_;rintro e w1 ⟨rfl,a⟩;have g:=hid (bw x a);clear a))
  go_ret;exact⟨D,g.out⟩
theorem Wt.few(a:Option Addr)(n b:Nat)(pc:Nat)(hp:pc<=65535)(f:n<=9223372036854775807)(c:n-pc<2)(w:u):Δ ω 27 #[κ a n b,J Y pc] w λe w'=>e=μ (Ω (aT [63]))/\w'=w:=by
 have g:IntKind.i64.wrap (pc:Int)=pc:=by rw[aH];omega
 have d:IntKind.i64.wrap ((pc:Int)+2)=(pc:Int)+2:=by rw[aH];omega
 have h:(n:Int)<(pc:Int)+2:=by omega
 clear c;go_enter func27,ntmps27;go_wp2;all_goals go_ret
 all_goals exact⟨D,D⟩
theorem Wt.many(g o n a:Nat)(rom:List UInt8)(f:rom.length=n)(pc:Nat)(hp:pc<=65535)(hc:n<=a)(N:n<=1024)(z:2<=n-pc)(w:u)(B:g<w.heap.size)(hb:iJ w g o rom)(p:RF w):Δ ω 27 #[κ (A ⟨g,o,G⟩) n a,J Y pc] w λe w'=>e=μ (Ω (aT (cZ rom pc)))/\Below w.heap.size w w':=by
 obtain⟨m,x⟩:∃ m,m=min ((n-pc)/2*2) 4:=⟨_,D⟩
 have h1:pc<=n:=by omega
 have h2:pc<=a:=by omega
 have P:IntKind.i64.wrap (pc:Int)=pc:=by rw[aH];omega
 have E:IntKind.i64.wrap ((pc:Int)+2)=(pc:Int)+2:=by rw[aH];omega
 have F:¬ (n:Int)<(pc:Int)+2:=by omega
 have H:IntKind.i64.wrap ((n:Int)-pc)=((n-pc:Nat):Int):=by rw[aH];omega
 have I:min 4 ((n:Int)-pc)/2*2=(m:Int):=by omega
 have L:min 4 ((n-pc:Nat):Int)/2*2=(m:Int):=by omega
 have h:jF w (κ (A ⟨g,o+pc,G⟩) m (a-pc)) ((rom.drop pc).take m):=Or.inr ⟨g,o+pc,(a-pc),by rw[bD,cW,f,jv (by omega)],by rw[bD,cW,f];omega,B,λj c q=>by
  have r:j<m:=by
   have:=(ay.1 q).1;rw[bD] at this;omega
  rw[dN r] at q;exact hb.drop pc j c q⟩
 have b:((rom.drop pc).take m).length=m:=by rw[bD,cW,f];omega
 have y:=hid (zsl _ _ (by rw[b];omega) (by rw[b];omega) w h p);obtain⟨T,l⟩:∃ T,T=S.list ((rom.drop pc).take m):=⟨_,D⟩
 have i:T.length<=10000:=by
  rw[l];unfold S.list;have:=zfn ((rom.drop pc).take m).length ((rom.drop pc).take m);omega
 have d:cZ rom pc=(Lib.cut T [10]).1:=by
  unfold cZ;rw[f,ae (by omega),<- x,<- l]
 rw[<- l] at y;rw[d];have M:=hid p;have s:=hid i;have h4:m<=(a-pc):=by omega
 have R:m<=n-pc:=by omega
 have U:¬ a=pc:=by omega
 obtain⟨hi,t⟩:∃ hi:Nat,hi=pc+m:=⟨_,D⟩
 have V:IntKind.i64.wrap ((pc:Int)+(m:Int))=(hi:Int):=by rw[aH];omega
 have W:hi-pc=m:=by omega
 have X:hi<=a:=by omega
 have h10:pc<=hi:=by omega
 clear t;clear d l i b h p hb x z f;go_enter func27,ntmps27;go_wp2_with (first
  | (go_at_call 53;refine(Wc.cut T s.out _ (M.out.af.kept k)).mono ?_;rintro e w2 ⟨rfl,v⟩)
  | (go_at_call 54;refine y.out.mono ?_;rintro e w1 ⟨rfl,k⟩))
 go_ret;exact⟨D,bw k v⟩
theorem Wt.text(v:π)(rom:List UInt8)(pc:Int)(hp:0<=pc/\pc<=65535)(w:u)(f:sliceAt w v rom)(h:rom.length<=1024)(i:RF w):Δ ω 27 #[v,J Y pc] w λe w'=>e=μ (Ω (aT (cZ rom pc.toNat)))/\Below w.heap.size w w':=by
 obtain⟨p,rfl⟩:=aA hp.1;rw[bR];have c:p<=65535:=by omega
 rcases f with⟨a,b,rfl,rfl⟩|⟨g,o,b,rfl,h2,h3,h4⟩
 ·refine(Wt.few a 0 b p c (by omega) (by omega) w).mono ?_
  rintro e w' ⟨rfl,rfl⟩;exact⟨by unfold cZ;rw[am (by simp)],aR _⟩
 ·by_cases d:rom.length-p<2
  ·refine(Wt.few _ rom.length b p c (by omega) d w).mono ?_
   rintro e w' ⟨rfl,rfl⟩;exact⟨by unfold cZ;rw[am d],aR _⟩
  ·exact Wt.many g o rom.length b rom D p c h2 h (by omega) w h3 h4 i
end Go.Proofs.YthghjlinhokimaaGreatDoor
