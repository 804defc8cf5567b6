/-
  Parts of a proof, joined.
-/
import Derived.Test.YthghjlinhokimaaGreatDoorZbA
import Derived.Test.YthghjlinhokimaaGreatDoorZb04
set_option linter.all false
set_option maxRecDepth 100000
set_option maxHeartbeats 1600000
open Option renaming none->G,some->A
open Go renaming World->u,Value->π,Calls->Δ,bits->bW,Oper->cG,Act->dH,execOp->ey,yielded->gR,wpAnyH->jg
open Bool renaming false->ξ,true->Γ,noConfusion->ip
open Go.Proofs.Tryz renaming prog->ω
open Go.Act renaming put->ag
open Or renaming inl->aj
open Go.RowKit renaming intOf->aU
open Go.Region renaming wanted->b9,ready->cN,noSelect->fg,binds->gk,free->iv
open List renaming range->cM
open Go.IntKind renaming signed->cP,wrap->dB,bits->dC,i64->Q,u16->Y,u8->au
open Go.Lib renaming TabIs->fm,asciiSpaceTab->fP
open Go.Value renaming int->J,slice->κ,bool->ν,tuple->Ψ,string->Ω,agg->ac,pointer->aB
open Go.Ending renaming returned->μ
open Go.Obj renaming cells->χ
namespace Go.Proofs.YthghjlinhokimaaGreatDoor
open Go.ChangeShapes Go.WideShapes Go.ChangeAt Go.RowKit Go.Proofs.Tryz
theorem or_one:∀ s:Nat,s<256->bW .or au (((s:Int)*2)%256) 1=(((s:Int)*2)%256)+1:=by decide +kernel
theorem zyy(s:Int)(h:0<=s/\s<=255):bW .or au (s*2%256) 1=s*2%256+1:=by
 obtain⟨k,rfl⟩:=aA h.1;exact or_one k (by omega)
theorem and_one:∀ s:Nat,s<256->bW .and au (s:Int) 1=(s:Int)%2:=by decide +kernel
theorem zfN(s:Int)(h:0<=s/\s<=255):bW .and au s 1=s%2:=by
 obtain⟨k,rfl⟩:=aA h.1;exact and_one k (by omega)
def et(x:Int):Bool:=x%2 == 1
theorem wk:(Tryz.prog.info? 28).map (·.size)=A 3:=by kernel_rfl
theorem zpP(W:u)(q:Nat)(d s:Int)(l:Bool)(h:W.rangeAt q 0 [J au d,ν l,J au s]):(loadVar 28 ⟨q,0,G⟩).run ω W=.ok (ac #[J au d,ν l,J au s]) W :=
 run_loadVar_mid W q 0 28 _ _ h underlying28 rfl wk
theorem zii(d s:Int)(l:Bool)(w:u):Δ ω 200 #[ac #[J au d,ν l,J au s]] w λe w'=>e=μ (ac #[J au d,ν l,J au (ir l d s)])/\Below w.heap.size w w':=by
 cases l;all_goals
  go_enter func200,ntmps200;go_wp2;refine Ξ (v:=.agg _) (by simp[results,results200,go_sem,ir]) D ⟨D,?_⟩;exact stA (stA (aR _) _) _
theorem zlj(d s x:Int)(l:Bool)(w:u):Δ ω 111 #[ac #[J au d,ν l,J au s],J au x] w λe w'=>e=μ (ac #[J au x,ν l,J au (ir l x s)])/\Below w.heap.size w w':=by
 go_enter func111,ntmps111;go_wp2_with (go_at_call 200;refine(zii _ _ _ _).mono ?_;rintro e w1 ⟨rfl,a⟩;obtain⟨k1,f1⟩:=cj a;have c:w.heap.size+1<w1.heap.size:=Θ (by simp) a.size)
 have b:=Pl.fin [J au x,ν l,J au (ir l x s)] (wT _ _ _ 3 (w.heap.size+1) (by simp) D) (stA (stA (aR w) _) _) a (by simp) (by omega);exact Ξ (v:=.agg _) (by simp only[results,results111];simp;exact zpP _ _ _ _ _ b.2) D ⟨D,b.1⟩
theorem zlk(d s x:Int)(l:Bool)(w:u)(c:0<=x/\x<=255):Δ ω 241 #[ac #[J au d,ν l,J au s],J au x] w λe w'=>e=μ (ac #[J au d,ν (et x),J au (ir (et x) d s)])/\Below w.heap.size w w':=by
 have f:(bW .and au x 1 == 1)=et x:=by rw[zfN x c];rfl
 go_enter func241,ntmps241;go_wp2_with (go_at_call 200;refine(zii _ _ _ _).mono ?_;rintro e w1 ⟨rfl,a⟩;obtain⟨k1,f1⟩:=cj a;have g:w.heap.size+1<w1.heap.size:=Θ (by simp) a.size)
 have b:=Pl.fin [J au d,ν (et x),J au (ir (et x) d s)] (wT _ _ _ 3 (w.heap.size+1) (by simp) D) (stA (stA (aR w) _) _) a (by simp) (by omega);exact Ξ (v:=.agg _) (by simp only[results,results241];simp;exact zpP _ _ _ _ _ b.2) D ⟨D,b.1⟩
theorem zpQ(d s:Int)(l:Bool)(w:u)(b:0<=d/\d<=255)(a:0<=s/\s<=255):Δ ω 240 #[ac #[J au d,ν l,J au s]] w λe w'=>e=μ (Ψ #[J au (ir l d s/128),ac #[J au d,ν l,J au (ir l s (s*2%256+1))]])/\Below w.heap.size w w':=by
 have c:=zyy s a;cases l
 ·go_enter func240,ntmps240
  go_wp2;go_region_held3 (λw'=>w'.cell? ⟨w.heap.size,0,G⟩=A (J au d)/\w'.cell? ⟨w.heap.size,1,G⟩=A (ν ξ)/\w'.cell? ⟨w.heap.size,2,G⟩=A (J au (s*2%256+1)))
   ((go_keep;done))
   (fail)
  go_wp2;refine Ξ (v:=Ψ #[_,.agg _]) (by simp[results,results240,go_sem,ir]) D ⟨D,?_⟩;exact(stA (stA (aR _) _) _).drew
 ·go_enter func240,ntmps240
  go_wp2;go_region_held3 (λw'=>w'.cell? ⟨w.heap.size,0,G⟩=A (J au d)/\w'.cell? ⟨w.heap.size,1,G⟩=A (ν Γ)/\w'.cell? ⟨w.heap.size,2,G⟩=A (J au s))
   ((go_keep;done))
   (fail)
  go_wp2;refine Ξ (v:=Ψ #[_,.agg _]) (by simp[results,results240,go_sem,ir]) D ⟨D,?_⟩;exact(stA (stA (aR _) _) _).drew
def shN(d:Int)(k:Nat):Int:=(d*2 ^ k+(2 ^ k-1))%256
/-! ### the reference's pads -/
theorem zsL(d s:Int)(l:Bool)(w:u)(a:0<=d/\d<=255)(b:0<=s/\s<=255):Δ ω 90 #[ac #[J au d,ν l,J au s]] w λe w'=>e=μ (Ψ #[J au (ir l d s/128),ac #[J au d,ν l,J au (ir l s (s*2%256+1))]])/\Below w.heap.size w w':=by
 have c:IntKind.u8.wrap (s*2+1)=s*2%256+1:=by simp[dB,dC,cP];omega
 have f:IntKind.u8.wrap (d.tdiv 128)=d/128:=by rw[aF a.1];simp[dB,dC,cP];omega
 cases l
 ·go_enter func90,ntmps90
  go_wp2;go_region_held3 (λw'=>w'.cell? ⟨w.heap.size,0,G⟩=A (J au d)/\w'.cell? ⟨w.heap.size,1,G⟩=A (ν ξ)/\w'.cell? ⟨w.heap.size,2,G⟩=A (J au (s*2%256+1)))
   ((go_keep;done))
   (fail)
  go_wp2;refine Ξ (v:=Ψ #[_,.agg _]) (by simp[results,results90,go_sem,ir]) D ⟨D,?_⟩;exact(stA (stA (aR _) _) _).drew
 ·go_enter func90,ntmps90
  go_wp2;go_region_held3 (λw'=>w'.cell? ⟨w.heap.size,0,G⟩=A (J au d)/\w'.cell? ⟨w.heap.size,1,G⟩=A (ν Γ)/\w'.cell? ⟨w.heap.size,2,G⟩=A (J au s))
   ((go_keep;done))
   (fail)
  go_wp2;refine Ξ (v:=Ψ #[_,.agg _]) (by simp[results,results90,go_sem,ir]) D ⟨D,?_⟩;exact(stA (stA (aR _) _) _).drew
theorem zd(d s x:Int)(l:Bool)(w:u)(a:0<=x/\x<=255):Δ ω 95 #[ac #[J au d,ν l,J au s],J au x] w λe w'=>e=μ (ac #[J au d,ν (et x),J au (ir (et x) d s)])/\Below w.heap.size w w':=by
 have b:x%2=0 \/ x%2=1:=by omega
 rcases b with h|h
 all_goals
  have c:et x=(x%2 == 1):=D;rw[c,h];have f:IntKind.u8.wrap (x.tmod 2)=x%2:=by rw[ak a.1];simp[dB,dC,cP];omega
  go_enter func95,ntmps95;go_wp2;refine Ξ (v:=.agg _) (by simp[results,results95,go_sem,ir]) D ⟨D,?_⟩;exact stA (stA (aR _) _) _
theorem zpR(d s x:Int)(l:Bool)(w:u):Δ ω 70 #[ac #[J au d,ν l,J au s],J au x] w λe w'=>e=μ (ac #[J au x,ν l,J au (ir l x s)])/\Below w.heap.size w w':=by
 cases l;all_goals
  go_enter func70,ntmps70;go_wp2;refine Ξ (v:=.agg _) (by simp[results,results70,go_sem,ir]) D ⟨D,?_⟩;exact stA (stA (aR _) _) _
theorem zAf(k:Nat)(l:k<32)(g:k≠30)(h:O.mask k=7)(a b:Int)(E:0<=a)(o:a<=65535)(hb:0<=b)(p:b<=65535)(q:a/2048=k)(w:u)(m:br w):Δ ω 271 #[J Y a,J Y b] w λe w'=>e=μ (Ψ #[ac #[J Q k,J Q (a/256%8),J Q (a/32%8),J Q (M.low a 5),J Q (0)],J Q 1])/\Below w.heap.size w w':=by
 have f:=sT (Ω (O.nameS k)) (J Q (K.cyc k)) k l;have r:=hid m;have s:=hid h;have n:=hid f;rw[h] at n;have t:=(vJ (a/256) (by omega) (by omega)).1;have x:=(vJ (a/32) (by omega) (by omega)).1;clear m h f;go_enter func271,ntmps271;go_wp2_with (first
  | (go_at_call 256;refine(tH k l g _ (pJ r.out _)).mono ?_;rw[s.out];rintro e w1 ⟨rfl,c⟩;obtain⟨y,z⟩:=cj c;have i:w.heap.size<w1.heap.size:=by have:=c.size;simp at this;omega)
  | (go_at_call 337;refine(zdt _ _ _ (by omega) (by omega) (by omega) (by omega)).mono ?_;rintro e w' ⟨rfl,rfl⟩))
 clear t x;go_region_held3 (λw'=>w'.cell? ⟨w1.heap.size,0,G⟩=A (Ω (O.nameS k))/\w'.cell? ⟨w1.heap.size,1,G⟩=A (J Q (K.cyc k))/\w'.cell? ⟨w1.heap.size,2,G⟩=A (J Q 7)/\w'.cell? ⟨w1.heap.size+1,0,G⟩=A (J Q (k))/\w'.cell? ⟨w1.heap.size+1,1,G⟩=A (J Q (a/256%8))/\w'.cell? ⟨w1.heap.size+1,2,G⟩=A (J Q (a/32%8))/\w'.cell? ⟨w1.heap.size+1,3,G⟩=A (J Q (M.low a 5))/\w'.cell? ⟨w1.heap.size+1,4,G⟩=A (J Q (0)))
  (first
    | with_reducible exact nV d
    | with_reducible exact lV i (by assumption)
    | (go_keep;done))
  ((go_at_call 288;refine(n.out _).mono ?_;rintro e w2 ⟨rfl,d⟩;obtain⟨j,B⟩:=lW c d))
 go_wp2;refine Ξ (v:=Ψ #[ac #[J Q k,J Q (a/256%8),J Q (a/32%8),J Q (M.low a 5),J Q (0)],J Q 1]) (by simp[results,results271,go_sem,j,lenOf]) D ⟨D,?_⟩;exact(((((bw (stA (stA (bw (stA (aR _) _) c) _) _).drew d).setCell (ψ _) _).setCell (ψ _) _).setCell (ψ _) _).setCell (ψ _) _).setCell (ψ _) _
theorem zAg(k:Nat)(l:k<32)(g:k≠30)(h:O.mask k=8)(a b:Int)(z:0<=a)(o:a<=65535)(hb:0<=b)(p:b<=65535)(q:a/2048=k)(w:u)(m:br w):Δ ω 271 #[J Y a,J Y b] w λe w'=>e=μ (Ψ #[ac #[J Q k,J Q (0),J Q (0),J Q (0),J Q (b)],J Q 2])/\Below w.heap.size w w':=by
 have f:=sT (Ω (O.nameS k)) (J Q (K.cyc k)) k l;have r:=hid m;have s:=hid h;have n:=hid f;rw[h] at n;clear m h f;go_enter func271,ntmps271;go_wp2_with (first
  | (go_at_call 256;refine(tH k l g _ (pJ r.out _)).mono ?_;rw[s.out];rintro e w1 ⟨rfl,c⟩;obtain⟨t,x⟩:=cj c;have i:w.heap.size<w1.heap.size:=by have:=c.size;simp at this;omega))
 go_region_held3 (λw'=>w'.cell? ⟨w1.heap.size,0,G⟩=A (Ω (O.nameS k))/\w'.cell? ⟨w1.heap.size,1,G⟩=A (J Q (K.cyc k))/\w'.cell? ⟨w1.heap.size,2,G⟩=A (J Q 8)/\w'.cell? ⟨w1.heap.size+1,0,G⟩=A (J Q (k))/\w'.cell? ⟨w1.heap.size+1,1,G⟩=A (J Q (0))/\w'.cell? ⟨w1.heap.size+1,2,G⟩=A (J Q (0))/\w'.cell? ⟨w1.heap.size+1,3,G⟩=A (J Q (0))/\w'.cell? ⟨w1.heap.size+1,4,G⟩=A (J Q (b)))
  (first
    | with_reducible exact nV d
    | with_reducible exact lV i (by assumption)
    | (go_keep;done))
  ((go_at_call 288;refine(n.out _).mono ?_;rintro e w2 ⟨rfl,d⟩;obtain⟨j,y⟩:=lW c d))
 go_wp2;refine Ξ (v:=Ψ #[ac #[J Q k,J Q (0),J Q (0),J Q (0),J Q (b)],J Q 2]) (by simp[results,results271,go_sem,j,lenOf]) D ⟨D,?_⟩;exact(((((bw (stA (stA (bw (stA (aR _) _) c) _) _).drew d).setCell (ψ _) _).setCell (ψ _) _).setCell (ψ _) _).setCell (ψ _) _).setCell (ψ _) _
theorem zAh(k:Nat)(l:k<32)(g:k≠30)(h:O.mask k=9)(a b:Int)(B:0<=a)(o:a<=65535)(hb:0<=b)(p:b<=65535)(q:a/2048=k)(w:u)(m:br w):Δ ω 271 #[J Y a,J Y b] w λe w'=>e=μ (Ψ #[ac #[J Q k,J Q (a/256%8),J Q (0),J Q (0),J Q (b)],J Q 2])/\Below w.heap.size w w':=by
 have f:=sT (Ω (O.nameS k)) (J Q (K.cyc k)) k l;have r:=hid m;have s:=hid h;have n:=hid f;rw[h] at n;have t:=(vJ (a/256) (by omega) (by omega)).1;clear m h f;go_enter func271,ntmps271;go_wp2_with (first
  | (go_at_call 256;refine(tH k l g _ (pJ r.out _)).mono ?_;rw[s.out];rintro e w1 ⟨rfl,c⟩;obtain⟨x,y⟩:=cj c;have i:w.heap.size<w1.heap.size:=by have:=c.size;simp at this;omega))
 clear t;go_region_held3 (λw'=>w'.cell? ⟨w1.heap.size,0,G⟩=A (Ω (O.nameS k))/\w'.cell? ⟨w1.heap.size,1,G⟩=A (J Q (K.cyc k))/\w'.cell? ⟨w1.heap.size,2,G⟩=A (J Q 9)/\w'.cell? ⟨w1.heap.size+1,0,G⟩=A (J Q (k))/\w'.cell? ⟨w1.heap.size+1,1,G⟩=A (J Q (a/256%8))/\w'.cell? ⟨w1.heap.size+1,2,G⟩=A (J Q (0))/\w'.cell? ⟨w1.heap.size+1,3,G⟩=A (J Q (0))/\w'.cell? ⟨w1.heap.size+1,4,G⟩=A (J Q (b)))
  (first
    | with_reducible exact nV d
    | with_reducible exact lV i (by assumption)
    | (go_keep;done))
  ((go_at_call 288;refine(n.out _).mono ?_;rintro e w2 ⟨rfl,d⟩;obtain⟨j,z⟩:=lW c d))
 go_wp2;refine Ξ (v:=Ψ #[ac #[J Q k,J Q (a/256%8),J Q (0),J Q (0),J Q (b)],J Q 2]) (by simp[results,results271,go_sem,j,lenOf]) D ⟨D,?_⟩;exact(((((bw (stA (stA (bw (stA (aR _) _) c) _) _).drew d).setCell (ψ _) _).setCell (ψ _) _).setCell (ψ _) _).setCell (ψ _) _).setCell (ψ _) _
theorem zyr(k:Nat)(m:k<32)(g:k≠30)(h:O.mask k=17)(a b:Int)(p:0<=a)(i:a<=65535)(hb:0<=b)(q:b<=65535)(r:a/2048=k)(w:u)(n:br w):Δ ω 271 #[J Y a,J Y b] w λe w'=>e=μ (Ψ #[ac #[J Q k,J Q (a/256%8),J Q (0),J Q (a%16),J Q (0)],J Q 1])/\Below w.heap.size w w':=by
 have f:=sT (Ω (O.nameS k)) (J Q (K.cyc k)) k m;have s:=hid n;have t:=hid h;have o:=hid f;rw[h] at o;have x:=(vJ (a/256) (by omega) (by omega)).1;have y:=(vJ a p i).2;clear n h f;go_enter func271,ntmps271;go_wp2_with (first
  | (go_at_call 256;refine(tH k m g _ (pJ s.out _)).mono ?_;rw[t.out];rintro e w1 ⟨rfl,c⟩;obtain⟨z,B⟩:=cj c;have j:w.heap.size<w1.heap.size:=by have:=c.size;simp at this;omega))
 clear x y;go_region_held3 (λw'=>w'.cell? ⟨w1.heap.size,0,G⟩=A (Ω (O.nameS k))/\w'.cell? ⟨w1.heap.size,1,G⟩=A (J Q (K.cyc k))/\w'.cell? ⟨w1.heap.size,2,G⟩=A (J Q 17)/\w'.cell? ⟨w1.heap.size+1,0,G⟩=A (J Q (k))/\w'.cell? ⟨w1.heap.size+1,1,G⟩=A (J Q (a/256%8))/\w'.cell? ⟨w1.heap.size+1,2,G⟩=A (J Q (0))/\w'.cell? ⟨w1.heap.size+1,3,G⟩=A (J Q (a%16))/\w'.cell? ⟨w1.heap.size+1,4,G⟩=A (J Q (0)))
  (first
    | with_reducible exact nV d
    | with_reducible exact lV j (by assumption)
    | (go_keep;done))
  ((go_at_call 288;refine(o.out _).mono ?_;rintro e w2 ⟨rfl,d⟩;obtain⟨l,E⟩:=lW c d))
 go_wp2;refine Ξ (v:=Ψ #[ac #[J Q k,J Q (a/256%8),J Q (0),J Q (a%16),J Q (0)],J Q 1]) (by simp[results,results271,go_sem,l,lenOf]) D ⟨D,?_⟩;exact(((((bw (stA (stA (bw (stA (aR _) _) c) _) _).drew d).setCell (ψ _) _).setCell (ψ _) _).setCell (ψ _) _).setCell (ψ _) _).setCell (ψ _) _
section
variable {P : Program} {md : Region.Mode} {ops : Array cG} {η : Exit -> dH -> u -> Prop} {S : u -> Prop} {st : Nat}
theorem dy(i:Nat)(oi:cG){v:π}{fuel:Nat}{b:Array Bool}{a:dH}{w:u}(e:S w)(h:jg P md ops η S fuel (b.setIfInBounds i Γ) (a.put oi.dst v) w)(hi:ops[i]?=A oi:=by rfl)
 (f:fg ops=Γ:=by kernel_rfl) (g:iv md ops b i=Γ:=by kernel_rfl) (j:(cN md ops b).contains i=Γ:=by kernel_rfl)
 (k:∀ c a w,η (.panic c) (a.put oi.dst v) w->η (.panic c) a w:=by exact λ_ _ _ h=>h) (l:b9 oi (gR ops a.tmps)=Γ:=by rfl) (m:∀ w',S w'->(ey a.eval oi).run P w'=.ok (.value v) w':=by(intro w d;clear d;go_simp;try (with_reducible rfl))):jg P md ops η S (fuel+1) b a w :=
 wpAnyH_take hi f g j k (aj ⟨l,m⟩) e h
theorem zjK{i:Nat}(x:List Nat){oi:cG}{v:π}(hi:ops[i]?=A oi)(q:∀(j:Nat) (o:cG) cs b,ops[j]?=A o->o.op ≠ .select cs b)
 (hQ:∀ c a w,η (.panic c) (a.put oi.dst v) w->η (.panic c) a w) (W:∀ k∈x,∃ p∈i::x,waits md ops k p=Γ) (y:st∈x) (X:i ∉ x) :
 ∀(fuel:Nat) (d:Array Bool) (a:dH) (w:u),
  (∀ j oj,ops[j]?=A oj->j≠i->d.getD j Γ=ξ->(∀ e∈oj.after,gk md e=Γ->e.on≠i)->oi.apart ops oj=Γ) ->
  i∈cN md ops d->YieldsIf P ops S oi v a->S w->(∀ k∈x,d.getD k Γ=ξ) ->
  fl P md ops η S st fuel (d.setIfInBounds i Γ) (a.put oi.dst v) w->fl P md ops η S st (fuel+1) d a w:=by
 intro fuel;induction fuel with
 | zero =>
  intro d a w _ z U E _ H;refine⟨λh=>(by rw[h] at z;cases z),λj V=>?_⟩;by_cases f:j=i
  ·subst f;exact U.wpOp hi E ⟨λ_=>E,H⟩
  ·have:=lm V f
   rw[H.1] at this;cases this
 | succ fuel ih =>
  intro d a w l z U E g H;refine⟨λh=>(by rw[h] at z;cases z),λj V=>?_⟩;by_cases f:j=i
  ·subst f;exact U.wpOp hi E ⟨λ_=>E,H⟩
  ·have h1:=H.2 j (lm V f)
   obtain⟨r,oj,m,F⟩:=oX.1 V;have off:∀(p:Nat),d.getD p Γ=ξ->∀ e∈oj.after,gk md e=Γ->e.on≠p:=λp h0 e he hb Z=>by
    have h1:=F e he hb;rw[Z] at h1;rcases iz p d.size with h'|h'
    ·simp[h'] at h0 h1;rw[h0] at h1;cases h1
    ·simp[jU h'] at h1
   have s:∀ e∈oj.after,gk md e=Γ->e.on≠i:=off i (oX.1 z).1;have I:∀ k∈x,j≠k:=λk B e=>by
    subst e;obtain⟨p,hp,hw⟩:=W j B;obtain⟨os,hos,e',L,M,N⟩:=zrq hw;rw[hos] at m;cases m;rcases bp.1 hp with rfl|hp
    ·exact s e' L M N
    ·exact off p (g p hp) e' L M N
   have h2:=wpOp_putIf m (l j oj m f r s) (λcs b=>q i oi cs b hi) (λcs b=>q j oj cs b m) hQ U h1;have R:∀ k∈x,(d.setIfInBounds j Γ).getD k Γ=ξ:=λk B=>by rw[jG Γ (I k B)];exact g k B
   have t:((d.setIfInBounds i Γ).setIfInBounds j Γ).getD st Γ=ξ:=by rw[jG Γ (I st y),jG Γ (λe:i=st=>X (e.symm ▸ y))];exact g st y
   have n:∀ k ok,ops[k]?=A ok->k≠i->(d.setIfInBounds j Γ).getD k Γ=ξ ->
    (∀ e∈ok.after,gk md e=Γ->e.on≠i)->oi.apart ops ok=Γ:=λk ok B hki g hno=>by
    refine l k ok B hki ?_ hno;by_cases T:j=k
    ·subst T;exact r
    ·rw[jG Γ T] at g;exact g
   refine qJ (λa' w' h3=>⟨λ_=>h3.2.1 t,ih (d.setIfInBounds j Γ) a' w' n (lm z (bZ f)) h3.1 (h3.2.1 t) R ?_⟩) h2;rw[jp _ _ f];exact h3.2.2
theorem rA(d:List Nat){i:Nat}{oi:cG}{v:π}{fuel:Nat}{b:Array Bool}{a:dH}{w:u}(hi:ops[i]?=A oi)(m:YieldsIf P ops S oi v a)(n:S w)
 (h:fl P md ops η S st fuel (b.setIfInBounds i Γ) (a.put oi.dst v) w)
 (o:fg ops=Γ:=by kernel_rfl) (q:iv md ops b i=Γ:=by kernel_rfl) (r:(cN md ops b).contains i=Γ:=by kernel_rfl)
 (e:d.all (λk=>(i::d).any (λp=>waits md ops k p))=Γ:=by kernel_rfl) (f:st∈d:=by decide) (g:i ∉ d:=by decide) (j:d.all (λk=>b.getD k Γ == ξ)=Γ:=by kernel_rfl)
 (s:∀ c a w,η (.panic c) (a.put oi.dst v) w->η (.panic c) a w:=by exact λ_ _ _ h=>h):fl P md ops η S st (fuel+1) b a w :=
 zjK d hi (nF o) s (λk l=>by
  obtain⟨p,hp,t⟩:=mi.1 (cx.1 e k l);exact⟨p,hp,t⟩) f g fuel b a w (o8 hi q) (by simpa using r) m n (λk l=>by simpa using cx.1 j k l) h
theorem b8(i:Nat){oi:cG}{v:π}{fuel:Nat}{b:Array Bool}{a e:dH}{w:u}(f:b.getD st Γ=ξ->S w)(h:fl P md ops η S st fuel (b.setIfInBounds i Γ) e w)(hi:ops[i]?=A oi:=by(first|(simp only[ch,bN,bv];exact D)|rfl))(g:fg ops=Γ:=by kernel_rfl)(j:iv md ops b i=Γ:=by kernel_rfl)(k:(cN md ops b).contains i=Γ:=by kernel_rfl)(d:st≠i:=by decide)(l:∀ c a w,η (.panic c) (a.put oi.dst v) w->η (.panic c) a w:=by exact λ_ _ _ h=>h)(m:b9 oi (gR ops a.tmps)=Γ:=by rfl)
 (n:∀ w',True->(ey a.eval oi).run P w'=.ok (.value v) w':=by(intro w o;go_simp;try (with_reducible rfl))) (hp:a.put oi.dst v=e:=by(simp only[fK,eZ,fd,ag,dp,fA,fB];exact D)):fl P md ops η S st (fuel+1) b a w:=by
 subst hp;exact oS hi g j k d l (aj ⟨m,n⟩) f h
theorem sf(d:List Nat)(i:Nat)(v:π){oi:cG}{fuel:Nat}{b:Array Bool}{a j:dH}{w:u}(hi:ops[i]?=A oi)(y:∀ w',S w'->(ey a.eval oi).run P w'=.ok (.value v) w')(l:S w)(h:fl P md ops η S st fuel (b.setIfInBounds i Γ) j w)(m:fg ops=Γ:=by kernel_rfl)(n:iv md ops b i=Γ:=by kernel_rfl)(o:(cN md ops b).contains i=Γ:=by kernel_rfl)
 (e:(st::d).all (λk=>(i::st::d).any (λp=>waits md ops k p))=Γ:=by kernel_rfl) (f:i ∉ st::d:=by decide) (g:(st::d).all (λk=>b.getD k Γ == ξ)=Γ:=by kernel_rfl) (q:∀ c a w,η (.panic c) (a.put oi.dst v) w->η (.panic c) a w:=by exact λ_ _ _ h=>h) (r:b9 oi (gR ops a.tmps)=Γ:=by rfl) (hp:a.put oi.dst v=j:=by(simp only[fK,eZ,fd,ag,dp,fA,fB];exact D)):fl P md ops η S st (fuel+1) b a w:=by
 subst hp;exact rA (st::d) hi (aj ⟨r,y⟩) l h m n o e (bO ..) f g q
theorem kU(d:List Nat)(i:Nat){p:Addr}{θ v:π}{oi:cG}{fuel:Nat}{b:Array Bool}{a l:dH}{w:u}(hc:∀ w',S w'->w'.cell? p=A θ)(m:S w)(h:fl P md ops η S st fuel (b.setIfInBounds i Γ) l w)(hi:ops[i]?=A oi:=by(first|(simp only[ch,bN,bv];exact D)|rfl))(n:fg ops=Γ:=by kernel_rfl)(o:iv md ops b i=Γ:=by kernel_rfl)(q:(cN md ops b).contains i=Γ:=by kernel_rfl)
 (e:(st::d).all (λk=>(i::st::d).any (λp=>waits md ops k p))=Γ:=by kernel_rfl) (f:i ∉ st::d:=by decide) (g:(st::d).all (λk=>b.getD k Γ == ξ)=Γ:=by kernel_rfl) (r:∀ c a w,η (.panic c) (a.put oi.dst v) w->η (.panic c) a w:=by exact λ_ _ _ h=>h) (s:b9 oi (gR ops a.tmps)=Γ:=by rfl) (t:∀ w',w'.cell? p=A θ->(ey a.eval oi).run P w'=.ok (.value v) w':=by(intro w' j;have x:=aC w' _ j;go_simp;try (with_reducible rfl))) (hp:a.put oi.dst v=l:=by(simp only[fK,eZ,fd,ag,dp,fA,fB];exact D)):fl P md ops η S st (fuel+1) b a w :=
 sf d i v hi (λw' h=>t w' (hc w' h)) m h n o q e f g r s hp
theorem jW(i:Nat)(v:π){oi:cG}{fuel:Nat}{b:Array Bool}{a d:dH}{w:u}(hi:ops[i]?=A oi)(y:∀ w',S w'->(ey a.eval oi).run P w'=.ok (.value v) w')(e:S w)(h:jg P md ops η S fuel (b.setIfInBounds i Γ) d w)(f:fg ops=Γ:=by kernel_rfl)(g:iv md ops b i=Γ:=by kernel_rfl)(j:(cN md ops b).contains i=Γ:=by kernel_rfl)(k:∀ c a w,η (.panic c) (a.put oi.dst v) w->η (.panic c) a w:=by exact λ_ _ _ h=>h)(l:b9 oi (gR ops a.tmps)=Γ:=by rfl)(hp:a.put oi.dst v=d:=by(simp only[fK,eZ,fd,ag,dp,fA,fB];exact D)):jg P md ops η S (fuel+1) b a w:=by
 subst hp;exact wpAnyH_take hi f g j k (aj ⟨l,y⟩) e h
theorem bH(i:Nat){oi:cG}{v:π}{fuel:Nat}{b:Array Bool}{a e:dH}{w:u}(f:S w)(h:jg P md ops η S fuel (b.setIfInBounds i Γ) e w)(hi:ops[i]?=A oi:=by(first|(simp only[ch,bN,bv];exact D)|rfl))(g:fg ops=Γ:=by kernel_rfl)(j:iv md ops b i=Γ:=by kernel_rfl)(k:(cN md ops b).contains i=Γ:=by kernel_rfl)(l:∀ c a w,η (.panic c) (a.put oi.dst v) w->η (.panic c) a w:=by exact λ_ _ _ h=>h)(m:b9 oi (gR ops a.tmps)=Γ:=by rfl)
 (n:∀ w',S w'->(ey a.eval oi).run P w'=.ok (.value v) w':=by(intro w d;(try dsimp only at d);go_simp;try (with_reducible rfl))) (hp:a.put oi.dst v=e:=by(simp only[fK,eZ,fd,ag,dp,fA,fB];exact D)):jg P md ops η S (fuel+1) b a w :=
 jW i v hi n f h g j k l m hp
theorem nU(i:Nat){p:Addr}{θ v:π}{oi:cG}{fuel:Nat}{b:Array Bool}{a e:dH}{w:u}(hc:∀ w',S w'->w'.cell? p=A θ)(f:S w)(h:jg P md ops η S fuel (b.setIfInBounds i Γ) e w)(hi:ops[i]?=A oi:=by(first|(simp only[ch,bN,bv];exact D)|rfl))(g:fg ops=Γ:=by kernel_rfl)(j:iv md ops b i=Γ:=by kernel_rfl)(k:(cN md ops b).contains i=Γ:=by kernel_rfl)(l:∀ c a w,η (.panic c) (a.put oi.dst v) w->η (.panic c) a w:=by exact λ_ _ _ h=>h)(m:b9 oi (gR ops a.tmps)=Γ:=by rfl)
 (n:∀ w',w'.cell? p=A θ->(ey a.eval oi).run P w'=.ok (.value v) w':=by(intro w' d;have o:=aC w' _ d;go_simp;try (with_reducible rfl))) (hp:a.put oi.dst v=e:=by(simp only[fK,eZ,fd,ag,dp,fA,fB];exact D)):jg P md ops η S (fuel+1) b a w :=
 jW i v hi (λw' h=>n w' (hc w' h)) f h g j k l m hp
theorem gy(i:Nat){o:cG}{fuel:Nat}{b:Array Bool}{a:dH}{w:u}(h:∀ c:dH->u->Prop,Shut (∀ a w,S w->(S w->jg P md ops η S fuel (b.setIfInBounds i Γ) a w)->c a w)->if b9 o (gR ops a.tmps)=Γ then Oper.wp P o a w c η else c (a.put o.dst undef) w)
 (d:ops[i]?=A o:=by(first|(simp only[ch,bN,bv];exact D)|rfl)) (e:cN md ops b=[i]:=by kernel_rfl):jg P md ops η S (fuel+1) b a w:=wpAnyH_ready e (by simp) (AllReadyH.cons d h AllReadyH.nil)
theorem gL{K:dH->u->Prop}{fuel:Nat}{b:Array Bool}{a c:dH}{w:u}(d:Shut (∀ a w,S w->(S w->jg P md ops η S fuel b a w)->K a w))(e:S w)(h:S w->jg P md ops η S fuel b c w)(hp:a=c:=by(first|(simp only[ag,xA,xB,xC];exact D)|exact D)):K a w:=by
 subst hp;exact d.out _ _ e h
theorem jy(i:Nat){o:cG}{fuel:Nat}{b:Array Bool}{a:dH}{w:u}(h:∀ c:dH->u->Prop,Shut (∀ a w,((b.setIfInBounds i Γ).getD st Γ=ξ->S w)->fl P md ops η S st fuel (b.setIfInBounds i Γ) a w->c a w)->if b9 o (gR ops a.tmps)=Γ then Oper.wp P o a w c η else c (a.put o.dst undef) w)
 (d:ops[i]?=A o:=by(first|(simp only[ch,bN,bv];exact D)|rfl)) (e:cN md ops b=[i]:=by kernel_rfl):fl P md ops η S st (fuel+1) b a w:=wz e d h
theorem jV{K:dH->u->Prop}{fuel:Nat}{b:Array Bool}{a c:dH}{w:u}(d:Shut (∀ a w,(b.getD st Γ=ξ->S w)->fl P md ops η S st fuel b a w->K a w))(e:b.getD st Γ=ξ->S w)(h:fl P md ops η S st fuel b c w)(hp:a=c:=by(first|(simp only[ag,xA,xB,xC];exact D)|exact D)):K a w:=by
 subst hp;exact d.out _ _ e h
end
end Go.Proofs.YthghjlinhokimaaGreatDoor
namespace Go.Proofs.YthghjlinhokimaaGreatDoor.S
abbrev By:=List UInt8
def sgn(p:Nat):UInt8:=[100,115,119,110].getD p 0
def parts(k:Nat):List Nat:=(cM 4).filter (λp=>O.hasC k (sgn p))
/-! ### a program's listing -/
/-! ### what is built of a text -/
structure St where
 rom:By
 places:List (By × Nat)
 uses:List (By × Nat × Nat)
end Go.Proofs.YthghjlinhokimaaGreatDoor.S
namespace Go.Proofs.YthghjlinhokimaaGreatDoor
open Go.ChangeShapes Go.WideShapes Go.ChangeAt Go.RowKit Go.Proofs.Tryz
def bs(s:ByteArray):List UInt8:=s.data.toList
theorem rx{w w':u}(h:Below w.heap.size w w'):w.grownBy w' G:=⟨h.os,h.tape,h.output,h.size,λk a _=>h.block k a⟩
def me:Array π:=((cM 32).map (λk=>Value.string (K.text k))).toArray
theorem zrB(w:u)(a:fm ω w "strings.asciiSpace" au fP):Δ ω 216 #[Ω K.table] w λe w'=>e=μ (κ (A ⟨w.heap.size,0,G⟩) 32 32)/\w'=w.alloc (χ me 9):=by
 have h:=Tryz.strings_Fields_laid K.table w (by rw[K.size_table];omega) K.ascii_table a;rw[K.fields_table] at h;refine h.mono λe w' b=>⟨b.1.trans (by simp),b.2.trans ?_⟩
 simp[me,Function.comp_def]
theorem ztW(k:Nat)(a:k<32)(m:Int)(w:u)(c:w.cell? ⟨0,0,G⟩=A (J Q m)):Δ ω 169 #[Ω (K.text k),Ω ⟨#[58]⟩] w λe w'=>e=μ (κ (A ⟨w.heap.size,0,G⟩) 3 3)/\w'=w.alloc (χ #[Ω (K.name k),Ω (K.has k),Ω (K.num k)] 9):=by
 have d:=K.sizes k a;have h:=Tryz.strings_Split (K.text k) K.colon m w (by omega) c (by decide);rw[(K.split_text k a).1,(K.split_text k a).2] at h;exact h.mono λe w' b=>⟨b.1,b.2.trans (by simp)⟩
theorem ztX(k:Nat)(a:k<32)(w:u):Δ ω 217 #[Ω (K.num k),J Q 10,J Q 64] w λe w'=>e=μ (Ψ #[J Q (K.cyc k),.nilIface])/\Below w.heap.size w w':=by
 have c:=K.sizes k a;refine(Tryz.strconv_ParseInt_10_at64_ok (K.num k) (by omega) (K.cyc k) (K.parse_num k a) w).mono λe w' b=>⟨b.1,?_⟩
 rcases b.2 with rfl|⟨t,rfl⟩
 ·exact bq _ _
 ·exact Joins.below_bytesWorld _ _ _ _ (ψ _)
theorem ztY:(Tryz.prog.info? 231).map (λi=>(i.zero,i.size,i.bytes))=A (A (ac #[Ω ⟨#[]⟩,Ω ⟨#[]⟩,J Q 0]),3,40):=by kernel_rfl
theorem zwI(k:Nat)(a:k<32):me[k]?=A (Ω (K.text k)):=by
 unfold me;rw[ch,bn,ij a];rfl
theorem zrC(w:u)(k:Nat)(a:k<32):(w.alloc (χ me 9)).cell? ⟨w.heap.size,k,G⟩=A (Ω (K.text k)):=by
 rw[j3];exact zwI k a
theorem ztZ(w:u)(f:fm ω w "strings.asciiSpace" au fP)(m:Int)(H:w.cell? ⟨0,0,G⟩=A (J Q m)):Δ ω 142 #[] w λe w'=>∃ v,e=μ v/\w'.ownsRow (w.heap.size+1) 231 3 v 32 (K.cells 32)/\Below w.heap.size w w':=by
 obtain⟨i0,x,y,z,B⟩:=info_parts ztY;have L:=hid f;clear f;have q:=aC w _ H;go_enter func142,ntmps142;go_wp2_with (go_at_call 216;refine(zrB _ L.out).mono ?_;rintro e w' ⟨rfl,rfl⟩)
 go_loopw [1,9] (λl i wr=>∃ k:Nat,k<=32/\i=J Q k/\wr.ownsRow (w.heap.size+1) 231 3 l k (K.cells k)/\Below (w.heap.size+1) (w.alloc (χ me 9)) wr) (λ_ i _=>32-(aU i).toNat)
 case atStart=>exact⟨0,by omega,D,⟨D,aj ⟨D,D⟩⟩,bq _ _⟩
 case round =>
  obtain⟨k,W,rfl,b,c⟩:=hrel;by_cases h:k<32
  ·have M:=(c.cell (p:=⟨w.heap.size,k,G⟩) (by simp)).trans (zrC w k h)
   have E:=((c.cell (p:=⟨0,0,G⟩) (by simp at q ⊢ <;> omega)).trans (aN w _ _ (by simpa using q))).trans H;go_wp2_with (first
    | (go_at_call 169;refine(ztW k h m _ (by exact E)).mono ?_;rintro e w' ⟨rfl,rfl⟩)
    | (go_at_call 217;refine(ztX k h _).mono ?_;rintro e w2 ⟨rfl,d⟩))
   have N:w2.cell? ⟨wr.heap.size,0,G⟩=A (Ω (K.name k)):=(d.cell (p:=⟨wr.heap.size,0,G⟩) (by simp)).trans (by simp);have P:w2.cell? ⟨wr.heap.size,1,G⟩=A (Ω (K.has k)):=(d.cell (p:=⟨wr.heap.size,1,G⟩) (by simp)).trans (by simp);have n:=(b.alloc (χ #[Ω (K.name k),Ω (K.has k),Ω (K.num k)] 9)).kept (rx d) (by cases u1.ownBlock with|none=>exact aj D|some g=>exact Or.inr (by simp));have R:wr.heap.size+1<=w2.heap.size:=by have:=d.size;simpa using this
   have F:w.heap.size+1<=wr.heap.size:=by have:=c.size;simpa using this
   have r:u1.ownBlock≠A wr.heap.size:=λe=>by have:=b.lt _ e;omega
   go_region_held3 (λw'=>w'.cell? ⟨wr.heap.size,0,G⟩=A (Ω (K.name k))/\w'.cell? ⟨wr.heap.size,1,G⟩=A (Ω (K.has k)))
    (first
      | go_keep
      | (go_split_ands
         refine⟨?_,?_⟩
         ·(rw[a.cell_far _ (by simp;omega) (bZ r)];assumption)
         ·(rw[a.cell_far _ (by simp;omega) (bZ r)];assumption)))
    ((refine step_append_lies _ (by rfl) _ _ _ (by rfl) (w.heap.size+1) 231 i0 _ 3 40 underlying232 x y z B D (by omega) u1 k (K.cells k) (by rfl) ((n.alloc _).drew)
       ⟨w2.heap.size,0,G⟩ 1 1 [Ω (K.name k),Ω (K.has k),J Q (K.cyc k)] (by rfl) (by rfl) (World.news_of_block (cs:=#[Ω (K.name k),Ω (K.has k),J Q (K.cyc k)]) (t:=231) (fr:=(0,0)) (aM w2 _)) (by simp[Value.oneCell'])
       (by omega) (by unfold maxLen;omega) (by omega) (by simp;omega) (w2.heap.size+1) (by simp) ?_;intro X T Z o a U I))
   go_wp2
   go_roundw
   case rel=>exact⟨k+1,by omega,by go_num,o,(((c.alloc F _).trans (d.mono (by simp;omega))).alloc (by omega) _).drew.grown a (by simp;omega) (λj V=>(b.lt j V).1)⟩
   case measure=>simp[aU];omega
  ·go_wp2
   go_ret;have s:k=32:=by omega
   subst s;exact⟨_,D,b,((bq _ _).alloc (ψ _) _).trans (c.mono (by omega))⟩
def sS(w:u)(g:Nat):Prop:=∀ k,k<32->w.cell? ⟨g,k*3,G⟩=A (Ω (K.name k))/\w.cell? ⟨g,k*3+1,G⟩=A (Ω (K.has k))/\w.cell? ⟨g,k*3+2,G⟩=A (J Q (K.cyc k))
theorem zn4(w:u)(d:fm ω w "strings.asciiSpace" au fP)(m:Int)(h:w.cell? ⟨0,0,G⟩=A (J Q m)):Δ ω 142 #[] w λe w'=>∃ g c,e=μ (κ (A ⟨g,0,G⟩) 32 c)/\sS w' g/\w.heap.size<=g/\g<w'.heap.size/\Below w.heap.size w w':=by
 refine(ztZ w d m h).mono λe w' ⟨v,i,a,hb⟩=>?_
 obtain⟨g,c,l,n,f⟩:=a.form (by omega);subst l;have b:∀ j,(⟨g,0,G⟩:Addr).add j=⟨g,j,G⟩:=λj=>by unfold Addr.add;split <;> simp_all
 refine⟨g,c,i,λk o=>?_,by omega,f,hb⟩;obtain⟨h1,h2,h3⟩:=K.cells_at 32 k o;exact⟨b _ ▸ a.cells D _ _ h1,b _ ▸ a.cells D _ _ h2,b _ ▸ a.cells D _ _ h3⟩
theorem xn(w:u)(h:Facts w):Δ ω 142 #[] w λe w'=>∃ g a,e=μ (κ (A ⟨g,0,G⟩) 32 a)/\sS w' g/\w.heap.size<=g/\g<w'.heap.size/\Below w.heap.size w w':=by
 obtain⟨m,b⟩:=h.len;exact zn4 w h.tab m b
def gb(m:List UInt8)(i:Nat):Nat:=(m.getD i 0).toNat
theorem jJ(m:List UInt8)(i:Nat):gb m i<256:=(m.getD i 0).toNat_lt
def td(m:List UInt8)(t x y:Nat):Nat:=gb m (16+4*(t%16)+y)/4 ^ (3-x)%4
theorem xP(m:List UInt8)(t x y:Nat):td m t x y<4:=j8 _ (by decide)
def g16(m:List UInt8)(ι X:Nat):Nat:=td m (gb m (ι/4*4+X/4)) (X%4) (ι%4)
def gd(m:List UInt8)(y x:Nat):Nat:=g16 m ((y+gb m 169)%16) ((x+gb m 168)%16)
theorem xQ(m:List UInt8)(y x:Nat):gd m y x<4:=xP ..
def lnS(m:List UInt8)(k:Nat):Nat:=gb m (128+4*k)
def clS(m:List UInt8)(k:Nat):Nat:=gb m (129+4*k)
def kW(m:List UInt8)(k:Nat):Nat:=gb m (130+4*k)
def hwS(m:List UInt8)(k:Nat):Nat:=gb m (131+4*k)
def ru(m:List UInt8)(y k:Nat):Bool:=decide (lnS m k<=y/\y<lnS m k+4)
def kq(m:List UInt8)(y:Nat)(n:Nat):List Nat:=(cM n).filter (ru m y)
theorem AM(m:List UInt8)(y n:Nat):kq m y (n+1)=if ru m y n then kq m y n++[n] else kq m y n:=by
 unfold kq;rw[gP,gE];cases h:ru m y n <;> simp[h]
theorem zx9{m:List UInt8}{y n k:Nat}(h:k∈kq m y n):k<n:=by
 unfold kq at h;rw[ju] at h;exact fI.1 h.1
theorem zya{m:List UInt8}{y n k:Nat}(h:k∈kq m y n):ru m y k=Γ:=by
 unfold kq at h;exact(ju.1 h).2
def rwS(m:List UInt8)(y k:Nat):Nat:=if hwS m k/2%2=1 then 3-(y-lnS m k) else y-lnS m k
def sdS(m:List UInt8)(y k i:Nat):Nat:=td m (kW m k) (if hwS m k%2=1 then 3-i else i) (rwS m y k)
theorem zyb(m:List UInt8)(y k i:Nat):sdS m y k i<4:=xP ..
def sxS(m:List UInt8)(y k x:Nat):Nat:=if clS m k<=x/\x<clS m k+4 then sdS m y k (x-clS m k) else 0
theorem zBj(m:List UInt8)(y k x:Nat):sxS m y k x<4:=by
 unfold sxS;split
 ·exact zyb ..
 ·decide
def oh(m:List UInt8)(y:Nat)(ks:List Nat)(x:Nat):Nat :=
 match ks.find? (λk=>sxS m y k x != 0) with
 | none=>gb m (160+gd m y x)
 | some k=>if 128<=hwS m k/\gd m y x≠0 then gb m (160+gd m y x) else gb m (164+sxS m y k x)
def oB(m:List UInt8)(y:Nat)(ks:List Nat)(x:Nat):Bool:=ks.any (λk=>sxS m y k x != 0)
theorem zO(m:List UInt8)(y:Nat)(ks:List Nat)(k x:Nat):oB m y (ks++[k]) x=(oB m y ks x || sxS m y k x != 0):=by
 unfold oB;simp
theorem zqd{m:List UInt8}{y:Nat}{ks:List Nat}{x:Nat}(h:oB m y ks x=ξ):oh m y ks x=gb m (160+gd m y x):=by
 unfold oB at h;have:ks.find? (λk=>sxS m y k x != 0)=G:=by
  rw[gG];intro k a;rw[lP] at h;exact h k a
 unfold oh;rw[this]
theorem zhe{m:List UInt8}{y:Nat}{ks:List Nat}{k x:Nat}(h:oB m y ks x=Γ):oh m y (ks++[k]) x=oh m y ks x:=by
 unfold oB at h;unfold oh;rw[jR];cases b:ks.find? (λk=>sxS m y k x != 0) with
 | some a=>simp
 | none =>
  rw[gG] at b;rw[mi] at h;obtain⟨a,c,hb⟩:=h;exact absurd hb (b a c)
theorem zeG{m:List UInt8}{y:Nat}{ks:List Nat}{k x:Nat}(h:sxS m y k x=0):oh m y (ks++[k]) x=oh m y ks x:=by
 unfold oh;rw[jR];have:[k].find? (λk=>sxS m y k x != 0)=G:=by simp[h]
 rw[this];cases ks.find? (λk=>sxS m y k x != 0) <;> rfl
theorem zfz{m:List UInt8}{y:Nat}{ks:List Nat}{k x:Nat}(h:oB m y ks x=ξ)(a:sxS m y k x≠0):oh m y (ks++[k]) x=if 128<=hwS m k/\gd m y x≠0 then oh m y ks x else gb m (164+sxS m y k x):=by
 rw[zqd h];unfold oB at h;have b:ks.find? (λk=>sxS m y k x != 0)=G:=by
  rw[gG];intro k c;rw[lP] at h;exact h k c
 have h1:[k].find? (λk=>sxS m y k x != 0)=A k:=by simp[a]
 unfold oh;rw[jR,b,h1];rfl
def px(m:List UInt8)(y x:Nat):Nat:=oh m y ((kq m y 8).take 2) x
def bE(f:Nat->Nat):List π:=(cM 16).map λx=>Value.int au (f x)
theorem pw(f:Nat->Nat):(bE f).length=16:=by simp[bE]
theorem tN(f:Nat->Nat){x:Nat}(h:x<16):(bE f)[x]?=A (J au (f x)):=by
 unfold bE;rw[bn,ij h];rfl
theorem zP{f g:Nat->Nat}(h:∀ x,x<16->f x=g x):bE f=bE g:=by
 unfold bE;apply nP;intro x a;rw[h x (fI.1 a)]
theorem yt(f:Nat->Nat)(x v:Nat)(h:x<16):(bE f).set x (J au v)=bE (λi=>if i=x then v else f i):=by
 apply lQ;intro i;by_cases hi:i<16
 ·rw[tN _ hi]
  by_cases e:i=x
  ·subst e
   rw[gq (by rw[pw];exact hi)];simp
  ·rw[iW (bZ e),tN _ hi]
   simp[e]
 ·rw[ex (by simp[pw];omega),ex (by rw[pw];omega)]
def kE(f:Nat->Bool):List π:=(cM 16).map λx=>Value.bool (f x)
theorem zdI(f:Nat->Bool):(kE f).length=16:=by simp[kE]
theorem zgp(f:Nat->Bool){x:Nat}(h:x<16):(kE f)[x]?=A (ν (f x)):=by
 unfold kE;rw[bn,ij h];rfl
theorem zlL{f g:Nat->Bool}(h:∀ x,x<16->f x=g x):kE f=kE g:=by
 unfold kE;apply nP;intro x a;rw[h x (fI.1 a)]
theorem zrJ(f:Nat->Bool)(x:Nat)(v:Bool)(h:x<16):(kE f).set x (ν v)=kE (λi=>if i=x then v else f i):=by
 apply lQ;intro i;by_cases hi:i<16
 ·rw[zgp _ hi]
  by_cases e:i=x
  ·subst e
   rw[gq (by rw[zdI];exact hi)];simp
  ·rw[iW (bZ e),zgp _ hi]
   simp[e]
 ·rw[ex (by simp[zdI];omega),ex (by rw[zdI];omega)]
structure Mm (W : u) (m : List UInt8) (v : π) (g o c : Nat) : Prop where
 v:v=κ (A ⟨g,o,G⟩) 256 c
 l:m.length=256
 z:g<W.heap.size
 c:∀ i,i<256->W.cell? ⟨g,o+i,G⟩=A (J au (gb m i))
theorem Mm.of{W:u}{m:List UInt8}{v:π}(h:sliceAt W v m)(d:m.length=256):∃ g o c,Mm W m v g o c:=by
 rcases h with⟨a,b,_,h2⟩|⟨g,o,b,h1,h2,h3,h4⟩
 ·rw[h2] at d;simp at d
 ·refine⟨g,o,b,by rw[h1,d],d,h3,λi hi=>?_⟩
  have:=h4 i (m.getD i 0) (by rw[aq (by omega)];simp[List.getD,aq (show i<m.length by omega)]);rw[this];rfl
theorem Mm.kept{W w1:u}{m:List UInt8}{v:π}{g o c:Nat}(h:Mm W m v g o c)(hb:Below W.heap.size W w1):Mm w1 m v g o c :=
 ⟨h.v,h.l,Θ h.z hb.size,λi hi=>(hb.cell (p:=⟨g,o+i,G⟩) h.z).trans (h.c i hi)⟩
theorem zt3(a:Int)(w:u)(c:0<=a)(b:a<=65535):Δ ω 264 #[J Y a] w λe w'=>e=μ (J Q (M.sg a))/\w'=w:=by
 by_cases h:32768<=a
 all_goals
  go_enter func264,ntmps264;go_wp2;go_ret;exact⟨vu (by unfold M.sg;first|rw[am h]|rw[ae (by omega)]),D⟩
theorem zzg(a b:Int)(w:u)(f:0<=a)(c:a<=65535)(hb:0<=b)(d:b<=65535):Δ ω 219 #[J Y a,J Y b] w λe w'=>e=μ (Ψ #[J Y (M.addN a b),ν (M.addC a b),ν (M.addV a b)])/\w'=w:=by
 obtain⟨s1,g⟩:=M.sg_bd a f c;obtain⟨s2,h⟩:=M.sg_bd b hb d;by_cases i:32767<M.sg a+M.sg b
 all_goals
  go_enter func219,ntmps219;go_wp2_with (go_at_call 264;refine(zt3 _ _ (by omega) (by omega)).mono ?_;rintro e w' ⟨rfl,rfl⟩)
  go_ret3
  exact⟨zjw D D (by simp[M.addV];try omega),D⟩
theorem zwJ(a b:Int)(w:u)(f:0<=a)(c:a<=65535)(hb:0<=b)(d:b<=65535):Δ ω 220 #[J Y a,J Y b] w λe w'=>e=μ (Ψ #[J Y (M.subN a b),ν (M.subC a b),ν (M.subV a b)])/\w'=w:=by
 obtain⟨s1,g⟩:=M.sg_bd a f c;obtain⟨s2,h⟩:=M.sg_bd b hb d;by_cases i:32767<M.sg a-M.sg b
 all_goals
  go_enter func220,ntmps220;go_wp2_with (go_at_call 264;refine(zt3 _ _ (by omega) (by omega)).mono ?_;rintro e w' ⟨rfl,rfl⟩)
  go_ret3
  exact⟨zjw (by unfold M.subN;omega) (by unfold M.subC;simp;try omega) (by simp[M.subV];try omega),D⟩
theorem zx8(a n:Int)(w:u)(d:0<=a)(b:a<=65535)(f:0<=n)(c:n<=15):Δ ω 147 #[J Y a,J Q n] w λe w'=>e=μ (Ψ #[J Y (M.shlN a n),ν (M.shlC a n)])/\w'=w:=by
 obtain⟨N,rfl⟩:=aA f;obtain⟨g,h⟩:=M.up_shl a N d b f c;rw[<- g,<- h,bR];clear g h;go_enter func147,ntmps147;go_wp2
 go_loop [0,6,8] (λx o i=>∃ k:Nat,k<=N/\i=J Q k/\x=J Y (M.upTo a k)/\o=ν (M.upOut a k)) (λ_ _ i=>N-(aU i).toNat)
 case atStart=>exact⟨0,bh _,D,D,D⟩
 case round =>
  obtain⟨k,l,rfl,rfl,rfl⟩:=hrel;obtain⟨h1,h2⟩:=M.upTo_bd a d b k;by_cases j:k<N
  ·go_wp2
   go_round
   case rel=>exact⟨k+1,by omega,by go_num,D,D⟩
   case measure=>simp[aU];omega
  ·go_wp2
   go_ret2
   have:k=N:=by omega
   subst this;exact⟨D,D⟩
theorem zqb(a n:Int)(w:u)(h:0<=a)(b:a<=65535)(d:0<=n)(c:n<=15):Δ ω 146 #[J Y a,J Q n] w λe w'=>e=μ (Ψ #[J Y (M.shrN a n),ν (M.shrC a n)])/\w'=w:=by
 obtain⟨N,rfl⟩:=aA d;obtain⟨f,g⟩:=M.down_shr a N d c;rw[<- f,<- g,bR];clear f g;go_enter func146,ntmps146;go_wp2
 go_loop [0,6,8] (λx o i=>∃ k:Nat,k<=N/\i=J Q k/\x=J Y (M.downTo a k)/\o=ν (M.downOut a k)) (λ_ _ i=>N-(aU i).toNat)
 case atStart=>exact⟨0,bh _,D,D,D⟩
 case round =>
  obtain⟨k,l,rfl,rfl,rfl⟩:=hrel;obtain⟨h1,h2⟩:=M.downTo_bd a h b k;by_cases j:k<N
  ·go_wp2
   go_round
   case rel=>exact⟨k+1,by omega,by go_num,congrArg _ (by rw[bj,aF h1];simp only[M.downTo];omega),D⟩
   case measure=>simp[aU];omega
  ·go_wp2
   go_ret2
   have:k=N:=by omega
   subst this;exact⟨D,D⟩
theorem xN(x y:Int)(w:u):Δ ω 221 #[J Y x,J Y y] w λe w'=>e=μ (ν (M.fAnd x y))/\w'=w:=by
 go_enter func221,ntmps221;go_wp2;go_ret;exact⟨D,D⟩
theorem Br(x y:Int)(w:u):Δ ω 222 #[J Y x,J Y y] w λe w'=>e=μ (ν (M.fOr x y))/\w'=w:=by
 go_enter func222,ntmps222;go_wp2;go_ret;exact⟨D,D⟩
theorem xO(x y:Int)(w:u):Δ ω 223 #[J Y x,J Y y] w λe w'=>e=μ (ν (M.fXor x y))/\w'=w:=by
 go_enter func223,ntmps223;go_wp2;go_ret;exact⟨D,D⟩
theorem qG{P:Program}{f:FuncId}{args:Array π}{w:u}{q n:Nat}{v:π}
 (h:Δ P f args (w.drewN (q+n)) λe w'=>e=μ v/\w'=w.drewN (q+n)):Δ P f args (w.drewN (q+n)) λe a=>e=μ v /\ ∃ m,a=w.drewN (q+m) :=
 h.mono λ_ _ ⟨b,c⟩=>⟨b,n,c⟩
theorem gather_and(a b:Int)(w:u)(x y:Nat)(j:0<=a)(d:a<=65535)(hb:0<=b)(f:b<=65535)
 (p:w.cell? ⟨x,0,G⟩=A (J Y a)) (r:w.cell? ⟨y,0,G⟩=A (J Y b)) :
 Δ ω 218 #[.func (.func 221) #[] #[],aB (A ⟨x,0,G⟩),aB (A ⟨y,0,G⟩)] w
  λe w'=>e=μ (J Y (bW .and Y a b)) /\ ∃ k,w'=w.drewN k:=by
 rw[<- M.gather_and a b j d hb f];go_enter func218,ntmps218;go_wp2;go_loopw [5,7] (λn i wr=>∃ k q:Nat,k<=16/\i=J Q k/\n=J Y (M.gather M.fAnd a b k)/\wr=w.drewN q) (λ_ i _=>16-(aU i).toNat)
 case atStart=>exact⟨0,0,bh _,D,D,D⟩
 case round =>
  obtain⟨k,q,s,rfl,rfl,rfl⟩:=hrel;obtain⟨g1,t⟩:=M.gather_bd M.fAnd a b k;by_cases l:k<16
  ·have hp:=M.pow_le (k+1) (by omega)
   have m:(2:Int) ^ (k+1)=2 ^ k*2:=iY _ _;have o:(2:Int) ^ k<=32768:=by omega
   clear hp m;have c:M.gather M.fAnd a b (k+1)=if M.fAnd (bW .and Y (a/2 ^ k) 1) (bW .and Y (b/2 ^ k) 1) then M.gather M.fAnd a b k+2 ^ k else M.gather M.fAnd a b k:=D
   have h:=hid c;clear c;by_cases hc:M.fAnd (bW .and Y (a/2 ^ k) 1) (bW .and Y (b/2 ^ k) 1)=Γ
   ·go_wp2
    go_quiet ((go_at_call 221;exact qG (xN _ _ _)))
    go_wp2;all_goals first|(exact ip (hc.symm.trans (by assumption):Γ=ξ))|skip
    go_roundw
    case rel=>exact⟨k+1,_,by omega,by go_num,by rw[h.out,am hc],D⟩
    case measure=>simp[aU];omega
   ·have g:M.fAnd (bW .and Y (a/2 ^ k) 1) (bW .and Y (b/2 ^ k) 1)=ξ:=by simpa using hc
    go_wp2;go_quiet ((go_at_call 221;exact qG (xN _ _ _)))
    go_wp2;all_goals first|(exact ip (g.symm.trans (by assumption):ξ=Γ))|skip
    go_roundw
    case rel=>exact⟨k+1,_,by omega,by go_num,by rw[h.out,ae hc],D⟩
    case measure=>simp[aU];omega
  ·go_wp2
   go_ret;have:k=16:=by omega
   subst this;exact⟨D,_,D⟩
theorem gather_or(a b:Int)(w:u)(x y:Nat)(j:0<=a)(d:a<=65535)(hb:0<=b)(f:b<=65535)
 (p:w.cell? ⟨x,0,G⟩=A (J Y a)) (r:w.cell? ⟨y,0,G⟩=A (J Y b)) :
 Δ ω 218 #[.func (.func 222) #[] #[],aB (A ⟨x,0,G⟩),aB (A ⟨y,0,G⟩)] w
  λe w'=>e=μ (J Y (bW .or Y a b)) /\ ∃ k,w'=w.drewN k:=by
 rw[<- M.gather_or a b j d hb f];go_enter func218,ntmps218;go_wp2;go_loopw [5,7] (λn i wr=>∃ k q:Nat,k<=16/\i=J Q k/\n=J Y (M.gather M.fOr a b k)/\wr=w.drewN q) (λ_ i _=>16-(aU i).toNat)
 case atStart=>exact⟨0,0,bh _,D,D,D⟩
 case round =>
  obtain⟨k,q,s,rfl,rfl,rfl⟩:=hrel;obtain⟨g1,t⟩:=M.gather_bd M.fOr a b k;by_cases l:k<16
  ·have hp:=M.pow_le (k+1) (by omega)
   have m:(2:Int) ^ (k+1)=2 ^ k*2:=iY _ _;have o:(2:Int) ^ k<=32768:=by omega
   clear hp m;have c:M.gather M.fOr a b (k+1)=if M.fOr (bW .and Y (a/2 ^ k) 1) (bW .and Y (b/2 ^ k) 1) then M.gather M.fOr a b k+2 ^ k else M.gather M.fOr a b k:=D
   have h:=hid c;clear c;by_cases hc:M.fOr (bW .and Y (a/2 ^ k) 1) (bW .and Y (b/2 ^ k) 1)=Γ
   ·go_wp2
    go_quiet ((go_at_call 222;exact qG (Br _ _ _)))
    go_wp2;all_goals first|(exact ip (hc.symm.trans (by assumption):Γ=ξ))|skip
    go_roundw
    case rel=>exact⟨k+1,_,by omega,by go_num,by rw[h.out,am hc],D⟩
    case measure=>simp[aU];omega
   ·have g:M.fOr (bW .and Y (a/2 ^ k) 1) (bW .and Y (b/2 ^ k) 1)=ξ:=by simpa using hc
    go_wp2;go_quiet ((go_at_call 222;exact qG (Br _ _ _)))
    go_wp2;all_goals first|(exact ip (g.symm.trans (by assumption):ξ=Γ))|skip
    go_roundw
    case rel=>exact⟨k+1,_,by omega,by go_num,by rw[h.out,ae hc],D⟩
    case measure=>simp[aU];omega
  ·go_wp2
   go_ret;have:k=16:=by omega
   subst this;exact⟨D,_,D⟩
theorem gather_xor(a b:Int)(w:u)(x y:Nat)(j:0<=a)(d:a<=65535)(hb:0<=b)(f:b<=65535)
 (p:w.cell? ⟨x,0,G⟩=A (J Y a)) (r:w.cell? ⟨y,0,G⟩=A (J Y b)) :
 Δ ω 218 #[.func (.func 223) #[] #[],aB (A ⟨x,0,G⟩),aB (A ⟨y,0,G⟩)] w
  λe w'=>e=μ (J Y (bW .xor Y a b)) /\ ∃ k,w'=w.drewN k:=by
 rw[<- M.gather_xor a b j d hb f];go_enter func218,ntmps218;go_wp2;go_loopw [5,7] (λn i wr=>∃ k q:Nat,k<=16/\i=J Q k/\n=J Y (M.gather M.fXor a b k)/\wr=w.drewN q) (λ_ i _=>16-(aU i).toNat)
 case atStart=>exact⟨0,0,bh _,D,D,D⟩
 case round =>
  obtain⟨k,q,s,rfl,rfl,rfl⟩:=hrel;obtain⟨g1,t⟩:=M.gather_bd M.fXor a b k;by_cases l:k<16
  ·have hp:=M.pow_le (k+1) (by omega)
   have m:(2:Int) ^ (k+1)=2 ^ k*2:=iY _ _;have o:(2:Int) ^ k<=32768:=by omega
   clear hp m;have c:M.gather M.fXor a b (k+1)=if M.fXor (bW .and Y (a/2 ^ k) 1) (bW .and Y (b/2 ^ k) 1) then M.gather M.fXor a b k+2 ^ k else M.gather M.fXor a b k:=D
   have h:=hid c;clear c;by_cases hc:M.fXor (bW .and Y (a/2 ^ k) 1) (bW .and Y (b/2 ^ k) 1)=Γ
   ·go_wp2
    go_quiet ((go_at_call 223;exact qG (xO _ _ _)))
    go_wp2;all_goals first|(exact ip (hc.symm.trans (by assumption):Γ=ξ))|skip
    go_roundw
    case rel=>exact⟨k+1,_,by omega,by go_num,by rw[h.out,am hc],D⟩
    case measure=>simp[aU];omega
   ·have g:M.fXor (bW .and Y (a/2 ^ k) 1) (bW .and Y (b/2 ^ k) 1)=ξ:=by simpa using hc
    go_wp2;go_quiet ((go_at_call 223;exact qG (xO _ _ _)))
    go_wp2;all_goals first|(exact ip (g.symm.trans (by assumption):ξ=Γ))|skip
    go_roundw
    case rel=>exact⟨k+1,_,by omega,by go_num,by rw[h.out,ae hc],D⟩
    case measure=>simp[aU];omega
  ·go_wp2
   go_ret;have:k=16:=by omega
   subst this;exact⟨D,_,D⟩
end Go.Proofs.YthghjlinhokimaaGreatDoor
