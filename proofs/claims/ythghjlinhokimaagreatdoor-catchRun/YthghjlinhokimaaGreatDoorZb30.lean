/-
  Parts of a proof, joined.
-/
import Derived.Test.YthghjlinhokimaaGreatDoorZbA
import Derived.Test.YthghjlinhokimaaGreatDoorZb25
import Derived.Test.YthghjlinhokimaaGreatDoorZb27
set_option linter.all false
set_option maxRecDepth 100000
set_option maxHeartbeats 6400000
open Option renaming none->G,some->A
open Go renaming World->u,Value->π,Calls->Δ,TypeId->aJ,Oper->cG
open Bool renaming false->ξ,true->Γ
open Go.Proofs.Tryz renaming prog->ω
open Go.Act renaming put->ag
open Or renaming inl->aj,inr->ao
open Go.Result renaming andThen->aE
open Go.Region renaming wanted->b9
open Go.Instr renaming buildSlice->gx
open Go.Value renaming int->J,slice->κ,bool->ν,tuple->Ψ,agg->ac
open Go.IntKind renaming i64->Q
open Go.Ending renaming returned->μ
open Go.Obj renaming cells->χ
namespace Go.Proofs.YthghjlinhokimaaGreatDoor
open Go.ChangeShapes Go.WideShapes Go.ChangeAt Go.RowKit Go.Proofs.Tryz
def nj:List Lin->List π
 | []=>[]
 | x::l=>J Q x.f :: J Q x.l::(bE x.px++nj l)
theorem zod:∀(l k:List Lin),nj (l++k)=nj l++nj k
 | [],k=>rfl
 | x::l,k=>by simp only[nj,cV,zod l k,bK]
structure CI (F : Fx) (N c : Nat) (vco vln vsm : π) (w : u) (k : Cs) : Prop where
 i:BI F N w k.s
 cb:CB F N c vco vln vsm w
 co:bP F.B w vco k.co
 ok:∀ x∈k.co,x.ok
 ln:w.ownsRow N 68 18 vln k.ln.length (nj k.ln)
 sm:w.ownsRow N 5 1 vsm k.sm.length (gJ k.sm)
section
variable {F : Fx} {N c : Nat} {vco vln vsm v' : π} {w w1 : u} {k : Cs} {s' : Bst}
theorem jE{t:aJ}{z:Nat}{v:π}{n:Nat}{xs:List π}(h:w.ownsRow N t z v n xs):∀ j,v.ownBlock=A j->N<=j/\j<w.heap.size /\ ∃ cs,w.heap[j]?=A (χ cs t (0,0)):=λj e=>by
 rcases h.2 with⟨a,_⟩|⟨g,c,d,a,hb,b,_⟩
 ·rw[a] at e;cases e
 ·rw[a] at e;cases e
  exact⟨hb,(aa.1 b).1,_,b⟩
theorem AS{t:aJ}{z:Nat}{v:π}{n:Nat}{xs:List π}{s:Bst}(h:w.ownsRow N t z v n xs)(a:t≠104):∀ j,v.ownBlock=A j->¬ Tw (BT N) w s j:=λj e=>by
 obtain⟨h1,h2,cs,h3⟩:=jE h j e;exact Tw.of (λx=>ot.2 h1 x) h3 a
theorem mL{t t':aJ}{z:Nat}{v:π}{n:Nat}{xs:List π}(h:w.ownsRow N t z v n xs){b:Nat}{a:Array π}{fr:Nat × Nat}(hb:w.heap[b]?=A (χ a t' fr))(c:t≠t'):v.ownBlock≠A b:=λe=>by
 obtain⟨h1,h2,cs,h3⟩:=jE h b e;rw[hb] at h3;simp only[aZ,eJ] at h3;exact c h3.2.1.symm
theorem CI.keep(a:Fb F N)(h:CI F N c vco vln vsm w k)(hb:Below w.heap.size w w1):CI F N c vco vln vsm w1 k :=
 ⟨h.i.kept a hb,h.cb.kept hb,h.co.kept (hb.mono h.i.big),h.ok,jr h.ln (λj e=>hb.block j (jE h.ln j e).2.1),jr h.sm (λj e=>hb.block j (jE h.sm j e).2.1)⟩
theorem CI.step(h:CI F N c vco vln vsm w k)(a:NM F N w k.s s' w1):CI F N c vco vln vsm w1 { k with s:=s' } :=
 ⟨a.i,a.cb h.cb,h.co.kept a.m.below,h.ok,jr h.ln (λj e=>a.m.block j (jE h.ln j e).2.1 (AS h.ln (by decide) j e)),jr h.sm (λj e=>a.m.block j (jE h.sm j e).2.1 (AS h.sm (by decide) j e))⟩
theorem CI.pressed{l:List Inp}(h:CI F N c vco vln vsm w k)(a:XP F N c vln vsm w k.s s' v' l w1)(f:∀ x∈l,x.ok):CI F N c v' vln vsm w1 { k with s:=s',co:=l } :=
 have d:∀ {t:aJ} {z:Nat} {v:π} {n:Nat} {xs:List π},w.ownsRow N t z v n xs->t≠104->t≠91->∀ j,v.ownBlock=A j->w1.heap[j]?=w.heap[j]?:=λb h1 h2 j e =>
  a.km.m.block j (jE b j e).2.1 (λy=>y.elim (λg=>mL b h.cb.blk h2 (by rw[e,g])) (AS b h1 j e))
 ⟨a.km.i,a.cb,a.co,f,jr h.ln (d h.ln (by decide) (by decide)),jr h.sm (d h.sm (by decide) (by decide))⟩
def Kp(N c:Nat)(w w1:u):Prop:=∀(j:Nat) (cs:Array π) (t:aJ) (fr:Nat × Nat),N<=j->j≠c->t≠104->t≠68->t≠5->w.heap[j]?=A (χ cs t fr)->w1.heap[j]?=A (χ cs t fr)
theorem Kp.trans{w2:u}(h:Kp N c w w1)(k:Kp N c w1 w2):Kp N c w w2:=λj cs t fr h1 h2 h3 h4 a b=>k j cs t fr h1 h2 h3 h4 a (h j cs t fr h1 h2 h3 h4 a b)
theorem Kp.of(h:Below w.heap.size w w1):Kp N c w w1:=λj cs t fr _ _ _ _ _ a=>(h.block j (aa.1 a).1).trans a
theorem Kp.set(i:Nat)(v:π):Kp N c w (w.setCell ⟨c,i,G⟩ v):=λj cs t fr _ h2 _ _ _ a=>(f8 h2 (v:=v)).trans a
theorem Kp.grown{t':aJ}{z n:Nat}{v:π}{xs:List π}(b:t'=68 \/ t'=5)(d:w.ownsRow N t' z v n xs)(f:w.grownBy w1 v.ownBlock):Kp N c w w1:=λj cs t fr _ _ _ h4 g a =>
 (f.block j (aa.1 a).1 (λe=>mL d a (by rcases b with rfl|rfl;exact λe=>h4 e.symm;exact λe=>g e.symm) e.symm)).trans a
theorem NM.kp{s:Bst}(h:NM F N w s s' w1):Kp N c w w1:=λj cs t fr h1 _ h3 _ _ a=>(h.m.block j (aa.1 a).1 (Tw.of (λx=>ot.2 h1 x) a h3)).trans a
theorem KM.kp{s:Bst}(h:KM F N c w s s' w1):Kp N c w w1:=λj cs t fr h1 h2 h3 _ _ a=>(h.m.block j (aa.1 a).1 (λy=>y.elim h2 (Tw.of (λx=>ot.2 h1 x) a h3))).trans a
theorem CI.big(a:Fb F N)(h:CI F N c vco vln vsm w k):F.B<=c:=h.cb.big h.i a
theorem CI.bigN(a:Fb F N)(h:CI F N c vco vln vsm w k):F.B<=N:=by
 obtain⟨v,hB⟩:=h.i.bd;have:=hB.nd.lo.1;have:=a.into.g;omega
theorem CI.grow3{v':π}{xs:List UInt8}(b:Fb F N)(h:CI F N c vco vln vsm w k)(n:w1.ownsRow N 5 1 v' xs.length (gJ xs))(d:w.grownBy w1 vsm.ownBlock):CI F N c vco vln v' (w1.setCell ⟨c,3,G⟩ v') { k with sm:=xs }/\Below F.B w (w1.setCell ⟨c,3,G⟩ v'):=by
 have o:=d.size;have m:A c≠vsm.ownBlock:=λe=>mL h.sm h.cb.blk (by decide) e.symm
 have a:CB F N c vco vln vsm w1:=h.cb.same (d.block c h.cb.z m);have hb:Below F.B w w1:=(bq F.B w).grown d h.i.big (λj e=>ax (h.bigN b) (jE h.sm j e).1);have hi:BI F N w1 k.s:=h.i.keep b o (λj l=>d.block j (l.lt (λi hi=>Θ hi h.i.N)) (λe=>AS h.sm (by decide) j e.symm l));have f:w1.ownsRow N 68 18 vln k.ln.length (nj k.ln):=jr h.ln (λj e=>by
  obtain⟨_,h2,cs,h3⟩:=jE h.ln j e;exact d.block j h2 (λg=>mL h.sm h3 (by decide) g.symm))
 exact⟨⟨hi.keep b (by rw[lA];exact ψ _) (λj l=>f8 (λe=>a.out (by rw[<- e];exact l))),a.put3 _,(h.co.kept hb).kept (iK (bq _ _) (h.big b) _),h.ok,jr f (λj e=>f8 (λg=>mL f a.blk (by decide) (by rw[e,g]))),jr n (λj e=>f8 (λg=>mL n a.blk (by decide) (by rw[e,g])))⟩,hb.setCell (h.big b) _⟩
theorem CI.grow2{g a:Nat}{xs:List Lin}(d:Fb F N)(h:CI F N c vco vln vsm w k)(p:w1.ownsRow N 68 18 (κ (A ⟨g,0,G⟩) xs.length a) xs.length (nj xs))(f:w.grownBy w1 vln.ownBlock):CI F N c vco (κ (A ⟨g,0,G⟩) xs.length a) vsm (w1.setCell ⟨c,2,G⟩ (κ (A ⟨g,0,G⟩) xs.length a)) { k with ln:=xs }/\Below F.B w (w1.setCell ⟨c,2,G⟩ (κ (A ⟨g,0,G⟩) xs.length a)):=by
 have q:=f.size;have o:A c≠vln.ownBlock:=λe=>mL h.ln h.cb.blk (by decide) e.symm
 have b:CB F N c vco vln vsm w1:=h.cb.same (f.block c h.cb.z o);have hb:Below F.B w w1:=(bq F.B w).grown f h.i.big (λj e=>ax (h.bigN d) (jE h.ln j e).1);have hi:BI F N w1 k.s:=h.i.keep d q (λj n=>f.block j (n.lt (λi hi=>Θ hi h.i.N)) (λe=>AS h.ln (by decide) j e.symm n));have l:w1.ownsRow N 5 1 vsm k.sm.length (gJ k.sm):=jr h.sm (λj e=>by
  obtain⟨_,h2,cs,h3⟩:=jE h.sm j e;exact f.block j h2 (λm=>mL h.ln h3 (by decide) m.symm))
 exact⟨⟨hi.keep d (by rw[lA];exact ψ _) (λj n=>f8 (λe=>b.out (by rw[<- e];exact n))),b.put2 _,(h.co.kept hb).kept (iK (bq _ _) (h.big d) _),h.ok,jr p (λj e=>f8 (λm=>mL p b.blk (by decide) (by rw[e,m]))),jr l (λj e=>f8 (λm=>mL l b.blk (by decide) (by rw[e,m])))⟩,hb.setCell (h.big d) _⟩
end
section
variable {F : Fx} {N c : Nat} {vco vln vsm v' : π} {w w1 : u} {k : Cs} {s' : Bst}
theorem zum{W:u}{v:π}{y:UInt8}(h:sliceAt W v [y]):∃ g o a,v=κ (A ⟨g,o,G⟩) 1 a/\W.cell? ⟨g,o,G⟩=A (J .u8 y.toNat)/\g<W.heap.size:=by
 rcases h with⟨_,_,_,e⟩|⟨g,o,a,h1,h2,h3,h4⟩
 ·cases e
 ·exact⟨g,o,a,h1,h4 0 y D,h3⟩
theorem CE{ops:Array cG}{rest:List cG}{o:cG}{a:Act}{w:u}{η:Exit->Act->u->Prop}(f:o.guard=G)(s x:Operand)(p:o.op=.call { callee:=.builtin .append,args:=#[s,x],argTypes:=#[26,26] })
 (B:Nat) (v:π) (xs:List UInt8) (q:a.eval s=v) (e:w.ownsRow B 5 1 v xs.length (gJ xs)) (g o' c:Nat) (y:UInt8) (r:a.eval x=κ (A ⟨g,o',G⟩) 1 c) (hc:w.cell? ⟨g,o',G⟩=A (J .u8 y.toNat)) (t:xs.length<=100000) (hB:B<=w.heap.size)
 (h:∀ g1 b w',w'.ownsRow B 5 1 (κ (A ⟨g1,0,G⟩) (xs++[y]).length b) (xs++[y]).length (gJ (xs++[y]))->w.grownBy w' v.ownBlock->g1<w'.heap.size->wpList ω ops η rest (a.put o.dst (κ (A ⟨g1,0,G⟩) (xs++[y]).length b)) w'):wpList ω ops η (o::rest) a w:=by
 obtain⟨i0,i,k,l,m⟩:=info_parts Aq;have e1:(xs++[y]).length=xs.length+1:=by simp
 have e2:gJ (xs++[y])=gJ xs++[J .u8 y.toNat]:=by simp[gJ]
 rw[e1,e2] at h;refine wpList_append_lies w f s x _ p B 5 i0 _ 1 1 underlying26 i k l m D (by omega) v xs.length (gJ xs) q e ⟨g,o',G⟩ 1 c [J .u8 y.toNat] r D (λj θ d=>?_) (λθ n=>?_) (by omega) (by unfold maxLen;omega) (by omega) hB _ D (λg1 b w' h1 h2 _ h3=>h g1 b w' h1 h2 h3)
 ·match j,d with
  | 0,d =>
   simp only[bv,aZ] at d;rw[<- d];exact hc
  | j+1,d=>simp at d
 ·simp only[dD] at n
  rw[n];rfl
theorem Lk.showSample(R:Fb F N)(h:CI F N c vco vln vsm w k)(T:k.sm.length<=100000):Δ ω 60 #[pt c 0] w λe w'=>e=μ (Ψ #[])/\(∃ q,CI F N c vco vln q w' { k with sm:=k.sm++k.s.M.sample }/\Below F.B w w')/\Kp N c w w':=by
 obtain⟨v,hB⟩:=h.i.bd;obtain⟨M,U⟩:∃ M,M=k.s.M:=⟨_,D⟩
 rw[<- U] at hB ⊢;have k0:=h.cb.bx.at 0 _ D;have kz:=h.cb.z;have mz:=hB.bx.z;have HF:=hid R;have H:=hid h;have HB:=hid hB;have HL:=hid T;have V:Hid M.s.fit:={ hB.fit.s with w:=hB.fit.w }
 by_cases m:M.s.w=0
 ·have r:w.cell? ⟨F.g,60,G⟩=A (J Q 0):=by rw[<- m];exact hB.at 60 (J Q M.s.w) D
  have t:M.sample=[sm M.s]:=by
   unfold Mach.sample;rw[am m];show []++one M.s=_;unfold one;rw[am m];rfl
  have e1:lB M.s 1=[sm M.s]:=by
   show []++one M.s=_;unfold one;rw[am m];rfl
  rw[t];have W:=hid e1;clear R h hB T U m t e1;go_enter func60,ntmps60;go_upto_region 2 with(first
   | (refine wpList_load_mid D 36 _ D F.g 45 D (dq M.s) _ HB.out.sndR underlying36 D nh ?_)
   | (go_at_call 64;refine(zcZ M.s 1 _ V.out (by decide)).mono ?_;rintro e w2 ⟨v2,rfl,x,_,y⟩;have X:=hid y;have HS2:=hid x;clear x y)
   | (refine wpList_store_mid D 36 _ _ D w2.heap.size 0 (dq (M.s.ticks 1)).toArray D D ((Bx.new w2 zs 36 (b:=w2.heap.size) D).there 0 16 (by simp[zs])) nh (kH (M.s.ticks 1)) ?_
      refine Pl.cutL (λZ=>Below w.heap.size w Z/\sliceAt Z v2 (lB M.s 1)) ⟨bw X.out (Bl.puts (stA (aR w2) _) (ψ _) _),HS2.out.kept (Bl.puts (stA (aR w2) _) (ψ _) _)⟩ ?_;rintro Z ⟨E,I⟩;have n:=hid E;have HZ2:=hid I;clear E I))
  have l:=hid (H.out.keep HF.out n.out);have o:=HZ2.out;rw[W.out] at o;obtain⟨g0,o0,L,rfl,d,hgz⟩:=zum o;have HCE:=hid d;have k3:=l.out.cb.bx.at 3 vsm D;have kz2:=l.out.cb.z;clear o d k0 kz mz r;go_wp2_with (at_builtin;refine CE (by rfl) _ _ (by rfl) N _ k.sm (by rfl) l.out.sm g0 o0 L (sm M.s) (by rfl) HCE.out HL.out (ax l.out.i.N (ψ _)) ?_;intro g1 cap1 W1 j p hz1;have HO1:=hid j;have P:=hid p;have a:=l.out.cb.same (p.block c l.out.cb.z (λe=>mL l.out.sm l.out.cb.blk (by decide) e.symm));have q3:=a.bx.at 3 vsm D;have qz:=a.z;have qf:=a.bx.f 3;clear a j p)
  go_end0;obtain⟨r1,r2⟩:=l.out.grow3 HF.out HO1.out P.out;rw[show (k.sm++[sm M.s]).length=k.sm.length+1 by simp] at r1 r2;exact⟨D,⟨_,r1,(n.out.mono H.out.i.big).trans r2⟩,(Kp.of n.out).trans ((Kp.grown (ao D) l.out.sm P.out).trans (Kp.set 3 _))⟩
 ·have hw':(M.s.w == 0)=ξ:=by simpa using m
  have r:=hB.at 60 (J Q M.s.w) D;have t:M.sample=[]:=ae m;rw[t,cH];clear R h hB T t U;go_enter func60,ntmps60;go_wp2;exact Ξ (v:=Ψ #[]) (by simp[results,results60,go_sem]) D ⟨D,⟨vsm,H.out,bq _ _⟩,Kp.of (bq _ _)⟩
end
abbrev iO(f:Int)(y:Nat)(r:Nat->Nat):List π:=[Value.int Q f,Value.int Q y]++bE r
theorem zfU:(Tryz.prog.info? 66).map (·.size)=A 16:=by kernel_rfl
theorem row_one(f:Nat->Nat):(bE f).toArray.all (·.oneCell')=Γ:=all_oneCell_toArray (λv a=>by
 unfold bE at a;obtain⟨x,_,rfl⟩:=gc.1 a;rfl)
theorem zj5(f:Int)(y:Nat)(r:Nat->Nat)(w:u):(Instr.build 68 #[(0,J Q f),(1,J Q y),(2,ac (bE r).toArray)]).run ω w=.ok (ac (iO f y r).toArray) w:=by kernel_rfl
theorem zgs(f:Int)(y:Nat)(r:Nat->Nat)(w:u):(gx 44 1 #[(0,ac (iO f y r).toArray)]).run ω w=.ok (κ (A ⟨w.heap.size,0,G⟩) 1 1) (w.alloc (χ (iO f y r).toArray 68)):=by kernel_rfl
theorem zgt:(Tryz.prog.info? 68).map (λi=>(i.zero,i.size,i.bytes))=A (A (ac (iO 0 0 λ_=>0).toArray),18,32):=by kernel_rfl
theorem xu{P:Program}{ops:Array cG}{op:cG}{a:Act}{w w1:u}{K:Act->u->Prop}{η:Exit->Act->u->Prop}{E:Prop}{v:π}(b:op.guard=G)(ty:aJ)(n i:Nat)(x:Operand)(d:op.op=.buildSlice ty n #[(i,x)])(c:π)(e:a.eval x=c)
 (f:(gx ty n #[(i,c)]).run P w=.ok v w1) (h:K (a.put op.dst v) w1):if b9 op (yielded ops a.tmps)=Γ then Oper.wp P op a w K η else E:=by
 rw[am (by simp[b9,b])];unfold Oper.wp;have:(execOp a.eval op).run P w=.ok (.value v) w1:=by
  unfold execOp;simp only[d,fy,cI,dQ,e,iB,f,fQ,i7]
 rw[this];exact h
theorem zj6(f:Int)(y:Nat)(r:Nat->Nat):(iO f y r).length=1*18:=by simp[pw]
theorem xw(L:List π)(w:u){t:aJ}:∀ j θ,L[j]?=A θ->(w.alloc (χ L.toArray t)).cell? ((⟨w.heap.size,0,G⟩:Addr).add j)=A θ:=λj θ a=>by
 rw[addr_add,aX];exact(Bx.new w L t (b:=w.heap.size) D).at j θ a
theorem zj7(f:Int)(y:Nat)(r:Nat->Nat):∀ θ∈(iO f y r),θ.oneCell'=Γ:=λθ a=>by
 rcases cO.1 a with h|h
 ·simp only[bp,cz,gC] at h
  rcases h with rfl|rfl <;> rfl
 ·unfold bE at h
  obtain⟨x,_,rfl⟩:=gc.1 h;rfl
section
variable {F : Fx} {N c : Nat} {vco vln vsm v' : π} {w w1 : u} {k : Cs} {s' : Bst} {M : Mach} {y b pb : Nat} {ι Y' : u}
theorem zun{g a:Nat}(h:w1.ownsRow N 68 18 (κ (A ⟨g,0,G⟩) (k.ln.length+1) a) (k.ln.length+1) (nj k.ln++iO M.b.f y (px M.video y))):w1.ownsRow N 68 18 (κ (A ⟨g,0,G⟩) (k.ln++[(⟨M.b.f,y,px M.video y⟩:Lin)]).length a) (k.ln++[(⟨M.b.f,y,px M.video y⟩:Lin)]).length (nj (k.ln++[(⟨M.b.f,y,px M.video y⟩:Lin)])):=by
 have e1:(k.ln++[(⟨M.b.f,y,px M.video y⟩:Lin)]).length=k.ln.length+1:=by simp
 have e2:nj (k.ln++[(⟨M.b.f,y,px M.video y⟩:Lin)])=nj k.ln++iO M.b.f y (px M.video y):=by rw[zod];simp[nj]
 rw[e1,e2];exact h
structure LB (F : Fx) (N c : Nat) (vco vln vsm : π) (k : Cs) (w : u) (M : Mach) (y : Nat) (ι : u) : Prop where
 ci:CI F N c vco vln vsm ι k
 low:Below w.heap.size w ι
 bx:Bx ι w.heap.size [J Q y,J Q M.b.a,ν M.b.g,J Q M.b.f]
 m:k.s.M=M
 lo:∀ j,vln.ownBlock=A j->j<w.heap.size
structure LC (F : Fx) (N c : Nat) (vco vln vsm : π) (k : Cs) (w : u) (M : Mach) (y pb : Nat) (ι : u) : Prop extends LB F N c vco vln vsm k w M y ι where
 pix:Bx ι pb (bE (px M.video y))
 pz:w.heap.size<=pb
theorem LB.kept'(a:Fb F N)(h:LB F N c vco vln vsm k w M y ι)(hb:Below ι.heap.size ι Y'):LB F N c vco vln vsm k w M y Y':=⟨h.ci.keep a hb,bw h.low hb,h.bx.kept hb,h.m,h.lo⟩
theorem LC.kept'(a:Fb F N)(h:LC F N c vco vln vsm k w M y pb ι)(hb:Below ι.heap.size ι Y'):LC F N c vco vln vsm k w M y pb Y':=⟨h.toLB.kept' a hb,h.pix.kept hb,h.pz⟩
theorem LB.mm(h:LB F N c vco vln vsm k w M y ι):∃ g o a,Mm ι M.video F.S.vi g o a:=by
 obtain⟨v,hB⟩:=h.ci.i.bd;rw[h.m] at hB;exact Mm.of hB.vi.slice hB.fit.video
theorem LB.s2(h:LB F N c vco vln vsm k w M y ι):ι.cell? ⟨c,0,G⟩=A (pt F.g 0)/\ι.cell? ⟨F.g,34,G⟩=A F.S.vi/\ι.cell? ⟨w.heap.size,0,G⟩=A (J Q y):=by
 obtain⟨v,hB⟩:=h.ci.i.bd;exact⟨h.ci.cb.bx.at 0 _ D,hB.at 34 _ D,h.bx.at 0 _ D⟩
theorem LC.s2(h:LC F N c vco vln vsm k w M y pb ι):ι.cell? ⟨c,0,G⟩=A (pt F.g 0)/\ι.cell? ⟨F.g,34,G⟩=A F.S.vi/\ι.cell? ⟨w.heap.size,0,G⟩=A (J Q y):=h.toLB.s2
theorem LC.s3(h:LC F N c vco vln vsm k w M y pb ι):ι.cell? ⟨c,2,G⟩=A vln/\ι.cell? ⟨w.heap.size,3,G⟩=A (J Q M.b.f)/\ι.cell? ⟨w.heap.size,0,G⟩=A (J Q y)/\ι.rangeAt pb 0 (bE (px M.video y)) :=
 ⟨h.ci.cb.bx.at 2 _ rfl,h.bx.at 3 _ rfl,h.bx.at 0 _ rfl,h.pix.c⟩
theorem LC.of(a:Fb F N)(h:LB F N c vco vln vsm k w M y ι)(hb:Below ι.heap.size ι Y')(b:Bx Y' pb (bE (px M.video y)))(hp:w.heap.size<=pb):LC F N c vco vln vsm k w M y pb Y':=⟨h.kept' a hb,b,hp⟩
theorem zuo{W:u}{L:List π}{f:Nat->Nat}(h:Bx W pb L)(a:L.length=16):Bx (W.setCells pb 0 (bE f)) pb (bE f):=by
 have:=h.puts 0 (bE f) (by rw[pw];omega);rw[mK _ _ (by rw[pw,a])] at this;exact this
theorem LC.grown{W3:u}(h:LC F N c vco vln vsm k w M y pb ι)(a:ι.grownBy W3 vln.ownBlock):(W3.cell? ⟨c,2,G⟩=A vln/\W3.cell? ⟨w.heap.size,3,G⟩=A (J Q M.b.f)/\W3.cell? ⟨w.heap.size,0,G⟩=A (J Q y)/\W3.rangeAt pb 0 (bE (px M.video y)))/\W3.cell? ⟨c,2,G⟩=A vln/\c<W3.heap.size/\W3.frozen? ⟨c,2,G⟩=ξ:=by
 have hc:=h.ci.cb.same (a.block c h.ci.cb.z (λe=>mL h.ci.ln h.ci.cb.blk (by decide) e.symm));have hb:W3.heap[w.heap.size]?=ι.heap[w.heap.size]?:=a.block _ h.bx.z (λe=>by have:=h.lo _ e.symm;omega);have hp:W3.heap[pb]?=ι.heap[pb]?:=a.block _ h.pix.z (λe=>by have:=h.lo _ e.symm;have:=h.pz;omega);have d:=h.bx.same a.size hb;exact⟨⟨hc.bx.at 2 _ D,d.at 3 _ D,d.at 0 _ D,(h.pix.same a.size hp).c⟩,hc.bx.at 2 _ D,hc.z,hc.bx.f 2⟩
theorem LC.fin{W3:u}{g a:Nat}(j:Fb F N)(h:LC F N c vco vln vsm k w M y pb ι)(l:W3.ownsRow N 68 18 (κ (A ⟨g,0,G⟩) (k.ln.length+1) a) (k.ln.length+1) (nj k.ln++iO M.b.f y (px M.video y)))(e:ι.grownBy W3 vln.ownBlock)(hB:F.B<=w.heap.size):CI F N c vco (κ (A ⟨g,0,G⟩) (k.ln.length+1) a) vsm (W3.setCell ⟨c,2,G⟩ (κ (A ⟨g,0,G⟩) (k.ln.length+1) a)) { k with ln:=k.ln++[(⟨M.b.f,y,px M.video y⟩:Lin)] }/\Below F.B w (W3.setCell ⟨c,2,G⟩ (κ (A ⟨g,0,G⟩) (k.ln.length+1) a))/\Kp N c w (W3.setCell ⟨c,2,G⟩ (κ (A ⟨g,0,G⟩) (k.ln.length+1) a)):=by
 obtain⟨x,i⟩:∃ x:Lin,x=⟨M.b.f,y,px M.video y⟩:=⟨_,D⟩
 rw[<- i];have e1:(k.ln++[x]).length=k.ln.length+1:=by simp
 have d:W3.ownsRow N 68 18 (κ (A ⟨g,0,G⟩) (k.ln++[x]).length a) (k.ln++[x]).length (nj (k.ln++[x])):=by
  rw[i];exact zun l
 obtain⟨r1,r2⟩:=h.ci.grow2 (xs:=k.ln++[x]) j d e;rw[e1] at r1 r2;exact⟨r1,(h.low.mono hB).trans r2,(Kp.of h.low).trans ((Kp.grown (aj D) h.ci.ln e).trans (Kp.set 2 _))⟩
theorem LB.start(d:Fb F N)(h:CI F N c vco vln vsm w k)(i:k.s.M=M):LB F N c vco vln vsm k w M y (w.alloc (χ #[J Q y,J Q M.b.a,ν M.b.g,J Q M.b.f] 38)) :=
 ⟨h.keep d (stA (aR w) _),stA (aR w) _,Bx.new w [J Q y,J Q M.b.a,ν M.b.g,J Q M.b.f] _ rfl,i,λj e=>(jE h.ln j e).2.1⟩
theorem Lk.showLine(hF:Fb F N)(h:CI F N c vco vln vsm w k)(hl:k.ln.length<=100000):Δ ω 59 #[pt c 0] w λe w'=>e=μ (Ψ #[])/\(∃ vln',CI F N c vco vln' vsm w' { k with ln:=k.ln++k.s.M.line }/\Below F.B w w')/\Kp N c w w':=by
 obtain⟨v,hB⟩:=h.i.bd;obtain⟨M,hM⟩:∃ M,k.s.M=M:=⟨_,D⟩
 rw[hM] at hB ⊢;have k0:=h.cb.bx.at 0 _ D;have kz:=h.cb.z;have m61:=hB.at 61 (J Q M.b.l) D;have m62:=hB.at 62 (J Q M.b.a) D;have m63:=hB.at 63 (ν M.b.g) D;have m64:=hB.at 64 (J Q M.b.f) D;have mz:=hB.bx.z;have x:=hid hF;have H:=hid h;have HL:=hid hl;have hbl:=hB.fit.b.l0;by_cases ha:M.b.a=0
 ·rw[ha] at m62
  by_cases h8:M.b.l<8
  ·obtain⟨y,hy⟩:∃ y:Nat,M.b.l=y:=aA hbl
   have e0:M.line=[⟨M.b.f,y,px M.video y⟩]:=by
    unfold Mach.line;rw[am ⟨ha,h8⟩,hy];rfl
   rw[e0];rw[hy] at m61 h8;have h8':y<8:=by omega
   have HY8:=hid h8';have hst:=LB.start (y:=y) hF h hM;rw[ha] at hst;have HST:=hid hst;have hya:¬ (8:Int)<=y:=by omega
   clear hF h hl hB hM e0 hst hbl h8 h8';go_enter func59,ntmps59;go_upto_region 2 with fail
   refine Pl.cutW (LB F N c vco vln vsm k w M y) ?_ ?_
   ·exact HST.out
   intro ι hY;have HLY:=hid hY.low;have HY:=hid (hY.kept' x.out (aR ι).drew);clear hY HST k0 kz m61 m62 m63 m64 mz hya ha hy;refine wp_region_held_drew (S:=λw'=>w'.cell? ⟨c,0,G⟩=A (pt F.g 0)/\w'.cell? ⟨F.g,34,G⟩=A F.S.vi/\w'.cell? ⟨w.heap.size,0,G⟩=A (J Q y)) (by kernel_rfl) (HY.out.s2) ?_;intro d;refine dy 0 ⟨A 21,_,_,_,_,G⟩ d ?_;simp only[ag,xA,xB,xC];refine dy 1 ⟨A 22,_,_,_,_,G⟩ d ?_;simp only[ag,xA,xB,xC];refine dy 2 ⟨A 23,_,_,_,_,G⟩ d ?_;simp only[ag,xA,xB,xC];refine dy 7 ⟨A 28,_,_,_,_,G⟩ d ?_;simp only[ag,xA,xB,xC];refine nU 3 (λ_ j=>j.1) d ?_;refine dy 4 ⟨A 25,_,_,_,_,G⟩ d ?_;simp only[ag,xA,xB,xC];refine dy 5 ⟨A 26,_,_,_,_,G⟩ d ?_;simp only[ag,xA,xB,xC];refine nU 6 (λ_ j=>j.2.1) d ?_;refine nU 8 (λ_ j=>j.2.2) d ?_;refine wpAnyH_ready (rs:=[9,13]) (by kernel_rfl) (by simp) ?_;refine AllReadyH.cons (o:=⟨A 30,_,_,_,_,G⟩) D (λK m=>?_) (AllReadyH.cons (o:=⟨A 3,_,_,_,_,G⟩) D (λK m=>?_) AllReadyH.nil)
   ·go_simp
    go_at_call 112
    obtain⟨gm,om,cm,L⟩:=HY.out.mm;refine(zul M.video F.S.vi gm om cm y _ L HY8.out).mono ?_;rintro e w2 ⟨rfl,q⟩;have HBw2:=hid (HY.out.kept' x.out q);clear q L;try go_wp2_with fail
    refine gL m HBw2.out.s2 (λ_=>?_);clear m K d;have d:=HBw2.out.s2;refine dy 10 ⟨A 20,_,_,_,_,G⟩ d ?_;simp only[ag,xA,xB,xC];refine dy 11 ⟨A 31,_,_,_,_,G⟩ d ?_;simp only[ag,xA,xB,xC];refine dy 12 ⟨A 32,_,_,_,_,G⟩ d ?_;simp only[ag,xA,xB,xC];refine gy 13 (λK m=>?_);go_simp;have E:=hid (HBw2.out.kept' x.out (stA (aR w2) (χ (bE λ_=>0).toArray 66)));refine gL m (E.out.s2) (λ_=>?_);clear m K;clear d;have d:=E.out.s2;refine gy 14 (λK m=>?_);refine pH D 66 _ _ D w2.heap.size 0 (bE (px M.video y)).toArray D D ((Bx.new w2 (bE λ_=>0) 66 (b:=w2.heap.size) D).there 0 16 (by rw[pw];decide)) zfU (row_one _) ?_;have r:=hid (LC.of x.out HBw2.out (Bl.puts (o:=0) (stA (aR w2) (χ (bE λ_=>0).toArray 66)) (ψ _) (bE (px M.video y))) (zuo (Bx.new w2 (bE λ_=>0) 66 (b:=w2.heap.size) D) (pw _)) HBw2.out.low.size);refine m.out _ _ (r.out.s2) (λ_=>?_);clear m K;clear d;have d:=r.out.s2;refine dy 15 ⟨A 4,_,_,_,_,G⟩ d ?_
    simp only[ag,xA,xB,xC];refine wpAnyH_done (by kernel_rfl) ?_ _;refine Pl.cutE (LC F N c vco vln vsm k w M y (w2.heap.size)) r.out ?_;intro Z hZ;have HZ:=hid (hZ.kept' x.out (aR Z).drew);clear hZ r d;have d:=HZ.out.s3;go_wp2;refine qp (S:=λw'=>w'.cell? ⟨c,2,G⟩=A vln/\w'.cell? ⟨w.heap.size,3,G⟩=A (J Q M.b.f)/\w'.cell? ⟨w.heap.size,0,G⟩=A (J Q y)/\w'.rangeAt w2.heap.size 0 (bE (px M.video y))) (st:=17) (by kernel_rfl) ?_;refine b8 0 (λ_=>d) ?_;refine b8 1 (λ_=>d) ?_;refine b8 2 (λ_=>d) ?_;refine b8 3 (λ_=>d) ?_;refine b8 4 (λ_=>d) ?_;refine b8 6 (λ_=>d) ?_;refine b8 8 (λ_=>d) ?_;refine kU [] 5 (λ_ j=>j.1) d ?_;refine kU [] 7 (λ_ j=>j.2.1) d ?_;refine kU [] 9 (λ_ j=>j.2.2.1) d ?_;refine sf [] 10 (ac (bE (px M.video y)).toArray) D (λw' j=>ml 66 _ D (w2.heap.size) 0 D (bE (px M.video y)) _ j.2.2.2 underlying66 D (by rw[pw];exact zfU)) d ?_;refine oS (i:=11) (oi:=⟨A 44,_,_,_,_,G⟩) (v:=ac (iO M.b.f y (px M.video y)).toArray) D (by kernel_rfl) (by kernel_rfl) (by kernel_rfl) (by decide) (λ_ _ _ h=>h) (aj ⟨by rfl,λw' _=>zE 68 0 1 2 _ _ _ D (J Q M.b.f) (J Q y) (ac (bE (px M.video y)).toArray) (ac (iO M.b.f y (px M.video y)).toArray) D D D (zj5 M.b.f y (px M.video y) w')⟩) (λ_=>d) ?_
    simp only[ag,xA,xB,xC];refine jy 12 (λK m=>?_);refine xu D 44 1 0 _ D (ac (iO M.b.f y (px M.video y)).toArray) D (zgs M.b.f y (px M.video y) _) ?_;have n:=hid (HZ.out.kept' x.out (stA (aR Z.drew) (χ (iO M.b.f y (px M.video y)).toArray 68)));refine jV m (λ_=>n.out.s3) ?_;clear m K;clear d;have d:=n.out.s3;refine jy 13 (λK m=>?_);obtain⟨i1,hj0,hy0,hy1,hy2⟩:=info_parts zgt;refine step_append_lies _ (by rfl) (.tmp 38) (.tmp 45) 44 (by rfl) N 68 i1 _ 18 32 underlying44 hj0 hy0 hy1 hy2 D (by omega) vln k.ln.length (nj k.ln) D n.out.ci.ln ⟨Z.heap.size,0,G⟩ 1 1 (iO M.b.f y (px M.video y)) D (zj6 _ _ _) (xw _ Z.drew) (zj7 _ _ _) (by omega) (by unfold maxLen;have:=HL.out;omega) (by have:=HL.out;omega) (ax n.out.ci.i.N (ψ _)) _ D ?_;intro g1 P W3 p I R hz1;have T:=hid p;have U:=hid I;have t:=hid (n.out.grown I);clear p I R hz1;refine jV m (λ_=>t.out.1) ?_;clear m K;clear d;have d:=t.out.1;refine b8 14 (λ_=>d) ?_
    refine b8 15 (λ_=>d) ?_;refine b8 16 (λ_=>d) ?_;obtain⟨q2,qz,qf⟩:=t.out.2;refine jy 17 (λK m=>?_);go_simp;refine m.out _ _ (λh=>by simp at h) ?_;clear m K;refine pq (by kernel_rfl) ?_ _;obtain⟨r1,r2,r3⟩:=LC.fin x.out n.out T.out U.out H.out.i.big;refine Pl.cutE (λV=>CI F N c vco (κ (A ⟨g1,0,G⟩) (k.ln.length+1) P) vsm V { k with ln:=k.ln++[⟨M.b.f,y,px M.video y⟩] }/\Below F.B w V/\Kp N c w V) ⟨r1,r2,r3⟩ ?_;rintro V ⟨W,X,hV3⟩;have HV1:=hid W;have HV2:=hid X;have HV3:=hid hV3;clear W X hV3 r1 r2 r3 n T U t HZ q2 qz qf d;go_wp2;go_end0;exact⟨D,⟨_,HV1.out,HV2.out⟩,HV3.out⟩
   ·go_simp
    have E:=hid (HY.out.kept' x.out (stA (aR ι.drew) (χ (bE λ_=>0).toArray 66)));have HBN:=hid (Bx.new ι.drew (bE λ_=>0) 66 (b:=ι.heap.size) D);refine gL m E.out.s2 (λ_=>?_);clear m K d;have d:=E.out.s2;refine gy 9 (λK m=>?_);go_simp;go_at_call 112
    obtain⟨gm,om,cm,L⟩:=E.out.mm;refine(zul M.video F.S.vi gm om cm y _ L HY8.out).mono ?_;rintro e w2 ⟨rfl,q⟩;have HBw2:=hid (E.out.kept' x.out q);have HQw2:=hid q;clear q L;try go_wp2_with fail
    have HBO:=hid (HBN.out.kept HQw2.out);refine gL m (HBw2.out.s2) (λ_=>?_);clear m K;clear d;have d:=HBw2.out.s2;refine dy 10 ⟨A 20,_,_,_,_,G⟩ d ?_;simp only[ag,xA,xB,xC];refine dy 11 ⟨A 31,_,_,_,_,G⟩ d ?_;simp only[ag,xA,xB,xC];refine dy 12 ⟨A 32,_,_,_,_,G⟩ d ?_;simp only[ag,xA,xB,xC];refine gy 14 (λK m=>?_);refine pH D 66 _ _ D ι.heap.size 0 (bE (px M.video y)).toArray D D (HBO.out.there 0 16 (by rw[pw];decide)) zfU (row_one _) ?_;have r:=hid (LC.of x.out HY.out (Bl.puts (o:=0) (bw (stA (aR ι.drew) (χ (bE λ_=>0).toArray 66)) HQw2.out) (ψ _) (bE (px M.video y))) (zuo HBO.out (pw _)) HLY.out.size);refine m.out _ _ (r.out.s2) (λ_=>?_);clear m K;clear d;have d:=r.out.s2;refine dy 15 ⟨A 4,_,_,_,_,G⟩ d ?_;simp only[ag,xA,xB,xC];refine wpAnyH_done (by kernel_rfl) ?_ _;refine Pl.cutE (LC F N c vco vln vsm k w M y (ι.heap.size)) r.out ?_;intro Z hZ;have HZ:=hid (hZ.kept' x.out (aR Z).drew);clear hZ r d
    have d:=HZ.out.s3;go_wp2;refine qp (S:=λw'=>w'.cell? ⟨c,2,G⟩=A vln/\w'.cell? ⟨w.heap.size,3,G⟩=A (J Q M.b.f)/\w'.cell? ⟨w.heap.size,0,G⟩=A (J Q y)/\w'.rangeAt ι.heap.size 0 (bE (px M.video y))) (st:=17) (by kernel_rfl) ?_;refine b8 0 (λ_=>d) ?_;refine b8 1 (λ_=>d) ?_;refine b8 2 (λ_=>d) ?_;refine b8 3 (λ_=>d) ?_;refine b8 4 (λ_=>d) ?_;refine b8 6 (λ_=>d) ?_;refine b8 8 (λ_=>d) ?_;refine kU [] 5 (λ_ j=>j.1) d ?_;refine kU [] 7 (λ_ j=>j.2.1) d ?_;refine kU [] 9 (λ_ j=>j.2.2.1) d ?_;refine sf [] 10 (ac (bE (px M.video y)).toArray) D (λw' j=>ml 66 _ D (ι.heap.size) 0 D (bE (px M.video y)) _ j.2.2.2 underlying66 D (by rw[pw];exact zfU)) d ?_;refine oS (i:=11) (oi:=⟨A 44,_,_,_,_,G⟩) (v:=ac (iO M.b.f y (px M.video y)).toArray) D (by kernel_rfl) (by kernel_rfl) (by kernel_rfl) (by decide) (λ_ _ _ h=>h) (aj ⟨by rfl,λw' _=>zE 68 0 1 2 _ _ _ D (J Q M.b.f) (J Q y) (ac (bE (px M.video y)).toArray) (ac (iO M.b.f y (px M.video y)).toArray) D D D (zj5 M.b.f y (px M.video y) w')⟩) (λ_=>d) ?_
    simp only[ag,xA,xB,xC];refine jy 12 (λK m=>?_);refine xu D 44 1 0 _ D (ac (iO M.b.f y (px M.video y)).toArray) D (zgs M.b.f y (px M.video y) _) ?_;have n:=hid (HZ.out.kept' x.out (stA (aR Z.drew) (χ (iO M.b.f y (px M.video y)).toArray 68)));refine jV m (λ_=>n.out.s3) ?_;clear m K;clear d;have d:=n.out.s3;refine jy 13 (λK m=>?_);obtain⟨i1,hj0,hy0,hy1,hy2⟩:=info_parts zgt;refine step_append_lies _ (by rfl) (.tmp 38) (.tmp 45) 44 (by rfl) N 68 i1 _ 18 32 underlying44 hj0 hy0 hy1 hy2 D (by omega) vln k.ln.length (nj k.ln) D n.out.ci.ln ⟨Z.heap.size,0,G⟩ 1 1 (iO M.b.f y (px M.video y)) D (zj6 _ _ _) (xw _ Z.drew) (zj7 _ _ _) (by omega) (by unfold maxLen;have:=HL.out;omega) (by have:=HL.out;omega) (ax n.out.ci.i.N (ψ _)) _ D ?_;intro g1 P W3 p I R hz1;have T:=hid p;have U:=hid I;have t:=hid (n.out.grown I);clear p I R hz1;refine jV m (λ_=>t.out.1) ?_;clear m K;clear d;have d:=t.out.1;refine b8 14 (λ_=>d) ?_
    refine b8 15 (λ_=>d) ?_;refine b8 16 (λ_=>d) ?_;obtain⟨q2,qz,qf⟩:=t.out.2;refine jy 17 (λK m=>?_);go_simp;refine m.out _ _ (λh=>by simp at h) ?_;clear m K;refine pq (by kernel_rfl) ?_ _;obtain⟨r1,r2,r3⟩:=LC.fin x.out n.out T.out U.out H.out.i.big;refine Pl.cutE (λV=>CI F N c vco (κ (A ⟨g1,0,G⟩) (k.ln.length+1) P) vsm V { k with ln:=k.ln++[⟨M.b.f,y,px M.video y⟩] }/\Below F.B w V/\Kp N c w V) ⟨r1,r2,r3⟩ ?_;rintro V ⟨W,X,hV3⟩;have HV1:=hid W;have HV2:=hid X;have HV3:=hid hV3;clear W X hV3 r1 r2 r3 n T U t HZ q2 qz qf d;go_wp2;go_end0;exact⟨D,⟨_,HV1.out,HV2.out⟩,HV3.out⟩
  ·have e0:M.line=[]:=ae (λe=>h8 e.2)
   rw[e0,cH];have h8':(8:Int)<=M.b.l:=by omega
   clear hF h hl hB hM e0 h8;go_enter func59,ntmps59;go_wp2;exact Ξ (v:=Ψ #[]) (by simp[results,results59,go_sem]) D ⟨D,⟨vln,H.out.keep x.out (stA (aR w) _),(stA (aR w) _).mono H.out.i.big⟩,Kp.of (stA (aR w) _)⟩
 ·have e0:M.line=[]:=ae (λe=>ha e.1)
  rw[e0,cH];have ha':(M.b.a == 0)=ξ:=by simpa using ha
  clear hF h hl hB hM e0 hbl;go_enter func59,ntmps59;go_wp2;exact Ξ (v:=Ψ #[]) (by simp[results,results59,go_sem]) D ⟨D,⟨vln,H.out.keep x.out (stA (aR w) _),(stA (aR w) _).mono H.out.i.big⟩,Kp.of (stA (aR w) _)⟩
end
section
variable {F : Fx} {N c : Nat} {vco vln vsm v' : π} {w w1 : u} {k : Cs} {s s' : Bst}
theorem zQ(s:Bst):s.stepMain.l=s.l:=by
 unfold Bst.stepMain;split
 ·rfl
 ·show (C.step bT s.M.main ⟨s.M,0,s.l⟩ (s.M.t.g || s.M.b.g)).s.l=s.l
  exact C.keeps_step (m:=bT) (P:=λx=>x.l=s.l) (λx a h=>h) (λx a b h=>h) _ _ _ D
theorem zup(a:Fb F N)(s:Bst)(h:s.l.length<=1000000):s.stepAux.l.length<=s.l.length+4:=by
 unfold Bst.stepAux;split
 ·omega
 ·show (C.step cL s.M.aux s s.M.rung).s.l.length<=s.l.length+4
  have b:=C.fuel_step (zp8 a).frd (zp8 a).fwr s.M.aux s s.M.rung;have c:1000000001-s.l.length<=1000000001-(C.step cL s.M.aux s s.M.rung).s.l.length+4:=b;omega
theorem zlO(M:Mach):∀(l:List Inp),(∀ x∈l,x.ok)->∀ x∈M.coming l,x.ok
 | [],h=>h
 | y::l,h=>by
  unfold Mach.coming;split
  ·exact zlO M l (λx a=>h x (bV _ a))
  ·exact h
theorem Lk.nowK(hF:Fb F N)(h:CI F N c vco vln vsm w k)(h1:k.ln.length<=100000)(h2:k.sm.length<=100000)(h3:k.s.l.length<=1000000):Δ ω 32 #[pt c 0] w λe w'=>e=μ (Ψ #[])/\(∃ j o p,CI F N c j o p w' k.now/\Below F.B w w')/\Kp N c w w':=by
 have q:=hid hF;have H:=hid h;have H1:=hid h1;have H2:=hid h2;have H3:=hid h3;clear hF h h1 h2 h3;go_enter func32,ntmps32;go_wp2_with (first
  | (go_at_call 58;refine(Lk.press (M:=k.s.M) (n:=k.s.n) (l:=k.s.l) q.out H.out.i H.out.cb H.out.co H.out.ok).mono ?_;rintro e w1 ⟨rfl,v1,a⟩;have E:=hid (H.out.pressed a (zlO _ _ H.out.ok));have I:=hid a.km.m.below;have L:Hid (Kp N c w w1):=hid a.km.kp;clear a)
  | (go_at_call 59;refine(Lk.showLine q.out E.out H1.out).mono ?_;rintro e w2 ⟨rfl,⟨v2,r,t⟩,v⟩;have P:=hid r;have R:=hid t;have T:=hid v;clear r t v)
  | (go_at_call 60;refine(Lk.showSample q.out P.out H2.out).mono ?_;rintro e w3 ⟨rfl,⟨v3,x,y⟩,z⟩;have f:=hid x;have U:=hid y;have V:=hid z;clear x y z)
  | (go_at_call 61;refine(Lk.stepMain q.out f.out.i f.out.cb).mono ?_;rintro e w4 ⟨rfl,b⟩;have g:=hid (f.out.step b);have W:=hid b.m.below;have X:Hid (Kp N c w3 w4):=hid b.kp;clear b)
  | (go_at_call 62;refine(Lk.stepAux q.out g.out.i g.out.cb (by show (Bst.stepMain _).l.length<=1000000;rw[zQ];exact H3.out)).mono ?_;rintro e w5 ⟨rfl,d⟩;have Z:=hid (g.out.step d);have HB5:=hid d.m.below;have HK5:Hid (Kp N c w4 w5):=hid d.kp;clear d))
 go_end0;exact⟨D,⟨v1,v2,v3,Z.out,(((I.out.trans R.out).trans U.out).trans W.out).trans HB5.out⟩,(((L.out.trans T.out).trans V.out).trans X.out).trans HK5.out⟩
theorem Lk.now(f:Fb F N)(h:CI F N c vco vln vsm w k)(h1:k.ln.length<=100000)(h2:k.sm.length<=100000)(h3:k.s.l.length<=1000000):Δ ω 32 #[pt c 0] w λe w'=>e=μ (Ψ #[]) /\ ∃ a b d,CI F N c a b d w' k.now/\Below F.B w w':=by
 refine(Lk.nowK f h h1 h2 h3).mono ?_;rintro e w' ⟨h1,h2,_⟩;exact⟨h1,h2⟩
end
def chkL:List Inp->Int->Int
 | [],_=>0
 | x::l,a=>if x.c<a \/ 400000<x.c then 3 else if x.p=0 \/ x.p=1 then chkL l x.c else 5
def chkIn(l:List Inp)(a:Int):Int:=if 40<l.length then 2 else chkL l a
theorem wD:∀(l:List Inp) (a:Int),chkL l a=0->∀ x∈l,(x.p=0 \/ x.p=1)/\a<=x.c
 | [],_,_=>λx b=>by cases b
 | y::l,a,h=>λx b=>by
  unfold chkL at h;split at h
  ·cases h
  ·rename_i h1
   split at h
   ·rename_i h2
    rcases bp.1 b with rfl|b
    ·exact⟨h2,by omega⟩
    ·obtain⟨e1,e2⟩:=wD l y.c h x b
     exact⟨e1,by omega⟩
   ·cases h
theorem chk3{x:Inp}{l:List Inp}{a:Int}(h:x.c<a \/ 400000<x.c):chkL (x::l) a=3:=am h
theorem chk0{x:Inp}{l:List Inp}{a:Int}(h:¬ (x.c<a \/ 400000<x.c))(hp:x.p=0 \/ x.p=1):chkL (x::l) a=chkL l x.c:=(ae h).trans (am hp)
theorem chk5{x:Inp}{l:List Inp}{a:Int}(h:¬ (x.c<a \/ 400000<x.c))(hp:¬ (x.p=0 \/ x.p=1)):chkL (x::l) a=5:=(ae h).trans (ae hp)
theorem bP.at'{B:Nat}{w:u}{v:π}{l:List Inp}(h:bP B w v l){j:Nat}{x:Inp}(a:l[j]?=A x):∃ g o k,v=κ (A ⟨g,o,G⟩) l.length k/\g<w.heap.size/\w.cell? ⟨g,o+j*3,G⟩=A (J Q x.c)/\w.cell? ⟨g,o+j*3+1,G⟩=A (J Q x.p)/\w.cell? ⟨g,o+j*3+2,G⟩=A (J .u8 x.d):=by
 rcases h with⟨rfl,_⟩|⟨g,o,k,h1,h2,h3,h4,b⟩
 ·simp at a
 ·obtain⟨e1,e2,e3⟩:=b j x a
  rw[iw 3 j] at e1 e2 e3;exact⟨g,o,k,h1,h4,e1,e2,e3⟩
theorem Lk.checkInputs(l:List Inp)(v:π)(B:Nat)(a:Int)(w:u)(h:bP B w v l)(hB:B<=w.heap.size):Δ ω 57 #[v,J Q a] w λe w'=>e=μ (J Q (chkIn l a))/\Below w.heap.size w w':=by
 obtain⟨a1,k1,e1⟩:=h.len;subst e1;by_cases L:40<l.length
 ·have z:(40:Int)<l.length:=by omega
  have r:chkIn l a=2:=am L;rw[r];clear h r;go_enter func57,ntmps57;go_wp2;go_ret;exact⟨D,aR w⟩
 ·have z:¬ (40:Int)<l.length:=by omega
  have r:chkIn l a=chkL l a:=ae L;rw[r];have H:=hid h;clear h r;go_enter func57,ntmps57;go_wp2;go_loopw [14,5] (λi R wr=>∃(j:Nat) (f:Int),j<=l.length/\i=J Q j/\R=J Q f/\chkL (l.drop j) f=chkL l a/\Below w.heap.size w wr) (λi _ _=>l.length-(intOf i).toNat)
  case atStart=>exact⟨0,a,bh _,D,D,D,aR w⟩
  case round =>
   obtain⟨j,f,hj,rfl,rfl,E,hb⟩:=hrel;have m:=hid E;have n:=hid hb;by_cases b:j<l.length
   ·obtain⟨x,y⟩:∃ x,l[j]?=A x:=⟨_,aq b⟩
    have M:l.drop j=x::l.drop (j+1):=by
     rw[dx b];congr 1;rw[aq b] at y;exact aL y
    have N:=(H.out.kept (hb.mono hB))
    obtain⟨g,o,k,ev,gz,x0,x1,x2⟩:=N.at' y;cases ev;have T:(j:Int)<l.length:=by omega
    have U:(0:Int)<=j:=by omega
    have s:=hid M;clear E hb M y N;by_cases q1:x.c<f
    ·go_wp2
     go_ret;exact⟨by rw[<- m.out,s.out,chk3 (aj q1)];rfl,stA n.out _⟩
    ·have V:f<=x.c:=by omega
     by_cases P:400000<x.c
     ·go_wp2
      go_ret;exact⟨by rw[<- m.out,s.out,chk3 (ao P)];rfl,stA n.out _⟩
     ·have W:x.c<=400000:=by omega
      have F:Hid (¬ (x.c<f \/ 400000<x.c)):=λe=>e.elim (λe=>by omega) (λe=>by omega)
      clear q1 P;by_cases d:x.p=0
      ·have t:=hid d
       rw[d] at x1;clear d;go_wp2;exact⟨⟨j+1,x.c,by omega,by simp,D,by rw[<- m.out,s.out,chk0 F.out (aj t.out)],stA n.out _⟩,by simp[intOf];omega⟩
      ·by_cases q:x.p=1
       ·have t:=hid q
        rw[q] at x1;clear d q;go_wp2;exact⟨⟨j+1,x.c,by omega,by simp,D,by rw[<- m.out,s.out,chk0 F.out (ao t.out)],stA n.out _⟩,by simp[intOf];omega⟩
       ·have t:Hid (¬ (x.p=0 \/ x.p=1)):=λe=>e.elim d q
        have X:(x.p != 0)=Γ:=by simpa using d
        have Z:(x.p != 1)=Γ:=by simpa using q
        clear d q;go_wp2;all_goals first
         | (exfalso;simp_all;done)
         | (go_ret;exact⟨by rw[<- m.out,s.out,chk5 F.out t.out];rfl,stA n.out _⟩)
   ·have I:j=l.length:=by omega
    subst I;have hnl:¬ (l.length:Int)<l.length:=by omega
    clear E hb;go_wp2;go_ret;refine⟨?_,n.out⟩;have:=m.out;rw[fu] at this;rw[<- this];rfl
def bS(M:Mach)(l:List Inp)(n:Int):Int:=if M.chk=0 then (if chkIn l M.clock=0 then (if 0<=n/\n<=20000/\M.clock+n<=200000 then 0 else 3) else chkIn l M.clock) else M.chk
theorem AT{w:u}(h:br w):2<w.heap.size:=aC w ⟨2,0*3,G⟩ (h 0 (by omega)).1
theorem zBp{l:List Inp}{a:Int}(h:chkIn l a=0)(c:∀ x∈l,0<=x.d/\x.d<=255):∀ x∈l,x.ok:=λx b=>by
 unfold chkIn at h;split at h
 ·cases h
 ·exact⟨(wD l a h x b).1,c x b⟩
theorem bP.mono{B a:Nat}{w:u}{v:π}{l:List Inp}(h:bP B w v l)(hB:B<=a):bP a w v l:=by
 rcases h with h|⟨g,o,k,h1,h2,h3,h4⟩
 ·exact aj h
 ·exact ao ⟨g,o,k,h1,h2,Θ h3 hB,h4⟩
theorem ziA(M:Mach)(S:Sl)(v:π)(l:List Inp)(n:Int)(w:u)(V:cf w S M)(m:br w)(k:bP w.heap.size w v l)(W:∀ x∈l,0<=x.d/\x.d<=255)(H:M.fit)(o:M.b.f<=20000)(hc:chkIn l M.clock=0)(hn:0<=n/\n<=20000/\M.clock+n<=200000):Δ ω 31 #[ac (υ M S).toArray,v,J Q n] w λe w'=>∃(F:Fx) (N c:Nat),e=μ (Ψ #[pt c 0,J Q 0])/\Fb F N/\w.heap.size<=F.B/\(F.B<=F.mr/\F.B<=F.ar)/\CI F N c v (κ G 0 0) (κ G 0 0) w' ⟨⟨M,0,[]⟩,l,[],[]⟩/\Below w.heap.size w w':=by
 have hB:=Bx.new w (υ M S) 41 (b:=w.heap.size) D;have p:=hid hB;have X:=hid (V.kept (stA (aR w) (χ (υ M S).toArray 41)));have q:=hid m;have r:=hid k;have HD:=hid W;have HF:=hid H;have I:=hid o;have Z:=hid hc;obtain⟨hn0,hn1,hn2⟩:=hn;have hcl:=H.clock;obtain⟨a1,k1,e1⟩:=k.len;subst e1;have hwr:IntKind.i64.wrap (M.clock+n)=M.clock+n:=by rw[aH];omega
 clear hB V m k W H o hc;go_enter func31,ntmps31;go_wp2_with (first
  | (refine wpList_load_mid D 41 _ D w.heap.size 0 D (υ M S) _ p.out.c underlying41 D cn ?_)
  | (go_at_call 56;refine(zG M S _ X.out.lens X.out HF.out I.out).mono ?_;rintro e w1 ⟨F,s,rfl,t,y,h⟩;have L:=hid s;have P:=hid t;have E:=hid y;have a:=hid h;have m72:=(p.out.kept h).at 72 (J Q M.clock) D;have z72:=(p.out.kept h).z;clear s t y h)
  | (go_at_call 57;refine(Lk.checkInputs l _ w.heap.size M.clock _ (r.out.kept ((bw (stA (aR w) _) a.out))) (bw (stA (aR w) (χ (υ M S).toArray 41)) a.out).size).mono ?_;rw[Z.out];rintro e w2 ⟨rfl,i⟩;have j:=hid i;have n72:=((p.out.kept a.out).kept i).at 72 (J Q M.clock) D;have y72:=((p.out.kept a.out).kept i).z;clear i))
 have hBF:w.heap.size+1=F.B:=by have:=L.out;simp at this;omega
 have R:Below w.heap.size w (w2.alloc (χ #[pt F.g 0,κ a1 l.length k1,κ G 0 0,κ G 0 0,κ G 0 0,pt F.g 0] 91)):=stA (bw (bw (stA (aR w) _) a.out) j.out) _;have T:=AT q.out;have U:=a.out.size;simp at U
 go_ret2
 refine⟨F,w1.heap.size,w2.heap.size,D,⟨E.out.into,by omega,by omega⟩,by omega,P.out,⟨⟨ax j.out.size (by simp),xj q.out (R.block _ T),jH 0,κ G 0 0,(E.out.kept j.out).over _⟩,⟨j.out.size,aM w2 _⟩,(r.out.kept R).mono (by omega),zBp Z.out HD.out,eU _ _ _ _,eU _ _ _ _⟩,R⟩
theorem zgu(M:Mach)(S:Sl)(v:π)(l:List Inp)(n:Int)(w:u)(P:cf w S M)(R:∀ j,j<5->(M.byt j).length<=9223372036854775807)(p:M.ok)(o:bP w.heap.size w v l)(hn:-9223372036854775808<=n/\n<=9223372036854775807)(T:bS M l n≠0):Δ ω 31 #[ac (υ M S).toArray,v,J Q n] w λe w'=>e=μ (Ψ #[.pointer G,J Q (bS M l n)])/\Below w.heap.size w w':=by
 have hB:=Bx.new w (υ M S) 41 (b:=w.heap.size) D;have g:=hid hB;have r:=hid (P.kept (stA (aR w) (χ (υ M S).toArray 41)));have s:=hid o;have HZ:=hid R;obtain⟨a1,k1,e1⟩:=o.len;subst e1;by_cases hc:M.chk=0
 ·have U:=wA p hc
  have V:=hid U;have t:=hid (zeA hc);have E:=U.clock;by_cases hi:chkIn l M.clock=0
  ·have x:¬ (0<=n/\n<=20000/\M.clock+n<=200000):=λe=>T (by unfold bS;rw[am hc,am hi,am e])
   have y:bS M l n=3:=by unfold bS;rw[am hc,am hi,ae x]
   rw[y];have N:=hid hi;clear hB P o hc U hi T y R p;by_cases Z:n<0
   ·clear x E
    go_enter func31,ntmps31;go_wp2_with (first
     | (refine wpList_load_mid D 41 _ D w.heap.size 0 D (υ M S) _ g.out.c underlying41 D cn ?_)
     | (go_at_call 56;refine(zG M S _ r.out.lens r.out V.out t.out).mono ?_;rintro e w1 ⟨F,h,rfl,i,k,d⟩;have a:=hid d;have H:=(g.out.kept d).at 72 (J Q M.clock) D;have z72:=(g.out.kept d).z;clear h i k d)
     | (go_at_call 57;refine(Lk.checkInputs l _ w.heap.size M.clock _ (s.out.kept ((bw (stA (aR w) _) a.out))) (bw (stA (aR w) (χ (υ M S).toArray 41)) a.out).size).mono ?_;rw[N.out];rintro e w2 ⟨rfl,f⟩;have m:=hid f;have I:=((g.out.kept a.out).kept f).at 72 (J Q M.clock) D;have L:=((g.out.kept a.out).kept f).z;clear f))
    go_ret2
    exact⟨D,bw (bw (stA (aR w) _) a.out) m.out⟩
   ·by_cases h1:20000<n
    ·have W:0<=n:=by omega
     clear x E Z;go_enter func31,ntmps31;go_wp2_with (first
      | (refine wpList_load_mid D 41 _ D w.heap.size 0 D (υ M S) _ g.out.c underlying41 D cn ?_)
      | (go_at_call 56;refine(zG M S _ r.out.lens r.out V.out t.out).mono ?_;rintro e w1 ⟨F,h,rfl,i,k,d⟩;have a:=hid d;have H:=(g.out.kept d).at 72 (J Q M.clock) D;have z72:=(g.out.kept d).z;clear h i k d)
      | (go_at_call 57;refine(Lk.checkInputs l _ w.heap.size M.clock _ (s.out.kept ((bw (stA (aR w) _) a.out))) (bw (stA (aR w) (χ (υ M S).toArray 41)) a.out).size).mono ?_;rw[N.out];rintro e w2 ⟨rfl,f⟩;have m:=hid f;have I:=((g.out.kept a.out).kept f).at 72 (J Q M.clock) D;have L:=((g.out.kept a.out).kept f).z;clear f))
     go_ret2
     exact⟨D,bw (bw (stA (aR w) _) a.out) m.out⟩
    ·have W:0<=n:=by omega
     have h1':n<=20000:=by omega
     have h2':200000<M.clock+n:=by omega
     have hwr:IntKind.i64.wrap (M.clock+n)=M.clock+n:=by rw[aH];omega
     clear x Z h1;go_enter func31,ntmps31;go_wp2_with (first
      | (refine wpList_load_mid D 41 _ D w.heap.size 0 D (υ M S) _ g.out.c underlying41 D cn ?_)
      | (go_at_call 56;refine(zG M S _ r.out.lens r.out V.out t.out).mono ?_;rintro e w1 ⟨F,h,rfl,i,k,d⟩;have a:=hid d;have H:=(g.out.kept d).at 72 (J Q M.clock) D;have z72:=(g.out.kept d).z;clear h i k d)
      | (go_at_call 57;refine(Lk.checkInputs l _ w.heap.size M.clock _ (s.out.kept ((bw (stA (aR w) _) a.out))) (bw (stA (aR w) (χ (υ M S).toArray 41)) a.out).size).mono ?_;rw[N.out];rintro e w2 ⟨rfl,f⟩;have m:=hid f;have I:=((g.out.kept a.out).kept f).at 72 (J Q M.clock) D;have L:=((g.out.kept a.out).kept f).z;clear f))
     go_ret2
     exact⟨D,bw (bw (stA (aR w) _) a.out) m.out⟩
  ·have y:bS M l n=chkIn l M.clock:=by unfold bS;rw[am hc,ae hi]
   rw[y];obtain⟨q,B⟩:∃ q,chkIn l M.clock=q:=⟨_,D⟩
   have N:=hid B;rw[B] at hi ⊢;have hi':(q != 0)=Γ:=by simpa using hi
   clear hB P o hc U T y R p E B hi;go_enter func31,ntmps31;go_wp2_with (first
    | (refine wpList_load_mid D 41 _ D w.heap.size 0 D (υ M S) _ g.out.c underlying41 D cn ?_)
    | (go_at_call 56;refine(zG M S _ r.out.lens r.out V.out t.out).mono ?_;rintro e w1 ⟨F,h,rfl,i,k,d⟩;have a:=hid d;have H:=(g.out.kept d).at 72 (J Q M.clock) D;have z72:=(g.out.kept d).z;clear h i k d)
    | (go_at_call 57;refine(Lk.checkInputs l _ w.heap.size M.clock _ (s.out.kept ((bw (stA (aR w) _) a.out))) (bw (stA (aR w) (χ (υ M S).toArray 41)) a.out).size).mono ?_;rw[N.out];rintro e w2 ⟨rfl,f⟩;have m:=hid f;have I:=((g.out.kept a.out).kept f).at 72 (J Q M.clock) D;have L:=((g.out.kept a.out).kept f).z;clear f))
   go_ret2
   exact⟨D,bw (bw (stA (aR w) _) a.out) m.out⟩
 ·have y:bS M l n=M.chk:=by unfold bS;rw[ae hc]
  rw[y];have X:=hid hc;obtain⟨q,B⟩:∃ q,M.chk=q:=⟨_,D⟩
  have hc':(q != 0)=Γ:=by rw[<- B];simpa using hc
  have HQ:=hid B;rw[B];clear hB P o hc T y R p B;go_enter func31,ntmps31;go_wp2_with (first
   | (refine wpList_load_mid D 41 _ D w.heap.size 0 D (υ M S) _ g.out.c underlying41 D cn ?_)
   | (go_at_call 56;refine(yl M S _ r.out.lens HZ.out X.out).mono ?_;rw[HQ.out];rintro e w1 ⟨rfl,d⟩;have a:=hid d;clear d))
  go_ret2
  exact⟨D,bw (stA (aR w) _) a.out⟩
theorem kX:(Tryz.prog.info? 47).map (·.size)=A 3:=by kernel_rfl
section
variable {F : Fx} {N c : Nat} {vco vln vsm vw v4 : π} {w w1 : u} {k : Cs} {L1 L2 : List π} {ι : u}
theorem ol{t:aJ}{z:Nat}{v:π}{n:Nat}{xs:List π}{B:Nat}(h:w.ownsRow B t z v n xs):∃ a n c,v=κ a n c:=by
 rcases h.2 with⟨b,_⟩|⟨g,d,e,b,_⟩
 ·exact⟨_,_,_,b⟩
 ·exact⟨_,_,_,b⟩
structure DW (F : Fx) (N c : Nat) (vco vln vsm vw v4 : π) (k : Cs) (w : u) (L1 L2 : List π) (ι : u) : Prop where
 low:Below F.B w ι
 big:F.B<=w.heap.size
 bd:Bd F ι k.s.M ⟨k.s.n,k.s.l,vw⟩
 ln:ι.ownsRow N 68 18 vln k.ln.length (nj k.ln)
 sm:ι.ownsRow N 5 1 vsm k.sm.length (gJ k.sm)
 cc:Bx ι c [pt F.g 0,vco,vln,vsm,v4,pt F.g 0]
 b1:Bx ι w.heap.size L1
 b2:Bx ι (w.heap.size+1) L2
 into:F.into N
 hc:N<=c/\c<w.heap.size/\F.B<=c
 lo:∀ j,(vw.ownBlock=A j \/ vln.ownBlock=A j \/ vsm.ownBlock=A j)->j<w.heap.size/\j≠c
theorem DW.s(h:DW F N c vco vln vsm vw vw k w L1 L2 ι):ι.cell? ⟨c,0,G⟩=A (pt F.g 0)/\ι.rangeAt F.g 0 (υ k.s.M F.S)/\ι.rangeAt c 2 [vln,vsm,vw] :=
 ⟨h.cc.at 0 _ rfl,h.bd.row,λi v hi=>by
   have a:=(ay.1 hi).1;have hc:i=0 \/ i=1 \/ i=2:=by simp at a;omega
   rcases hc with rfl|rfl|rfl <;> exact h.cc.at _ _ hi⟩
theorem DW.kept(h:DW F N c vco vln vsm vw v4 k w L1 L2 ι)(hb:Below ι.heap.size ι w1):DW F N c vco vln vsm vw v4 k w L1 L2 w1 :=
 ⟨h.low.trans (hb.mono (ax h.big h.low.size)),h.big,h.bd.kept hb,jr h.ln (λj e=>hb.block j (jE h.ln j e).2.1),jr h.sm (λj e=>hb.block j (jE h.sm j e).2.1),h.cc.kept hb,h.b1.kept hb,h.b2.kept hb,h.into,h.hc,h.lo⟩
theorem DW.far{b o:Nat}{vs:List π}(h:DW F N c vco vln vsm vw v4 k w L1 L2 ι)(hb:N<=b)(a:∀ j,(vw.ownBlock=A j \/ vln.ownBlock=A j \/ vsm.ownBlock=A j)->j≠b):Bd F (ι.setCells b o vs) k.s.M ⟨k.s.n,k.s.l,vw⟩/\(ι.setCells b o vs).ownsRow N 68 18 vln k.ln.length (nj k.ln)/\(ι.setCells b o vs).ownsRow N 5 1 vsm k.sm.length (gJ k.sm) :=
 ⟨h.bd.same h.into (cq (pN _ _ _ _).symm) (λj d=>ji (by omega) _ _ _) (λj e=>ji (a j (aj e)) _ _ _),jr h.ln (λj e=>ji (a j (ao (aj e))) _ _ _),jr h.sm (λj e=>ji (a j (ao (ao e))) _ _ _)⟩
theorem DW.bb{b o:Nat}{vs L:List π}{b':Nat}(h:Bx ι b' L)(a:b'≠b):Bx (ι.setCells b o vs) b' L:=h.same (cq (pN _ _ _ _).symm) (ji a _ _ _)
theorem ni{B:Nat}{a:u}:∀ {w:u} {b:Nat},Below B a w->B<=b->∀(vs:List π) (o:Nat),Below B a (w.setCells b o vs)
 | w,b,h,hb,[],o=>h
 | w,b,h,hb,v::vs,o=>ni (h.setCell (p:=⟨b,o,G⟩) hb v) hb vs (o+1)
theorem DW.set4(h:DW F N c vco vln vsm vw v4 k w L1 L2 ι):DW F N c vco vln vsm vw vw k w L1 L2 (ι.setCell ⟨c,4,G⟩ vw):=by
 obtain⟨c1,c2,c3⟩:=h.hc;obtain⟨f1,f2,f3⟩:=h.far (b:=c) (o:=4) (vs:=[vw]) c1 (λj a=>(h.lo j a).2);exact⟨h.low.setCell c3 _,h.big,f1,f2,f3,h.cc.set 4 vw (by simp),DW.bb (o:=4) (vs:=[vw]) h.b1 (by omega),DW.bb (o:=4) (vs:=[vw]) h.b2 (by omega),h.into,h.hc,h.lo⟩
theorem DW.put1(h:DW F N c vco vln vsm vw v4 k w (υ aD aP) L2 ι):DW F N c vco vln vsm vw v4 k w (υ k.s.M F.S) L2 (ι.setCells w.heap.size 0 (υ k.s.M F.S)):=by
 obtain⟨c1,c2,c3⟩:=h.hc;obtain⟨f1,f2,f3⟩:=h.far (b:=w.heap.size) (o:=0) (vs:=υ k.s.M F.S) (by omega) (λj d=>by have:=(h.lo j d).1;omega);have a:=h.b1.puts 0 (υ k.s.M F.S) (by rw[dG,dG];omega);rw[mK _ _ (by rw[dG,dG])] at a;exact⟨ni h.low h.big _ _,h.big,f1,f2,f3,DW.bb h.cc (by omega),a,DW.bb h.b2 (by omega),h.into,h.hc,h.lo⟩
theorem DW.put2{x y z:π}(h:DW F N c vco vln vsm vw v4 k w L1 [x,y,z] ι):DW F N c vco vln vsm vw v4 k w L1 [vln,vsm,vw] (ι.setCells (w.heap.size+1) 0 [vln,vsm,vw]):=by
 obtain⟨c1,c2,c3⟩:=h.hc;obtain⟨f1,f2,f3⟩:=h.far (b:=w.heap.size+1) (o:=0) (vs:=[vln,vsm,vw]) (by omega) (λj d=>by have:=(h.lo j d).1;omega);have a:=h.b2.puts 0 [vln,vsm,vw] (by simp);rw[mK _ _ (by simp)] at a;exact⟨ni h.low (by have:=h.big;omega) _ _,h.big,f1,f2,f3,DW.bb h.cc (by omega),DW.bb h.b1 (by omega),a,h.into,h.hc,h.lo⟩
structure Told (F : Fx) (N : Nat) (k : Cs) (vln vsm vw : π) (w' : u) : Prop where
 sl:cf w' F.S k.s.M
 fit:k.s.M.fit
 ln:w'.ownsRow N 68 18 vln k.ln.length (nj k.ln)
 sm:w'.ownsRow N 5 1 vsm k.sm.length (gJ k.sm)
 ws:w'.ownsRow F.B 104 3 vw k.s.l.length (oC k.s.l)
theorem Lk.done(T:Fb F N)(h:CI F N c vco vln vsm w k):Δ ω 34 #[pt c 0] w λe w'=>∃ vw,e=μ (Ψ #[ac (υ k.s.M F.S).toArray,ac #[vln,vsm,vw]])/\Told F N k vln vsm vw w'/\Below F.B w w':=by
 obtain⟨vw,hB⟩:=h.i.bd;obtain⟨a2,p,c2,e2⟩:=ol h.ln;obtain⟨a3,q,c3,e3⟩:=ol h.sm;obtain⟨a4,d,c4,e4⟩:=ol hB.ws;have X:vw=κ a4 d c4:=e4;have Z:Hid F.S.isSl:=hB.isSl;have l:=h.i.big;have h0:DW F N c vco vln vsm vw (κ G 0 0) k w (υ aD aP) [κ G 0 0,κ G 0 0,κ G 0 0] ((w.alloc (χ (υ aD aP).toArray 41)).alloc (χ #[κ G 0 0,κ G 0 0,κ G 0 0] 47)):=by
  have hb:=stA (stA (aR w) (χ (υ aD aP).toArray 41)) (χ #[κ G 0 0,κ G 0 0,κ G 0 0] 47);have E:=h.keep T hb;refine⟨hb.mono l,l,hB.kept hb,E.ln,E.sm,E.cb.bx,(Bx.new w (υ aD aP) 41 (b:=w.heap.size) D).over _,Bx.new (w.alloc (χ (υ aD aP).toArray 41)) [κ G 0 0,κ G 0 0,κ G 0 0] 47 (b:=w.heap.size+1) (by simp),T.into,⟨h.cb.n,h.cb.z,h.big T⟩,λj r=>?_⟩;rcases r with r|r|r
  ·obtain⟨cs,fr,U⟩:=hB.wty j r
   refine⟨(aa.1 U).1,λe=>?_⟩;rw[e,h.cb.blk] at U;simp only[aZ,eJ] at U;exact absurd U.2.1 (by decide)
  ·exact⟨(jE h.ln j r).2.1,λe=>mL h.ln h.cb.blk (by decide) (by rw[r,e])⟩
  ·exact⟨(jE h.sm j r).2.1,λe=>mL h.sm h.cb.blk (by decide) (by rw[r,e])⟩
 subst e2 e3 X;have H0:=hid h0;clear T h hB e4 h0 l;go_enter func34,ntmps34;go_upto_region 1 with fail
 refine Pl.cutW (DW F N c vco (κ a2 p c2) (κ a3 q c3) (κ a4 d c4) (κ G 0 0) k w (υ aD aP) [κ G 0 0,κ G 0 0,κ G 0 0]) H0.out ?_;intro Y0 a;have k5:=a.cc.at 5 _ D;have k4:=a.cc.at 4 _ D;have kz:=a.cc.z;have kf:=a.cc.f 4;have m76:=a.bd.at 76 (κ a4 d c4) D;have mz:=a.bd.bx.z;have I:=hid a;clear a H0;go_upto_region 2 with fail
 refine Pl.cutW (DW F N c vco (κ a2 p c2) (κ a3 q c3) (κ a4 d c4) (κ a4 d c4) k w (υ aD aP) [κ G 0 0,κ G 0 0,κ G 0 0]) I.out.set4 ?_;intro Y1 L;have W:=hid (L.kept (aR Y1).drew);clear L I k5 k4 kz kf m76 mz;refine wp_region_held_drew (S:=λw'=>w'.cell? ⟨c,0,G⟩=A (pt F.g 0)/\w'.rangeAt F.g 0 (υ k.s.M F.S)/\w'.rangeAt c 2 [κ a2 p c2,κ a3 q c3,κ a4 d c4]) (by kernel_rfl) (W.out.s) ?_;intro m;refine dy 0 ⟨A 15,_,_,_,_,G⟩ m ?_;simp only[ag,xA,xB,xC];refine dy 1 ⟨A 16,_,_,_,_,G⟩ m ?_;simp only[ag,xA,xB,xC];refine dy 2 ⟨A 17,_,_,_,_,G⟩ m ?_;simp only[ag,xA,xB,xC];refine dy 6 ⟨A 21,_,_,_,_,G⟩ m ?_;simp only[ag,xA,xB,xC];refine dy 7 ⟨A 22,_,_,_,_,G⟩ m ?_;simp only[ag,xA,xB,xC];refine dy 8 ⟨A 23,_,_,_,_,G⟩ m ?_;simp only[ag,xA,xB,xC];refine nU 3 (λ_ o=>o.1) m ?_;refine dy 4 ⟨A 19,_,_,_,_,G⟩ m ?_;simp only[ag,xA,xB,xC];refine jW 5 (ac (υ k.s.M F.S).toArray) D (λw' o=>ml 41 _ D F.g 0 D (υ k.s.M F.S) _ o.2.1 underlying41 D cn) m ?_
 refine jW 9 (ac ([κ a2 p c2,κ a3 q c3,κ a4 d c4]).toArray) D (λw' o=>ml 47 _ D c 2 D ([κ a2 p c2,κ a3 q c3,κ a4 d c4]) _ o.2.2 underlying47 D kX) m ?_;have t:=hid W.out.put1;refine tK (i:=10) (op:=⟨G,_,_,_,_,G⟩) (by kernel_rfl) D D 41 _ _ D w.heap.size 0 (υ k.s.M F.S).toArray D D (W.out.b1.there 0 75 (by rw[dG];omega)) cn (iq _ _ Z.out) t.out.s ?_;have H:=hid t.out.put2;have P:=t.out.b2.there 0 3 (by simp);have x:(([κ a2 p c2,κ a3 q c3,κ a4 d c4]:List π)).toArray.all (·.oneCell')=Γ:=by simp[Value.oneCell']
 have R:=H.out.s;clear m;refine tK (i:=11) (op:=⟨G,_,_,_,_,G⟩) (by kernel_rfl) D D 47 _ _ D (w.heap.size+1) 0 #[κ a2 p c2,κ a3 q c3,κ a4 d c4] D D P kX x R ?_;refine wpAnyH_done (by kernel_rfl) ?_ _;refine Pl.cutE (DW F N c vco (κ a2 p c2) (κ a3 q c3) (κ a4 d c4) (κ a4 d c4) k w (υ k.s.M F.S) [κ a2 p c2,κ a3 q c3,κ a4 d c4]) H.out ?_;intro V hV;have y:=hid hV;clear hV W t H P x R;go_wp2;refine Ξ (v:=Ψ #[ac (υ k.s.M F.S).toArray,ac #[κ a2 p c2,κ a3 q c3,κ a4 d c4]]) ?_ D ⟨_,D,⟨y.out.bd.slAt,y.out.bd.fit,y.out.ln,y.out.sm,y.out.bd.ws⟩,y.out.low⟩;have l1:=run_loadVar_mid V w.heap.size 0 41 _ _ y.out.b1.c underlying41 D cn;have l2:=run_loadVar_mid V (w.heap.size+1) 0 47 _ _ y.out.b2.c underlying47 D kX;simp only[results,results34];simp;show (aE (Sem.run ω (loadVar 41 ⟨w.heap.size,0,G⟩) V) _)=_;rw[l1];show (aE (Sem.run ω (loadVar 47 ⟨w.heap.size+1,0,G⟩) V) _)=_;rw[l2];rfl
end
theorem ziB(M:Mach):∀ k,(M.xfer k).clock=M.clock
 | 0=>rfl
 | k+1=>ziB M k
theorem zuq(M:Mach)(a:Int):(M.rdM a).2.clock=M.clock:=by
 unfold Mach.rdM;split
 ·unfold Mach.portM
  split <;> rfl
 ·rfl
theorem zur(M:Mach)(a:Int):(M.rdA a).2.clock=M.clock:=by
 unfold Mach.rdA;split
 ·unfold Mach.portA
  split <;> rfl
 ·rfl
theorem zof(M:Mach)(n:Int):(M.letGo n).clock=M.clock:=by
 unfold Mach.letGo;split <;> rfl
theorem zus(M:Mach)(a n:Int):(M.wrM a n).clock=M.clock:=by
 unfold Mach.wrM;split
 ·unfold Mach.putM
  split;all_goals first
   | rfl
   | exact ziB _ _
   | exact zof _ _
 ·unfold Mach.memM
  split
  ·rfl
  ·split
   ·rfl
   ·split <;> rfl
theorem zut(M:Mach)(a n:Int):(M.wrA a n).clock=M.clock:=by
 unfold Mach.wrA;split
 ·unfold Mach.putA
  split
  ·rfl
  ·split <;> rfl
 ·unfold Mach.memA
  split
  ·rfl
  ·split
   ·rfl
   ·split
    ·split <;> rfl
    ·rfl
theorem zbW(s:Bst):s.stepMain.M.clock=s.M.clock:=by
 unfold Bst.stepMain;split
 ·rfl
 ·show (C.step bT s.M.main ⟨s.M,0,s.l⟩ (s.M.t.g || s.M.b.g)).s.M.clock=s.M.clock
  exact C.keeps_step (m:=bT) (P:=λx=>x.M.clock=s.M.clock) (λx a h=>(zuq x.M a).trans h) (λx a b h=>(zus x.M a _).trans h) _ _ _ D
theorem zc1(s:Bst):s.stepAux.M.clock=s.M.clock:=by
 unfold Bst.stepAux;split
 ·rfl
 ·show (C.step cL s.M.aux s s.M.rung).s.M.clock=s.M.clock
  exact C.keeps_step (m:=cL) (P:=λx=>x.M.clock=s.M.clock) (λx a h=>(zur x.M a).trans h) (λx a b h=>(zut x.M a _).trans h) _ _ _ D
theorem zeL:∀(l:List Inp) (M:Mach),(M.pressed l).clock=M.clock
 | [],M=>rfl
 | x::l,M=>by
  unfold Mach.pressed;split
  ·rw[zeL l,zd5]
  ·rfl
theorem zj8(M:Mach):M.line.length<=1:=by
 unfold Mach.line;split <;> simp
theorem AU(M:Mach):M.sample.length<=1:=by
 unfold Mach.sample;split
 ·exact zjt _ 1
 ·simp
structure Cs.at (k0 k : Cs) (j : Nat) : Prop where
 clock:k.s.M.clock=k0.s.M.clock+j
 ln:k.ln.length<=k0.ln.length+j
 sm:k.sm.length<=k0.sm.length+j
 l:k.s.l.length<=k0.s.l.length+4*j
theorem sZ(k:Cs):k.now.s.M.clock=k.s.M.clock:=by
 show ((Bst.stepMain ⟨k.s.M.pressed k.co,k.s.n,k.s.l⟩).stepAux).M.clock=_;rw[zc1,zbW];exact zeL _ _
theorem zgv{F:Fx}{N:Nat}(a:Fb F N)(k0:Cs)(d:k0.s.l.length<=100):∀ j:Nat,j<=20000->Cs.at k0 (k0.clocks j) j
 | 0,_=>⟨by simp[Cs.clocks],by simp[Cs.clocks],by simp[Cs.clocks],by simp[Cs.clocks]⟩
 | j+1,g=>by
  have b:=zgv a k0 d j (by omega);obtain⟨k,c⟩:∃ k,k=k0.clocks j:=⟨_,D⟩
  have e:k0.clocks (j+1)=k.clock:=by rw[c];rfl
  rw[<- c] at b;rw[e];obtain⟨f,i2,i3,i4⟩:=b;refine⟨?_,?_,?_,?_⟩
  ·show k.now.s.M.clock+1=_
   rw[sZ,f];push_cast;omega
  ·show (k.ln++(k.s.M.pressed k.co).line).length<=_
   have:=zj8 (k.s.M.pressed k.co);rw[az];omega
  ·show (k.sm++(k.s.M.pressed k.co).sample).length<=_
   have:=AU (k.s.M.pressed k.co);rw[az];omega
  ·show ((Bst.stepMain ⟨k.s.M.pressed k.co,k.s.n,k.s.l⟩).stepAux).l.length<=_
   have h1:(Bst.stepMain ⟨k.s.M.pressed k.co,k.s.n,k.s.l⟩).l=k.s.l:=zQ _;have h2:=zup a (Bst.stepMain ⟨k.s.M.pressed k.co,k.s.n,k.s.l⟩) (by rw[h1];omega);rw[h1] at h2;omega
/-! ### what no processor touches: where the beam is, when the next sample comes -/
structure Mach.alike (M M' : Mach) : Prop where
 l:M'.b.l=M.b.l
 a:M'.b.a=M.b.a
 f:M'.b.f=M.b.f
 w:M'.s.w=M.s.w
theorem alike_refl(M:Mach):M.alike M:=⟨D,D,D,D⟩
theorem Mach.alike.trans{M M' b:Mach}(h:M.alike M')(k:M'.alike b):M.alike b:=⟨k.l.trans h.l,k.a.trans h.a,k.f.trans h.f,k.w.trans h.w⟩
theorem ziE(M:Mach):∀ k,M.alike (M.xfer k)
 | 0=>alike_refl M
 | k+1=>(ziE M k).trans ⟨D,D,D,D⟩
theorem zuw(M:Mach)(a:Int):M.alike (M.rdM a).2:=by
 unfold Mach.rdM;split
 ·unfold Mach.portM
  split <;> exact⟨D,D,D,D⟩
 ·exact alike_refl M
theorem zux(M:Mach)(a:Int):M.alike (M.rdA a).2:=by
 unfold Mach.rdA;split
 ·unfold Mach.portA
  split <;> exact⟨D,D,D,D⟩
 ·exact alike_refl M
theorem zoh(M:Mach)(n:Int):M.alike (M.letGo n):=by
 unfold Mach.letGo;split <;> exact⟨D,D,D,D⟩
theorem zuy(M:Mach)(a n:Int):M.alike (M.wrM a n):=by
 unfold Mach.wrM;split
 ·unfold Mach.putM
  split;all_goals first
   | exact⟨D,D,D,D⟩
   | exact ziE _ _
   | exact zoh _ _
 ·unfold Mach.memM
  split
  ·exact alike_refl M
  ·split
   ·exact⟨D,D,D,D⟩
   ·split <;> exact⟨D,D,D,D⟩
theorem zBq(s:Sd)(p:Nat)(n:Int):(s.put p n).w=s.w:=by
 unfold Sd.put;split
 ·rfl
 ·split <;> rfl
theorem zuz(M:Mach)(a n:Int):M.alike (M.wrA a n):=by
 unfold Mach.wrA;split
 ·unfold Mach.putA
  split
  ·exact⟨D,D,D,zBq _ _ _⟩
  ·split <;> exact⟨D,D,D,D⟩
 ·unfold Mach.memA
  split
  ·exact alike_refl M
  ·split
   ·exact⟨D,D,D,D⟩
   ·split
    ·split <;> exact⟨D,D,D,D⟩
    ·exact alike_refl M
theorem zhf(s:Bst):s.M.alike s.stepMain.M:=by
 unfold Bst.stepMain;split
 ·exact alike_refl _
 ·have h:=C.keeps_step (m:=bT) (P:=λx=>s.M.alike x.M) (λx a h=>h.trans (zuw x.M a)) (λx a b h=>h.trans (zuy x.M a _)) s.M.main ⟨s.M,0,s.l⟩ (s.M.t.g || s.M.b.g) (alike_refl _)
  exact⟨h.l,h.a,h.f,h.w⟩
theorem zj9(s:Bst):s.M.alike s.stepAux.M:=by
 unfold Bst.stepAux;split
 ·exact alike_refl _
 ·have h:=C.keeps_step (m:=cL) (P:=λx=>s.M.alike x.M) (λx a h=>h.trans (zux x.M a)) (λx a b h=>h.trans (zuz x.M a _)) s.M.aux s s.M.rung (alike_refl _)
  exact⟨h.l,h.a,h.f,h.w⟩
theorem zoi(M:Mach)(x:Inp):M.alike (M.press x):=by
 unfold Mach.press;split <;> exact⟨D,D,D,D⟩
theorem zb7:∀(l:List Inp) (M:Mach),M.alike (M.pressed l)
 | [],M=>alike_refl M
 | x::l,M=>by
  unfold Mach.pressed;split
  ·exact(zoi M x).trans (zb7 l _)
  ·exact alike_refl M
theorem zgw(k:Cs):k.s.M.alike k.now.s.M :=
 (zb7 k.co k.s.M).trans ((zhf ⟨k.s.M.pressed k.co,k.s.n,k.s.l⟩).trans (zj9 _))
structure Cs.runs (k0 k : Cs) (j : Nat) : Prop where
 l:k.s.M.b.l=lC k0.s.M.b.l k0.s.M.b.a j
 a:k.s.M.b.a=kA k0.s.M.b.l k0.s.M.b.a j
 f:k.s.M.b.f=lS k0.s.M.b.l k0.s.M.b.a k0.s.M.b.f j
 w:k.s.M.s.w=(k0.s.M.s.ticks j).w
theorem zzA{s s':Sd}(h:s.w=s'.w):(s.ticks 1).w=(s'.ticks 1).w:=by
 show (if s.w=0 then 15 else s.w-1)=(if s'.w=0 then 15 else s'.w-1)
 rw[h]
theorem zcy(k0:Cs)(hb:BOk k0.s.M.b.l k0.s.M.b.a k0.s.M.b.f)(q:k0.s.M.b.f<=19900):∀ j:Nat,j<=20000->Cs.runs k0 (k0.clocks j) j
 | 0,_=>by
  have:=zsV k0.s.M.b.l k0.s.M.b.a k0.s.M.b.f ξ ⟨hb.l0,hb.l1⟩ ⟨hb.a0,hb.a1⟩;exact⟨this.1.symm,this.2.1.symm,this.2.2.2.symm,D⟩
 | j+1,r=>by
  have h:=zcy k0 hb q j (by omega);obtain⟨k,o⟩:∃ k,k=k0.clocks j:=⟨_,D⟩
  have e:k0.clocks (j+1)=k.clock:=by rw[o];rfl
  rw[<- o] at h;rw[e];have i:=zgw k;have l0:=hb.l0;have l1:=hb.l1;have a0:=hb.a0;have a1:=hb.a1;have f0:=hb.f0;have e1:k.now.s.M.b.l=lC k0.s.M.b.l k0.s.M.b.a j:=i.l.trans h.l;have e2:k.now.s.M.b.a=kA k0.s.M.b.l k0.s.M.b.a j:=i.a.trans h.a;have e3:k.now.s.M.b.f=lS k0.s.M.b.l k0.s.M.b.a k0.s.M.b.f j:=i.f.trans h.f;have d:=BR k0.s.M.b.l k0.s.M.b.a j ⟨l0,l1⟩ ⟨a0,a1⟩ (by omega);have p:0<=lS k0.s.M.b.l k0.s.M.b.a k0.s.M.b.f j/\lS k0.s.M.b.l k0.s.M.b.a k0.s.M.b.f j<=20000:=by unfold lS;omega
  have m:pL k.now.s.M.b.l k.now.s.M.b.a k.now.s.M.b.f=Γ:=by
   rw[e1,e2,e3];exact(qo _ _ _).2 ⟨d.1.1,d.1.2,d.2.1,d.2.2,p.1,p.2⟩
  have c:=zxX k0.s.M.b.l k0.s.M.b.a k0.s.M.b.f j 1 ξ ⟨l0,l1⟩ ⟨a0,a1⟩ (by omega) (by omega);have n:k.clock.s.M.b=⟨lC k.now.s.M.b.l k.now.s.M.b.a 1,kA k.now.s.M.b.l k.now.s.M.b.a 1,pd k.now.s.M.b.l k.now.s.M.b.a k.now.s.M.b.g 1,lS k.now.s.M.b.l k.now.s.M.b.a k.now.s.M.b.f 1⟩:=by
   show k.now.s.M.b.one=_;unfold Bem.one;rw[am m]
  refine⟨?_,?_,?_,?_⟩
  ·rw[n];show lC k.now.s.M.b.l k.now.s.M.b.a 1=_
   rw[e1,e2,c.1];push_cast;rfl
  ·rw[n];show kA k.now.s.M.b.l k.now.s.M.b.a 1=_
   rw[e1,e2,c.2.1];push_cast;rfl
  ·rw[n];show lS k.now.s.M.b.l k.now.s.M.b.a k.now.s.M.b.f 1=_
   rw[e1,e2,e3,c.2.2.2];push_cast;rfl
  ·show (k.now.s.M.s.ticks 1).w=_
   rw[zzA (s:=k.now.s.M.s) (s':=k0.s.M.s.ticks j) (i.w.trans h.w),Sd.ticks_add]
theorem zR(k0:Cs)(hb:BOk k0.s.M.b.l k0.s.M.b.a k0.s.M.b.f)(d:k0.s.M.b.f<=19000)(j:Nat)(c:j<=20000):Cs.runs k0 (k0.clocks j) j:=zcy k0 hb (by omega) j c
/-! ### how many samples -/
/-! ### which lines -/
/-! ### who is held, and waits -/
section
variable {l a f : Int}
end
theorem zuF{w:u}{B z n:Nat}{t:aJ}{v:π}{xs:List π}(h:w.ownsRow B t z v n xs)(l:0<n):∃ g a,v=κ (A ⟨g,0,G⟩) n a/\n<=a/\g<w.heap.size /\ ∀ j x,xs[j]?=A x->w.cell? ⟨g,j,G⟩=A x:=by
 rcases h.2 with⟨d,e1⟩|⟨g,a,f,d,hb,e,i,m,o,k⟩
 ·omega
 ·refine⟨g,a,d,i,(aa.1 e).1,λj x b=>?_⟩
  rw[<- k] at b;have c:j<n*z:=by
   have:=(ay.1 b).1;rw[bD] at this;omega
  rw[dN c,eu] at b;unfold World.cell?;simp[e,b]
def kO(w:u)(v:π)(n z:Nat)(xs:List π):Prop:=xs.length=n*z/\((n=0 /\ ∃ a c,v=κ a 0 c) \/ ∃ g o b,v=κ (A ⟨g,o,G⟩) n b/\n<=b/\g<w.heap.size /\ ∀ j x,xs[j]?=A x->w.cell? ⟨g,o+j,G⟩=A x)
theorem vT{w:u}{B z n:Nat}{t:aJ}{v:π}{xs:List π}(h:w.ownsRow B t z v n xs):∃ a c,v=κ a n c:=by
 rcases h.2 with⟨b,e1⟩|⟨g,d,e,b,_⟩
 ·exact⟨G,0,by rw[b,e1]⟩
 ·exact⟨_,_,b⟩
section
variable {w w1 : u} {v : π} {n z B : Nat} {xs : List π} {t : aJ}
theorem kO.kept(h:kO w v n z xs)(hb:Below w.heap.size w w1):kO w1 v n z xs:=by
 obtain⟨b,h|⟨g,o,a,h1,h2,h3,h4⟩⟩:=h
 ·exact⟨b,aj h⟩
 ·exact⟨b,ao ⟨g,o,a,h1,h2,Θ h3 hb.size,λj x c=>(hb.cell (p:=⟨g,o+j,G⟩) h3).trans (h4 j x c)⟩⟩
theorem kO.len(h:kO w v n z xs):∃ a c,v=κ a n c:=by
 obtain⟨_,⟨b,a,c,h1⟩|⟨g,o,d,h1,_⟩⟩:=h
 ·exact⟨a,c,by rw[b];exact h1⟩
 ·exact⟨_,_,h1⟩
theorem vU(h:w.ownsRow B t z v n xs):kO w v n z xs:=by
 refine⟨h.1,?_⟩;by_cases d:n=0
 ·obtain⟨a,c,e⟩:=vT h
  exact aj ⟨d,a,c,by rw[<- d];exact e⟩
 ·obtain⟨g,b,e,h1,h2,h3⟩:=zuF h (by omega)
  exact ao ⟨g,0,b,e,h1,h2,λj x f=>by rw[aX];exact h3 j x f⟩
end
theorem zgz{P:Program}{w:u}{t:aJ}{xs ys:Array π}(h:(binOp .eql t (ac xs) (ac ys)).run P w=.ok (ν Γ) w):(binOp .neq t (ac xs) (ac ys)).run P w=.ok (ν ξ) w:=by
 rw[dK] at h;rw[qc]
 revert h
 generalize Sem.run P (Op.equalIn 10000 t _ _) w=r;intro h;cases r with
 | ok b w' =>
  have e:Result.ok (Value.bool b) w'=.ok (ν Γ) w:=h
  injection e with e1 e2
  injection e1 with e3
  subst e3 e2;rfl
 | _=>cases h
theorem kO.range{w:u}{v:π}{n z:Nat}{xs:List π}(h:kO w v n z xs){i:Nat}(hi:i<n){row:List π}(b:∀(j:Nat) (θ:π),row[j]?=A θ->xs[i*z+j]?=A θ):∃ g o a,v=κ (A ⟨g,o,G⟩) n a/\g<w.heap.size/\w.rangeAt g (o+i*z) row:=by
 obtain⟨_,⟨d,_⟩|⟨g,o,a,h1,h2,h3,h4⟩⟩:=h
 ·omega
 ·exact⟨g,o,a,h1,h3,λj θ c=>by rw[dS];exact h4 _ _ (b j θ c)⟩
def CF(o:cG)(l:List Nat):Bool:=l.all λj=>o.after.toList.any λe=>Region.binds .any e && e.on == j
def row(o:cG)(l:List Nat):Option Nat × Option (Nat × Bool) × Op × Bool:=(o.dst,o.guard,o.op,CF o l)
end Go.Proofs.YthghjlinhokimaaGreatDoor
