/-
  Parts of a proof, joined.
-/
import Derived.Test.YthghjlinhokimaaGreatDoorZcA
import Derived.Test.YthghjlinhokimaaGreatDoorZc25
import Derived.Test.YthghjlinhokimaaGreatDoorZc27
set_option linter.all false
set_option maxRecDepth 100000
set_option maxHeartbeats 6400000
namespace Go.Proofs.YthghjlinhokimaaGreatDoor
open Go.ChangeShapes Go.WideShapes Go.ChangeAt Go.RowKit Go.Proofs.Tryz
def jM:List Lin->List Value
 | []=>[]
 | x::l=>.int .i64 x.f :: .int .i64 x.l::(bf x.px++jM l)
theorem zl2:∀(l k:List Lin),jM (l++k)=jM l++jM k
 | [],k=>rfl
 | x::l,k=>by simp only[jM,cQ,zl2 l k,bp]
structure CI (F : Fx) (N c : Nat) (vco vln vsm : Value) (w : World) (k : Cs) : Prop where
 i:BI F N w k.s
 cb:CB F N c vco vln vsm w
 co:bE F.B w vco k.co
 ok:∀ x∈k.co,x.ok
 ln:w.ownsRow N 68 18 vln k.ln.length (jM k.ln)
 sm:w.ownsRow N 5 1 vsm k.sm.length (dW k.sm)
section
variable {F : Fx} {N c : Nat} {vco vln vsm v' : Value} {w w1 : World} {k : Cs} {s' : Bst}
theorem fZ{t:TypeId}{z:Nat}{v:Value}{n:Nat}{xs:List Value}(h:w.ownsRow N t z v n xs):∀ j,v.ownBlock=some j->N<=j/\j<w.heap.size /\ ∃ cs,w.heap[j]?=some (.cells cs t (0,0)):=λj e=>by
 rcases h.2 with⟨a,_⟩|⟨g,c,d,a,hb,b,_⟩
 ·rw[a] at e;cases e
 ·rw[a] at e;cases e
  exact⟨hb,(ay.1 b).1,_,b⟩
theorem vd{t:TypeId}{z:Nat}{v:Value}{n:Nat}{xs:List Value}{s:Bst}(h:w.ownsRow N t z v n xs)(a:t≠104):∀ j,v.ownBlock=some j->¬ Tw (BT N) w s j:=λj e=>by
 obtain⟨h1,h2,cs,h3⟩:=fZ h j e;exact Tw.of (λx=>kl.2 h1 x) h3 a
theorem jN{t c:TypeId}{z:Nat}{v:Value}{n:Nat}{xs:List Value}(h:w.ownsRow N t z v n xs){b:Nat}{a:Array Value}{fr:Nat × Nat}(hb:w.heap[b]?=some (.cells a c fr))(d:t≠c):v.ownBlock≠some b:=λe=>by
 obtain⟨h1,h2,cs,h3⟩:=fZ h b e;rw[hb] at h3;simp only[aP,cP] at h3;exact d h3.2.1.symm
theorem CI.keep(a:Fb F N)(h:CI F N c vco vln vsm w k)(hb:Below w.heap.size w w1):CI F N c vco vln vsm w1 k :=
 ⟨h.i.kept a hb,h.cb.kept hb,h.co.kept (hb.mono h.i.big),h.ok,fF h.ln (λj e=>hb.block j (fZ h.ln j e).2.1),fF h.sm (λj e=>hb.block j (fZ h.sm j e).2.1)⟩
theorem CI.step(h:CI F N c vco vln vsm w k)(a:NM F N w k.s s' w1):CI F N c vco vln vsm w1 { k with s:=s' } :=
 ⟨a.i,a.cb h.cb,h.co.kept a.m.below,h.ok,fF h.ln (λj e=>a.m.block j (fZ h.ln j e).2.1 (vd h.ln (by decide) j e)),fF h.sm (λj e=>a.m.block j (fZ h.sm j e).2.1 (vd h.sm (by decide) j e))⟩
theorem CI.pressed{l:List Inp}(h:CI F N c vco vln vsm w k)(a:XP F N c vln vsm w k.s s' v' l w1)(f:∀ x∈l,x.ok):CI F N c v' vln vsm w1 { k with s:=s',co:=l } :=
 have d:∀ {t:TypeId} {z:Nat} {v:Value} {n:Nat} {xs:List Value},w.ownsRow N t z v n xs->t≠104->t≠91->∀ j,v.ownBlock=some j->w1.heap[j]?=w.heap[j]?:=λb h1 h2 j e =>
  a.km.m.block j (fZ b j e).2.1 (λy=>y.elim (λg=>jN b h.cb.blk h2 (by rw[e,g])) (vd b h1 j e))
 ⟨a.km.i,a.cb,a.co,f,fF h.ln (d h.ln (by decide) (by decide)),fF h.sm (d h.sm (by decide) (by decide))⟩
def Kp(N c:Nat)(w w1:World):Prop:=∀(j:Nat) (cs:Array Value) (t:TypeId) (fr:Nat × Nat),N<=j->j≠c->t≠104->t≠68->t≠5->w.heap[j]?=some (.cells cs t fr)->w1.heap[j]?=some (.cells cs t fr)
theorem Kp.trans{w2:World}(h:Kp N c w w1)(k:Kp N c w1 w2):Kp N c w w2:=λj cs t fr h1 h2 h3 h4 a b=>k j cs t fr h1 h2 h3 h4 a (h j cs t fr h1 h2 h3 h4 a b)
theorem Kp.of(h:Below w.heap.size w w1):Kp N c w w1:=λj cs t fr _ _ _ _ _ a=>(h.block j (ay.1 a).1).trans a
theorem Kp.set(i:Nat)(v:Value):Kp N c w (w.setCell ⟨c,i,none⟩ v):=λj cs t fr _ h2 _ _ _ a=>(dy h2 (v:=v)).trans a
theorem Kp.grown{a:TypeId}{z n:Nat}{v:Value}{xs:List Value}(d:a=68 \/ a=5)(f:w.ownsRow N a z v n xs)(g:w.grownBy w1 v.ownBlock):Kp N c w w1:=λj cs t fr _ _ _ h4 h b =>
 (g.block j (ay.1 b).1 (λe=>jN f b (by rcases d with rfl|rfl;exact λe=>h4 e.symm;exact λe=>h e.symm) e.symm)).trans b
theorem NM.kp{s:Bst}(h:NM F N w s s' w1):Kp N c w w1:=λj cs t fr h1 _ h3 _ _ a=>(h.m.block j (ay.1 a).1 (Tw.of (λx=>kl.2 h1 x) a h3)).trans a
theorem KM.kp{s:Bst}(h:KM F N c w s s' w1):Kp N c w w1:=λj cs t fr h1 h2 h3 _ _ a=>(h.m.block j (ay.1 a).1 (λy=>y.elim h2 (Tw.of (λx=>kl.2 h1 x) a h3))).trans a
theorem CI.big(a:Fb F N)(h:CI F N c vco vln vsm w k):F.B<=c:=h.cb.big h.i a
theorem CI.bigN(a:Fb F N)(h:CI F N c vco vln vsm w k):F.B<=N:=by
 obtain⟨v,hB⟩:=h.i.bd;have:=hB.nd.lo.1;have:=a.into.g;omega
theorem CI.grow3{v':Value}{xs:List UInt8}(b:Fb F N)(h:CI F N c vco vln vsm w k)(n:w1.ownsRow N 5 1 v' xs.length (dW xs))(d:w.grownBy w1 vsm.ownBlock):CI F N c vco vln v' (w1.setCell ⟨c,3,none⟩ v') { k with sm:=xs }/\Below F.B w (w1.setCell ⟨c,3,none⟩ v'):=by
 have o:=d.size;have m:some c≠vsm.ownBlock:=λe=>jN h.sm h.cb.blk (by decide) e.symm
 have a:CB F N c vco vln vsm w1:=h.cb.same (d.block c h.cb.z m);have hb:Below F.B w w1:=(aW F.B w).grown d h.i.big (λj e=>ax (h.bigN b) (fZ h.sm j e).1);have hi:BI F N w1 k.s:=h.i.keep b o (λj l=>d.block j (l.lt (λi hi=>ap hi h.i.N)) (λe=>vd h.sm (by decide) j e.symm l));have f:w1.ownsRow N 68 18 vln k.ln.length (jM k.ln):=fF h.ln (λj e=>by
  obtain⟨_,h2,cs,h3⟩:=fZ h.ln j e;exact d.block j h2 (λg=>jN h.sm h3 (by decide) g.symm))
 exact⟨⟨hi.keep b (by rw[iF];exact ak _) (λj l=>dy (λe=>a.out (by rw[<- e];exact l))),a.put3 _,(h.co.kept hb).kept (eQ (aW _ _) (h.big b) _),h.ok,fF f (λj e=>dy (λg=>jN f a.blk (by decide) (by rw[e,g]))),fF n (λj e=>dy (λg=>jN n a.blk (by decide) (by rw[e,g])))⟩,hb.setCell (h.big b) _⟩
theorem CI.grow2{g a:Nat}{xs:List Lin}(d:Fb F N)(h:CI F N c vco vln vsm w k)(p:w1.ownsRow N 68 18 (.slice (some ⟨g,0,none⟩) xs.length a) xs.length (jM xs))(f:w.grownBy w1 vln.ownBlock):CI F N c vco (.slice (some ⟨g,0,none⟩) xs.length a) vsm (w1.setCell ⟨c,2,none⟩ (.slice (some ⟨g,0,none⟩) xs.length a)) { k with ln:=xs }/\Below F.B w (w1.setCell ⟨c,2,none⟩ (.slice (some ⟨g,0,none⟩) xs.length a)):=by
 have q:=f.size;have o:some c≠vln.ownBlock:=λe=>jN h.ln h.cb.blk (by decide) e.symm
 have b:CB F N c vco vln vsm w1:=h.cb.same (f.block c h.cb.z o);have hb:Below F.B w w1:=(aW F.B w).grown f h.i.big (λj e=>ax (h.bigN d) (fZ h.ln j e).1);have hi:BI F N w1 k.s:=h.i.keep d q (λj n=>f.block j (n.lt (λi hi=>ap hi h.i.N)) (λe=>vd h.ln (by decide) j e.symm n));have l:w1.ownsRow N 5 1 vsm k.sm.length (dW k.sm):=fF h.sm (λj e=>by
  obtain⟨_,h2,cs,h3⟩:=fZ h.sm j e;exact f.block j h2 (λm=>jN h.ln h3 (by decide) m.symm))
 exact⟨⟨hi.keep d (by rw[iF];exact ak _) (λj n=>dy (λe=>b.out (by rw[<- e];exact n))),b.put2 _,(h.co.kept hb).kept (eQ (aW _ _) (h.big d) _),h.ok,fF p (λj e=>dy (λm=>jN p b.blk (by decide) (by rw[e,m]))),fF l (λj e=>dy (λm=>jN l b.blk (by decide) (by rw[e,m])))⟩,hb.setCell (h.big d) _⟩
end
section
variable {F : Fx} {N c : Nat} {vco vln vsm v' : Value} {w w1 : World} {k : Cs} {s' : Bst}
theorem zrK{W:World}{v:Value}{y:UInt8}(h:sliceAt W v [y]):∃ g o a,v=.slice (some ⟨g,o,none⟩) 1 a/\W.cell? ⟨g,o,none⟩=some (.int .u8 y.toNat)/\g<W.heap.size:=by
 rcases h with⟨_,_,_,e⟩|⟨g,o,a,h1,h2,h3,h4⟩
 ·cases e
 ·exact⟨g,o,a,h1,h4 0 y U,h3⟩
theorem xq{ops:Array Oper}{rest:List Oper}{o:Oper}{a:Act}{w:World}{aj:Exit->Act->World->Prop}(f:o.guard=none)(s x:Operand)(p:o.op=.call { callee:=.builtin .append,args:=#[s,x],argTypes:=#[26,26] })
 (B:Nat) (v:Value) (xs:List UInt8) (q:a.eval s=v) (e:w.ownsRow B 5 1 v xs.length (dW xs)) (g o' c:Nat) (y:UInt8) (r:a.eval x=.slice (some ⟨g,o',none⟩) 1 c) (hc:w.cell? ⟨g,o',none⟩=some (.int .u8 y.toNat)) (t:xs.length<=100000) (hB:B<=w.heap.size)
 (h:∀ g1 b w',w'.ownsRow B 5 1 (.slice (some ⟨g1,0,none⟩) (xs++[y]).length b) (xs++[y]).length (dW (xs++[y]))->w.grownBy w' v.ownBlock->g1<w'.heap.size->wpList prog ops aj rest (a.put o.dst (.slice (some ⟨g1,0,none⟩) (xs++[y]).length b)) w'):wpList prog ops aj (o::rest) a w:=by
 obtain⟨i0,i,k,l,m⟩:=info_parts zdV;have e1:(xs++[y]).length=xs.length+1:=by simp
 have e2:dW (xs++[y])=dW xs++[.int .u8 y.toNat]:=by simp[dW]
 rw[e1,e2] at h;refine wpList_append_lies w f s x _ p B 5 i0 _ 1 1 underlying26 i k l m U (by omega) v xs.length (dW xs) q e ⟨g,o',none⟩ 1 c [.int .u8 y.toNat] r U (λj u d=>?_) (λu n=>?_) (by omega) (by unfold maxLen;omega) (by omega) hB _ U (λg1 b w' h1 h2 _ h3=>h g1 b w' h1 h2 h3)
 ·match j,d with
  | 0,d =>
   simp only[aY,aP] at d;rw[<- d];exact hc
  | j+1,d=>simp at d
 ·simp only[ch] at n
  rw[n];rfl
theorem Lk.showSample(P:Fb F N)(h:CI F N c vco vln vsm w k)(R:k.sm.length<=100000):Calls prog 60 #[pt c 0] w λe w'=>e=.returned (.tuple #[])/\(∃ q,CI F N c vco vln q w' { k with sm:=k.sm++k.s.M.sample }/\Below F.B w w')/\Kp N c w w':=by
 obtain⟨v,hB⟩:=h.i.bd;obtain⟨M,T⟩:∃ M,M=k.s.M:=⟨_,U⟩
 rw[<- T] at hB ⊢;have k0:=h.cb.bx.at 0 _ U;have kz:=h.cb.z;have mz:=hB.bx.z;have HF:=hid P;have H:=hid h;have HB:=hid hB;have HL:=hid R;have V:Hid M.s.fit:={ hB.fit.s with w:=hB.fit.w }
 by_cases m:M.s.w=0
 ·have r:w.cell? ⟨F.g,60,none⟩=some (.int .i64 0):=by rw[<- m];exact hB.at 60 (.int .i64 M.s.w) U
  have t:M.sample=[sm M.s]:=by
   unfold Mach.sample;rw[Q m];show []++one M.s=_;unfold one;rw[Q m];rfl
  have e1:ku M.s 1=[sm M.s]:=by
   show []++one M.s=_;unfold one;rw[Q m];rfl
  rw[t];have W:=hid e1;clear P h hB R T m t e1;go_enter func60,ntmps60;go_upto_region 2 with(first
   | (refine wpList_load_mid U 36 _ U F.g 45 U (dA M.s) _ HB.out.sndR underlying36 U kJ ?_)
   | (go_at_call 64;refine(zfL M.s 1 _ V.out (by decide)).mono ?_;rintro e w2 ⟨v2,rfl,u,_,x⟩;have X:=hid x;have Y:=hid u;clear u x)
   | (refine wpList_store_mid U 36 _ _ U w2.heap.size 0 (dA (M.s.ticks 1)).toArray U U ((Bx.new w2 zs 36 (b:=w2.heap.size) U).there 0 16 (by simp[zs])) kJ (jP (M.s.ticks 1)) ?_
      refine Pl.cutL (λZ=>Below w.heap.size w Z/\sliceAt Z v2 (ku M.s 1)) ⟨bn X.out (Bl.puts (stA (J w2) _) (ak _) _),Y.out.kept (Bl.puts (stA (J w2) _) (ak _) _)⟩ ?_;rintro Z ⟨y,E⟩;have n:=hid y;have HZ2:=hid E;clear y E))
  have l:=hid (H.out.keep HF.out n.out);have o:=HZ2.out;rw[W.out] at o;obtain⟨g0,o0,I,rfl,d,hgz⟩:=zrK o;have HCE:=hid d;have k3:=l.out.cb.bx.at 3 vsm U;have kz2:=l.out.cb.z;clear o d k0 kz mz r;go_wp2_with (at_builtin;refine xq (by rfl) _ _ (by rfl) N _ k.sm (by rfl) l.out.sm g0 o0 I (sm M.s) (by rfl) HCE.out HL.out (ax l.out.i.N (ak _)) ?_;intro g1 cap1 W1 j p hz1;have HO1:=hid j;have L:=hid p;have a:=l.out.cb.same (p.block c l.out.cb.z (λe=>jN l.out.sm l.out.cb.blk (by decide) e.symm));have q3:=a.bx.at 3 vsm U;have qz:=a.z;have qf:=a.bx.f 3;clear a j p)
  go_end0;obtain⟨r1,r2⟩:=l.out.grow3 HF.out HO1.out L.out;rw[show (k.sm++[sm M.s]).length=k.sm.length+1 by simp] at r1 r2;exact⟨U,⟨_,r1,(n.out.mono H.out.i.big).trans r2⟩,(Kp.of n.out).trans ((Kp.grown (Or.inr U) l.out.sm L.out).trans (Kp.set 3 _))⟩
 ·have hw':(M.s.w == 0)=false:=by simpa using m
  have r:=hB.at 60 (.int .i64 M.s.w) U;have t:M.sample=[]:=G m;rw[t,bZ];clear P h hB R t T;go_enter func60,ntmps60;go_wp2;exact ao (v:=.tuple #[]) (by simp[results,results60,go_sem]) U ⟨U,⟨vsm,H.out,aW _ _⟩,Kp.of (aW _ _)⟩
end
abbrev eZ(f:Int)(y:Nat)(r:Nat->Nat):List Value:=[Value.int .i64 f,Value.int .i64 y]++bf r
theorem zff:(Tryz.prog.info? 66).map (·.size)=some 16:=by kernel_rfl
theorem row_one(f:Nat->Nat):(bf f).toArray.all (·.oneCell')=true:=all_oneCell_toArray (λv a=>by
 unfold bf at a;obtain⟨x,_,rfl⟩:=ex.1 a;rfl)
theorem ziG(f:Int)(y:Nat)(r:Nat->Nat)(w:World):(Instr.build 68 #[(0,.int .i64 f),(1,.int .i64 y),(2,.agg (bf r).toArray)]).run prog w=.ok (.agg (eZ f y r).toArray) w:=by kernel_rfl
theorem zfN(f:Int)(y:Nat)(r:Nat->Nat)(w:World):(Instr.buildSlice 44 1 #[(0,.agg (eZ f y r).toArray)]).run prog w=.ok (.slice (some ⟨w.heap.size,0,none⟩) 1 1) (w.alloc (.cells (eZ f y r).toArray 68)):=by kernel_rfl
theorem zfO:(Tryz.prog.info? 68).map (λi=>(i.zero,i.size,i.bytes))=some (some (.agg (eZ 0 0 λ_=>0).toArray),18,32):=by kernel_rfl
theorem sS{P:Program}{ops:Array Oper}{op:Oper}{a:Act}{w w1:World}{K:Act->World->Prop}{aj:Exit->Act->World->Prop}{E:Prop}{v:Value}(b:op.guard=none)(ty:TypeId)(n i:Nat)(x:Operand)(d:op.op=.buildSlice ty n #[(i,x)])(c:Value)(e:a.eval x=c)
 (f:(Instr.buildSlice ty n #[(i,c)]).run P w=.ok v w1) (h:K (a.put op.dst v) w1):if Region.wanted op (yielded ops a.tmps)=true then Oper.wp P op a w K aj else E:=by
 rw[Q (by simp[Region.wanted,b])];unfold Oper.wp;have:(execOp a.eval op).run P w=.ok (.value v) w1:=by
  unfold execOp;simp only[d,dj,bP,cB,e,fj,f,dx,fk]
 rw[this];exact h
theorem ziH(f:Int)(y:Nat)(r:Nat->Nat):(eZ f y r).length=1*18:=by simp[lh]
theorem sT(L:List Value)(w:World){t:TypeId}:∀ j u,L[j]?=some u->(w.alloc (.cells L.toArray t)).cell? ((⟨w.heap.size,0,none⟩:Addr).add j)=some u:=λj u a=>by
 rw[addr_add,aN];exact(Bx.new w L t (b:=w.heap.size) U).at j u a
theorem ziI(f:Int)(y:Nat)(r:Nat->Nat):∀ u∈(eZ f y r),u.oneCell'=true:=λu a=>by
 rcases bS.1 a with h|h
 ·simp only[aV,bJ,dG] at h
  rcases h with rfl|rfl <;> rfl
 ·unfold bf at h
  obtain⟨x,_,rfl⟩:=ex.1 h;rfl
section
variable {F : Fx} {N c : Nat} {vco vln vsm v' : Value} {w w1 : World} {k : Cs} {s' : Bst} {M : Mach} {y b pb : Nat} {Y Y' : World}
theorem zrL{g a:Nat}(h:w1.ownsRow N 68 18 (.slice (some ⟨g,0,none⟩) (k.ln.length+1) a) (k.ln.length+1) (jM k.ln++eZ M.b.f y (px M.video y))):w1.ownsRow N 68 18 (.slice (some ⟨g,0,none⟩) (k.ln++[(⟨M.b.f,y,px M.video y⟩:Lin)]).length a) (k.ln++[(⟨M.b.f,y,px M.video y⟩:Lin)]).length (jM (k.ln++[(⟨M.b.f,y,px M.video y⟩:Lin)])):=by
 have e1:(k.ln++[(⟨M.b.f,y,px M.video y⟩:Lin)]).length=k.ln.length+1:=by simp
 have e2:jM (k.ln++[(⟨M.b.f,y,px M.video y⟩:Lin)])=jM k.ln++eZ M.b.f y (px M.video y):=by rw[zl2];simp[jM]
 rw[e1,e2];exact h
structure LB (F : Fx) (N c : Nat) (vco vln vsm : Value) (k : Cs) (w : World) (M : Mach) (y : Nat) (Y : World) : Prop where
 ci:CI F N c vco vln vsm Y k
 low:Below w.heap.size w Y
 bx:Bx Y w.heap.size [.int .i64 y,.int .i64 M.b.a,.bool M.b.g,.int .i64 M.b.f]
 m:k.s.M=M
 lo:∀ j,vln.ownBlock=some j->j<w.heap.size
structure LC (F : Fx) (N c : Nat) (vco vln vsm : Value) (k : Cs) (w : World) (M : Mach) (y pb : Nat) (Y : World) : Prop extends LB F N c vco vln vsm k w M y Y where
 pix:Bx Y pb (bf (px M.video y))
 pz:w.heap.size<=pb
theorem LB.kept'(a:Fb F N)(h:LB F N c vco vln vsm k w M y Y)(hb:Below Y.heap.size Y Y'):LB F N c vco vln vsm k w M y Y':=⟨h.ci.keep a hb,bn h.low hb,h.bx.kept hb,h.m,h.lo⟩
theorem LC.kept'(a:Fb F N)(h:LC F N c vco vln vsm k w M y pb Y)(hb:Below Y.heap.size Y Y'):LC F N c vco vln vsm k w M y pb Y':=⟨h.toLB.kept' a hb,h.pix.kept hb,h.pz⟩
theorem LB.mm(h:LB F N c vco vln vsm k w M y Y):∃ g o a,Mm Y M.video F.S.vi g o a:=by
 obtain⟨v,hB⟩:=h.ci.i.bd;rw[h.m] at hB;exact Mm.of hB.vi.slice hB.fit.video
theorem LB.s2(h:LB F N c vco vln vsm k w M y Y):Y.cell? ⟨c,0,none⟩=some (pt F.g 0)/\Y.cell? ⟨F.g,34,none⟩=some F.S.vi/\Y.cell? ⟨w.heap.size,0,none⟩=some (.int .i64 y):=by
 obtain⟨v,hB⟩:=h.ci.i.bd;exact⟨h.ci.cb.bx.at 0 _ U,hB.at 34 _ U,h.bx.at 0 _ U⟩
theorem LC.s2(h:LC F N c vco vln vsm k w M y pb Y):Y.cell? ⟨c,0,none⟩=some (pt F.g 0)/\Y.cell? ⟨F.g,34,none⟩=some F.S.vi/\Y.cell? ⟨w.heap.size,0,none⟩=some (.int .i64 y):=h.toLB.s2
theorem LC.s3(h:LC F N c vco vln vsm k w M y pb Y):Y.cell? ⟨c,2,none⟩=some vln/\Y.cell? ⟨w.heap.size,3,none⟩=some (.int .i64 M.b.f)/\Y.cell? ⟨w.heap.size,0,none⟩=some (.int .i64 y)/\Y.rangeAt pb 0 (bf (px M.video y)) :=
 ⟨h.ci.cb.bx.at 2 _ rfl,h.bx.at 3 _ rfl,h.bx.at 0 _ rfl,h.pix.c⟩
theorem LC.of(a:Fb F N)(h:LB F N c vco vln vsm k w M y Y)(hb:Below Y.heap.size Y Y')(b:Bx Y' pb (bf (px M.video y)))(hp:w.heap.size<=pb):LC F N c vco vln vsm k w M y pb Y':=⟨h.kept' a hb,b,hp⟩
theorem zrM{W:World}{L:List Value}{f:Nat->Nat}(h:Bx W pb L)(a:L.length=16):Bx (W.setCells pb 0 (bf f)) pb (bf f):=by
 have:=h.puts 0 (bf f) (by rw[lh];omega);rw[jJ _ _ (by rw[lh,a])] at this;exact this
theorem LC.grown{W3:World}(h:LC F N c vco vln vsm k w M y pb Y)(a:Y.grownBy W3 vln.ownBlock):(W3.cell? ⟨c,2,none⟩=some vln/\W3.cell? ⟨w.heap.size,3,none⟩=some (.int .i64 M.b.f)/\W3.cell? ⟨w.heap.size,0,none⟩=some (.int .i64 y)/\W3.rangeAt pb 0 (bf (px M.video y)))/\W3.cell? ⟨c,2,none⟩=some vln/\c<W3.heap.size/\W3.frozen? ⟨c,2,none⟩=false:=by
 have hc:=h.ci.cb.same (a.block c h.ci.cb.z (λe=>jN h.ci.ln h.ci.cb.blk (by decide) e.symm));have hb:W3.heap[w.heap.size]?=Y.heap[w.heap.size]?:=a.block _ h.bx.z (λe=>by have:=h.lo _ e.symm;omega);have hp:W3.heap[pb]?=Y.heap[pb]?:=a.block _ h.pix.z (λe=>by have:=h.lo _ e.symm;have:=h.pz;omega);have d:=h.bx.same a.size hb;exact⟨⟨hc.bx.at 2 _ U,d.at 3 _ U,d.at 0 _ U,(h.pix.same a.size hp).c⟩,hc.bx.at 2 _ U,hc.z,hc.bx.f 2⟩
theorem LC.fin{W3:World}{g a:Nat}(j:Fb F N)(h:LC F N c vco vln vsm k w M y pb Y)(l:W3.ownsRow N 68 18 (.slice (some ⟨g,0,none⟩) (k.ln.length+1) a) (k.ln.length+1) (jM k.ln++eZ M.b.f y (px M.video y)))(e:Y.grownBy W3 vln.ownBlock)(hB:F.B<=w.heap.size):CI F N c vco (.slice (some ⟨g,0,none⟩) (k.ln.length+1) a) vsm (W3.setCell ⟨c,2,none⟩ (.slice (some ⟨g,0,none⟩) (k.ln.length+1) a)) { k with ln:=k.ln++[(⟨M.b.f,y,px M.video y⟩:Lin)] }/\Below F.B w (W3.setCell ⟨c,2,none⟩ (.slice (some ⟨g,0,none⟩) (k.ln.length+1) a))/\Kp N c w (W3.setCell ⟨c,2,none⟩ (.slice (some ⟨g,0,none⟩) (k.ln.length+1) a)):=by
 obtain⟨x,i⟩:∃ x:Lin,x=⟨M.b.f,y,px M.video y⟩:=⟨_,U⟩
 rw[<- i];have e1:(k.ln++[x]).length=k.ln.length+1:=by simp
 have d:W3.ownsRow N 68 18 (.slice (some ⟨g,0,none⟩) (k.ln++[x]).length a) (k.ln++[x]).length (jM (k.ln++[x])):=by
  rw[i];exact zrL l
 obtain⟨r1,r2⟩:=h.ci.grow2 (xs:=k.ln++[x]) j d e;rw[e1] at r1 r2;exact⟨r1,(h.low.mono hB).trans r2,(Kp.of h.low).trans ((Kp.grown (Or.inl U) h.ci.ln e).trans (Kp.set 2 _))⟩
theorem LB.start(d:Fb F N)(h:CI F N c vco vln vsm w k)(i:k.s.M=M):LB F N c vco vln vsm k w M y (w.alloc (.cells #[.int .i64 y,.int .i64 M.b.a,.bool M.b.g,.int .i64 M.b.f] 38)) :=
 ⟨h.keep d (stA (J w) _),stA (J w) _,Bx.new w [.int .i64 y,.int .i64 M.b.a,.bool M.b.g,.int .i64 M.b.f] _ rfl,i,λj e=>(fZ h.ln j e).2.1⟩
theorem Lk.showLine(hF:Fb F N)(h:CI F N c vco vln vsm w k)(hl:k.ln.length<=100000):Calls prog 59 #[pt c 0] w λe w'=>e=.returned (.tuple #[])/\(∃ vln',CI F N c vco vln' vsm w' { k with ln:=k.ln++k.s.M.line }/\Below F.B w w')/\Kp N c w w':=by
 obtain⟨v,hB⟩:=h.i.bd;obtain⟨M,hM⟩:∃ M,k.s.M=M:=⟨_,U⟩
 rw[hM] at hB ⊢;have k0:=h.cb.bx.at 0 _ U;have kz:=h.cb.z;have m61:=hB.at 61 (.int .i64 M.b.l) U;have m62:=hB.at 62 (.int .i64 M.b.a) U;have m63:=hB.at 63 (.bool M.b.g) U;have m64:=hB.at 64 (.int .i64 M.b.f) U;have mz:=hB.bx.z;have u:=hid hF;have H:=hid h;have HL:=hid hl;have hbl:=hB.fit.b.l0;by_cases ha:M.b.a=0
 ·rw[ha] at m62
  by_cases h8:M.b.l<8
  ·obtain⟨y,hy⟩:∃ y:Nat,M.b.l=y:=aB hbl
   have e0:M.line=[⟨M.b.f,y,px M.video y⟩]:=by
    unfold Mach.line;rw[Q ⟨ha,h8⟩,hy];rfl
   rw[e0];rw[hy] at m61 h8;have h8':y<8:=by omega
   have HY8:=hid h8';have hst:=LB.start (y:=y) hF h hM;rw[ha] at hst;have HST:=hid hst;have hya:¬ (8:Int)<=y:=by omega
   clear hF h hl hB hM e0 hst hbl h8 h8';go_enter func59,ntmps59;go_upto_region 2 with fail
   refine Pl.cutW (LB F N c vco vln vsm k w M y) ?_ ?_
   ·exact HST.out
   intro Y hY;have HLY:=hid hY.low;have HY:=hid (hY.kept' u.out (J Y).drew);clear hY HST k0 kz m61 m62 m63 m64 mz hya ha hy;refine wp_region_held_drew (S:=λw'=>w'.cell? ⟨c,0,none⟩=some (pt F.g 0)/\w'.cell? ⟨F.g,34,none⟩=some F.S.vi/\w'.cell? ⟨w.heap.size,0,none⟩=some (.int .i64 y)) (by kernel_rfl) (HY.out.s2) ?_;intro d;refine ee 0 ⟨some 21,_,_,_,_,none⟩ d ?_;simp only[Act.put,xA,xB,xC];refine ee 1 ⟨some 22,_,_,_,_,none⟩ d ?_;simp only[Act.put,xA,xB,xC];refine ee 2 ⟨some 23,_,_,_,_,none⟩ d ?_;simp only[Act.put,xA,xB,xC];refine ee 7 ⟨some 28,_,_,_,_,none⟩ d ?_;simp only[Act.put,xA,xB,xC];refine nW 3 (λ_ j=>j.1) d ?_;refine ee 4 ⟨some 25,_,_,_,_,none⟩ d ?_;simp only[Act.put,xA,xB,xC];refine ee 5 ⟨some 26,_,_,_,_,none⟩ d ?_;simp only[Act.put,xA,xB,xC];refine nW 6 (λ_ j=>j.2.1) d ?_;refine nW 8 (λ_ j=>j.2.2) d ?_;refine wpAnyH_ready (rs:=[9,13]) (by kernel_rfl) (by simp) ?_;refine AllReadyH.cons (o:=⟨some 30,_,_,_,_,none⟩) U (λK m=>?_) (AllReadyH.cons (o:=⟨some 3,_,_,_,_,none⟩) U (λK m=>?_) AllReadyH.nil)
   ·go_simp
    go_at_call 112
    obtain⟨gm,om,cm,I⟩:=HY.out.mm;refine(zrJ M.video F.S.vi gm om cm y _ I HY8.out).mono ?_;rintro e w2 ⟨rfl,q⟩;have HBw2:=hid (HY.out.kept' u.out q);clear q I;try go_wp2_with fail
    refine eP m HBw2.out.s2 (λ_=>?_);clear m K d;have d:=HBw2.out.s2;refine ee 10 ⟨some 20,_,_,_,_,none⟩ d ?_;simp only[Act.put,xA,xB,xC];refine ee 11 ⟨some 31,_,_,_,_,none⟩ d ?_;simp only[Act.put,xA,xB,xC];refine ee 12 ⟨some 32,_,_,_,_,none⟩ d ?_;simp only[Act.put,xA,xB,xC];refine dQ 13 (λK m=>?_);go_simp;have x:=hid (HBw2.out.kept' u.out (stA (J w2) (.cells (bf λ_=>0).toArray 66)));refine eP m (x.out.s2) (λ_=>?_);clear m K;clear d;have d:=x.out.s2;refine dQ 14 (λK m=>?_);refine lW U 66 _ _ U w2.heap.size 0 (bf (px M.video y)).toArray U U ((Bx.new w2 (bf λ_=>0) 66 (b:=w2.heap.size) U).there 0 16 (by rw[lh];decide)) zff (row_one _) ?_;have r:=hid (LC.of u.out HBw2.out (Bl.puts (o:=0) (stA (J w2) (.cells (bf λ_=>0).toArray 66)) (ak _) (bf (px M.video y))) (zrM (Bx.new w2 (bf λ_=>0) 66 (b:=w2.heap.size) U) (lh _)) HBw2.out.low.size);refine m.out _ _ (r.out.s2) (λ_=>?_);clear m K;clear d;have d:=r.out.s2
    refine ee 15 ⟨some 4,_,_,_,_,none⟩ d ?_;simp only[Act.put,xA,xB,xC];refine wpAnyH_done (by kernel_rfl) ?_ _;refine Pl.cutE (LC F N c vco vln vsm k w M y (w2.heap.size)) r.out ?_;intro Z hZ;have HZ:=hid (hZ.kept' u.out (J Z).drew);clear hZ r d;have d:=HZ.out.s3;go_wp2;refine mI (S:=λw'=>w'.cell? ⟨c,2,none⟩=some vln/\w'.cell? ⟨w.heap.size,3,none⟩=some (.int .i64 M.b.f)/\w'.cell? ⟨w.heap.size,0,none⟩=some (.int .i64 y)/\w'.rangeAt w2.heap.size 0 (bf (px M.video y))) (st:=17) (by kernel_rfl) ?_;refine bI 0 (λ_=>d) ?_;refine bI 1 (λ_=>d) ?_;refine bI 2 (λ_=>d) ?_;refine bI 3 (λ_=>d) ?_;refine bI 4 (λ_=>d) ?_;refine bI 6 (λ_=>d) ?_;refine bI 8 (λ_=>d) ?_;refine j1 [] 5 (λ_ j=>j.1) d ?_;refine j1 [] 7 (λ_ j=>j.2.1) d ?_;refine j1 [] 9 (λ_ j=>j.2.2.1) d ?_;refine nV [] 10 (.agg (bf (px M.video y)).toArray) U (λw' j=>kt 66 _ U (w2.heap.size) 0 U (bf (px M.video y)) _ j.2.2.2 underlying66 U (by rw[lh];exact zff)) d ?_
    refine kH (i:=11) (oi:=⟨some 44,_,_,_,_,none⟩) (v:=.agg (eZ M.b.f y (px M.video y)).toArray) U (by kernel_rfl) (by kernel_rfl) (by kernel_rfl) (by decide) (λ_ _ _ h=>h) (Or.inl ⟨by rfl,λw' _=>tO 68 0 1 2 _ _ _ U (.int .i64 M.b.f) (.int .i64 y) (.agg (bf (px M.video y)).toArray) (.agg (eZ M.b.f y (px M.video y)).toArray) U U U (ziG M.b.f y (px M.video y) w')⟩) (λ_=>d) ?_;simp only[Act.put,xA,xB,xC];refine fP 12 (λK m=>?_);refine sS U 44 1 0 _ U (.agg (eZ M.b.f y (px M.video y)).toArray) U (zfN M.b.f y (px M.video y) _) ?_;have n:=hid (HZ.out.kept' u.out (stA (J Z.drew) (.cells (eZ M.b.f y (px M.video y)).toArray 68)));refine gL m (λ_=>n.out.s3) ?_;clear m K;clear d;have d:=n.out.s3;refine fP 13 (λK m=>?_);obtain⟨i1,hj0,hy0,hy1,hy2⟩:=info_parts zfO;refine step_append_lies _ (by rfl) (.tmp 38) (.tmp 45) 44 (by rfl) N 68 i1 _ 18 32 underlying44 hj0 hy0 hy1 hy2 U (by omega) vln k.ln.length (jM k.ln) U n.out.ci.ln ⟨Z.heap.size,0,none⟩ 1 1 (eZ M.b.f y (px M.video y)) U (ziH _ _ _) (sT _ Z.drew) (ziI _ _ _) (by omega) (by unfold maxLen;have:=HL.out;omega) (by have:=HL.out;omega) (ax n.out.ci.i.N (ak _)) _ U ?_
    intro g1 L W3 p E P hz1;have R:=hid p;have T:=hid E;have t:=hid (n.out.grown E);clear p E P hz1;refine gL m (λ_=>t.out.1) ?_;clear m K;clear d;have d:=t.out.1;refine bI 14 (λ_=>d) ?_;refine bI 15 (λ_=>d) ?_;refine bI 16 (λ_=>d) ?_;obtain⟨q2,qz,qf⟩:=t.out.2;refine fP 17 (λK m=>?_);go_simp;refine m.out _ _ (λh=>by simp at h) ?_;clear m K;refine lL (by kernel_rfl) ?_ _;obtain⟨r1,r2,r3⟩:=LC.fin u.out n.out R.out T.out H.out.i.big;refine Pl.cutE (λV=>CI F N c vco (.slice (some ⟨g1,0,none⟩) (k.ln.length+1) L) vsm V { k with ln:=k.ln++[⟨M.b.f,y,px M.video y⟩] }/\Below F.B w V/\Kp N c w V) ⟨r1,r2,r3⟩ ?_;rintro V ⟨W,X,hV3⟩;have HV1:=hid W;have HV2:=hid X;have HV3:=hid hV3;clear W X hV3 r1 r2 r3 n R T t HZ q2 qz qf d;go_wp2;go_end0;exact⟨U,⟨_,HV1.out,HV2.out⟩,HV3.out⟩
   ·go_simp
    have x:=hid (HY.out.kept' u.out (stA (J Y.drew) (.cells (bf λ_=>0).toArray 66)));have HBN:=hid (Bx.new Y.drew (bf λ_=>0) 66 (b:=Y.heap.size) U);refine eP m x.out.s2 (λ_=>?_);clear m K d;have d:=x.out.s2;refine dQ 9 (λK m=>?_);go_simp;go_at_call 112
    obtain⟨gm,om,cm,I⟩:=x.out.mm;refine(zrJ M.video F.S.vi gm om cm y _ I HY8.out).mono ?_;rintro e w2 ⟨rfl,q⟩;have HBw2:=hid (x.out.kept' u.out q);have HQw2:=hid q;clear q I;try go_wp2_with fail
    have HBO:=hid (HBN.out.kept HQw2.out);refine eP m (HBw2.out.s2) (λ_=>?_);clear m K;clear d;have d:=HBw2.out.s2;refine ee 10 ⟨some 20,_,_,_,_,none⟩ d ?_;simp only[Act.put,xA,xB,xC];refine ee 11 ⟨some 31,_,_,_,_,none⟩ d ?_;simp only[Act.put,xA,xB,xC];refine ee 12 ⟨some 32,_,_,_,_,none⟩ d ?_;simp only[Act.put,xA,xB,xC];refine dQ 14 (λK m=>?_);refine lW U 66 _ _ U Y.heap.size 0 (bf (px M.video y)).toArray U U (HBO.out.there 0 16 (by rw[lh];decide)) zff (row_one _) ?_;have r:=hid (LC.of u.out HY.out (Bl.puts (o:=0) (bn (stA (J Y.drew) (.cells (bf λ_=>0).toArray 66)) HQw2.out) (ak _) (bf (px M.video y))) (zrM HBO.out (lh _)) HLY.out.size);refine m.out _ _ (r.out.s2) (λ_=>?_);clear m K;clear d;have d:=r.out.s2;refine ee 15 ⟨some 4,_,_,_,_,none⟩ d ?_;simp only[Act.put,xA,xB,xC];refine wpAnyH_done (by kernel_rfl) ?_ _;refine Pl.cutE (LC F N c vco vln vsm k w M y (Y.heap.size)) r.out ?_;intro Z hZ
    have HZ:=hid (hZ.kept' u.out (J Z).drew);clear hZ r d;have d:=HZ.out.s3;go_wp2;refine mI (S:=λw'=>w'.cell? ⟨c,2,none⟩=some vln/\w'.cell? ⟨w.heap.size,3,none⟩=some (.int .i64 M.b.f)/\w'.cell? ⟨w.heap.size,0,none⟩=some (.int .i64 y)/\w'.rangeAt Y.heap.size 0 (bf (px M.video y))) (st:=17) (by kernel_rfl) ?_;refine bI 0 (λ_=>d) ?_;refine bI 1 (λ_=>d) ?_;refine bI 2 (λ_=>d) ?_;refine bI 3 (λ_=>d) ?_;refine bI 4 (λ_=>d) ?_;refine bI 6 (λ_=>d) ?_;refine bI 8 (λ_=>d) ?_;refine j1 [] 5 (λ_ j=>j.1) d ?_;refine j1 [] 7 (λ_ j=>j.2.1) d ?_;refine j1 [] 9 (λ_ j=>j.2.2.1) d ?_;refine nV [] 10 (.agg (bf (px M.video y)).toArray) U (λw' j=>kt 66 _ U (Y.heap.size) 0 U (bf (px M.video y)) _ j.2.2.2 underlying66 U (by rw[lh];exact zff)) d ?_;refine kH (i:=11) (oi:=⟨some 44,_,_,_,_,none⟩) (v:=.agg (eZ M.b.f y (px M.video y)).toArray) U (by kernel_rfl) (by kernel_rfl) (by kernel_rfl) (by decide) (λ_ _ _ h=>h) (Or.inl ⟨by rfl,λw' _=>tO 68 0 1 2 _ _ _ U (.int .i64 M.b.f) (.int .i64 y) (.agg (bf (px M.video y)).toArray) (.agg (eZ M.b.f y (px M.video y)).toArray) U U U (ziG M.b.f y (px M.video y) w')⟩) (λ_=>d) ?_
    simp only[Act.put,xA,xB,xC];refine fP 12 (λK m=>?_);refine sS U 44 1 0 _ U (.agg (eZ M.b.f y (px M.video y)).toArray) U (zfN M.b.f y (px M.video y) _) ?_;have n:=hid (HZ.out.kept' u.out (stA (J Z.drew) (.cells (eZ M.b.f y (px M.video y)).toArray 68)));refine gL m (λ_=>n.out.s3) ?_;clear m K;clear d;have d:=n.out.s3;refine fP 13 (λK m=>?_);obtain⟨i1,hj0,hy0,hy1,hy2⟩:=info_parts zfO;refine step_append_lies _ (by rfl) (.tmp 38) (.tmp 45) 44 (by rfl) N 68 i1 _ 18 32 underlying44 hj0 hy0 hy1 hy2 U (by omega) vln k.ln.length (jM k.ln) U n.out.ci.ln ⟨Z.heap.size,0,none⟩ 1 1 (eZ M.b.f y (px M.video y)) U (ziH _ _ _) (sT _ Z.drew) (ziI _ _ _) (by omega) (by unfold maxLen;have:=HL.out;omega) (by have:=HL.out;omega) (ax n.out.ci.i.N (ak _)) _ U ?_;intro g1 L W3 p E P hz1;have R:=hid p;have T:=hid E;have t:=hid (n.out.grown E);clear p E P hz1;refine gL m (λ_=>t.out.1) ?_;clear m K;clear d;have d:=t.out.1
    refine bI 14 (λ_=>d) ?_;refine bI 15 (λ_=>d) ?_;refine bI 16 (λ_=>d) ?_;obtain⟨q2,qz,qf⟩:=t.out.2;refine fP 17 (λK m=>?_);go_simp;refine m.out _ _ (λh=>by simp at h) ?_;clear m K;refine lL (by kernel_rfl) ?_ _;obtain⟨r1,r2,r3⟩:=LC.fin u.out n.out R.out T.out H.out.i.big;refine Pl.cutE (λV=>CI F N c vco (.slice (some ⟨g1,0,none⟩) (k.ln.length+1) L) vsm V { k with ln:=k.ln++[⟨M.b.f,y,px M.video y⟩] }/\Below F.B w V/\Kp N c w V) ⟨r1,r2,r3⟩ ?_;rintro V ⟨W,X,hV3⟩;have HV1:=hid W;have HV2:=hid X;have HV3:=hid hV3;clear W X hV3 r1 r2 r3 n R T t HZ q2 qz qf d;go_wp2;go_end0;exact⟨U,⟨_,HV1.out,HV2.out⟩,HV3.out⟩
  ·have e0:M.line=[]:=G (λe=>h8 e.2)
   rw[e0,bZ];have h8':(8:Int)<=M.b.l:=by omega
   clear hF h hl hB hM e0 h8;go_enter func59,ntmps59;go_wp2;exact ao (v:=.tuple #[]) (by simp[results,results59,go_sem]) U ⟨U,⟨vln,H.out.keep u.out (stA (J w) _),(stA (J w) _).mono H.out.i.big⟩,Kp.of (stA (J w) _)⟩
 ·have e0:M.line=[]:=G (λe=>ha e.1)
  rw[e0,bZ];have ha':(M.b.a == 0)=false:=by simpa using ha
  clear hF h hl hB hM e0 hbl;go_enter func59,ntmps59;go_wp2;exact ao (v:=.tuple #[]) (by simp[results,results59,go_sem]) U ⟨U,⟨vln,H.out.keep u.out (stA (J w) _),(stA (J w) _).mono H.out.i.big⟩,Kp.of (stA (J w) _)⟩
end
section
variable {F : Fx} {N c : Nat} {vco vln vsm v' : Value} {w w1 : World} {k : Cs} {s s' : Bst}
theorem ve(s:Bst):s.stepMain.l=s.l:=by
 unfold Bst.stepMain;split
 ·rfl
 ·show (C.step bD s.M.main ⟨s.M,0,s.l⟩ (s.M.t.g || s.M.b.g)).s.l=s.l
  exact C.keeps_step (m:=bD) (P:=λx=>x.l=s.l) (λx a h=>h) (λx a b h=>h) _ _ _ U
theorem zrN(a:Fb F N)(s:Bst)(h:s.l.length<=1000000):s.stepAux.l.length<=s.l.length+4:=by
 unfold Bst.stepAux;split
 ·omega
 ·show (C.step bY s.M.aux s s.M.rung).s.l.length<=s.l.length+4
  have b:=C.fuel_step (znA a).frd (znA a).fwr s.M.aux s s.M.rung;have c:1000000001-s.l.length<=1000000001-(C.step bY s.M.aux s s.M.rung).s.l.length+4:=b;omega
theorem zj0(M:Mach):∀(l:List Inp),(∀ x∈l,x.ok)->∀ x∈M.coming l,x.ok
 | [],h=>h
 | y::l,h=>by
  unfold Mach.coming;split
  ·exact zj0 M l (λx a=>h x (bq _ a))
  ·exact h
theorem Lk.nowK(hF:Fb F N)(h:CI F N c vco vln vsm w k)(h1:k.ln.length<=100000)(h2:k.sm.length<=100000)(h3:k.s.l.length<=1000000):Calls prog 32 #[pt c 0] w λe w'=>e=.returned (.tuple #[])/\(∃ j o p,CI F N c j o p w' k.now/\Below F.B w w')/\Kp N c w w':=by
 have q:=hid hF;have H:=hid h;have H1:=hid h1;have H2:=hid h2;have H3:=hid h3;clear hF h h1 h2 h3;go_enter func32,ntmps32;go_wp2_with (first
  | (go_at_call 58;refine(Lk.press (M:=k.s.M) (n:=k.s.n) (l:=k.s.l) q.out H.out.i H.out.cb H.out.co H.out.ok).mono ?_;rintro e w1 ⟨rfl,v1,a⟩;have z:=hid (H.out.pressed a (zj0 _ _ H.out.ok));have E:=hid a.km.m.below;have I:Hid (Kp N c w w1):=hid a.km.kp;clear a)
  | (go_at_call 59;refine(Lk.showLine q.out z.out H1.out).mono ?_;rintro e w2 ⟨rfl,⟨v2,r,t⟩,u⟩;have L:=hid r;have P:=hid t;have R:=hid u;clear r t u)
  | (go_at_call 60;refine(Lk.showSample q.out L.out H2.out).mono ?_;rintro e w3 ⟨rfl,⟨v3,v,x⟩,y⟩;have f:=hid v;have T:=hid x;have V:=hid y;clear v x y)
  | (go_at_call 61;refine(Lk.stepMain q.out f.out.i f.out.cb).mono ?_;rintro e w4 ⟨rfl,b⟩;have g:=hid (f.out.step b);have W:=hid b.m.below;have X:Hid (Kp N c w3 w4):=hid b.kp;clear b)
  | (go_at_call 62;refine(Lk.stepAux q.out g.out.i g.out.cb (by show (Bst.stepMain _).l.length<=1000000;rw[ve];exact H3.out)).mono ?_;rintro e w5 ⟨rfl,d⟩;have Y:=hid (g.out.step d);have Z:=hid d.m.below;have HK5:Hid (Kp N c w4 w5):=hid d.kp;clear d))
 go_end0;exact⟨U,⟨v1,v2,v3,Y.out,(((E.out.trans P.out).trans T.out).trans W.out).trans Z.out⟩,(((I.out.trans R.out).trans V.out).trans X.out).trans HK5.out⟩
theorem Lk.now(f:Fb F N)(h:CI F N c vco vln vsm w k)(h1:k.ln.length<=100000)(h2:k.sm.length<=100000)(h3:k.s.l.length<=1000000):Calls prog 32 #[pt c 0] w λe w'=>e=.returned (.tuple #[]) /\ ∃ a b d,CI F N c a b d w' k.now/\Below F.B w w':=by
 refine(Lk.nowK f h h1 h2 h3).mono ?_;rintro e w' ⟨h1,h2,_⟩;exact⟨h1,h2⟩
end
def chkL:List Inp->Int->Int
 | [],_=>0
 | x::l,a=>if x.c<a \/ 400000<x.c then 3 else if x.p=0 \/ x.p=1 then chkL l x.c else 5
def chkIn(l:List Inp)(a:Int):Int:=if 40<l.length then 2 else chkL l a
theorem qx:∀(l:List Inp) (a:Int),chkL l a=0->∀ x∈l,(x.p=0 \/ x.p=1)/\a<=x.c
 | [],_,_=>λx b=>by cases b
 | y::l,a,h=>λx b=>by
  unfold chkL at h;split at h
  ·cases h
  ·rename_i h1
   split at h
   ·rename_i h2
    rcases aV.1 b with rfl|b
    ·exact⟨h2,by omega⟩
    ·obtain⟨e1,e2⟩:=qx l y.c h x b
     exact⟨e1,by omega⟩
   ·cases h
theorem chk3{x:Inp}{l:List Inp}{a:Int}(h:x.c<a \/ 400000<x.c):chkL (x::l) a=3:=Q h
theorem chk0{x:Inp}{l:List Inp}{a:Int}(h:¬ (x.c<a \/ 400000<x.c))(hp:x.p=0 \/ x.p=1):chkL (x::l) a=chkL l x.c:=(G h).trans (Q hp)
theorem chk5{x:Inp}{l:List Inp}{a:Int}(h:¬ (x.c<a \/ 400000<x.c))(hp:¬ (x.p=0 \/ x.p=1)):chkL (x::l) a=5:=(G h).trans (G hp)
theorem bE.at'{B:Nat}{w:World}{v:Value}{l:List Inp}(h:bE B w v l){j:Nat}{x:Inp}(a:l[j]?=some x):∃ g o k,v=.slice (some ⟨g,o,none⟩) l.length k/\g<w.heap.size/\w.cell? ⟨g,o+j*3,none⟩=some (.int .i64 x.c)/\w.cell? ⟨g,o+j*3+1,none⟩=some (.int .i64 x.p)/\w.cell? ⟨g,o+j*3+2,none⟩=some (.int .u8 x.d):=by
 rcases h with⟨rfl,_⟩|⟨g,o,k,h1,h2,h3,h4,b⟩
 ·simp at a
 ·obtain⟨e1,e2,e3⟩:=b j x a
  rw[eu 3 j] at e1 e2 e3;exact⟨g,o,k,h1,h4,e1,e2,e3⟩
theorem Lk.checkInputs(l:List Inp)(v:Value)(B:Nat)(a:Int)(w:World)(h:bE B w v l)(hB:B<=w.heap.size):Calls prog 57 #[v,.int .i64 a] w λe w'=>e=.returned (.int .i64 (chkIn l a))/\Below w.heap.size w w':=by
 obtain⟨a1,k1,e1⟩:=h.len;subst e1;by_cases I:40<l.length
 ·have y:(40:Int)<l.length:=by omega
  have r:chkIn l a=2:=Q I;rw[r];clear h r;go_enter func57,ntmps57;go_wp2;go_ret;exact⟨U,J w⟩
 ·have y:¬ (40:Int)<l.length:=by omega
  have r:chkIn l a=chkL l a:=G I;rw[r];have H:=hid h;clear h r;go_enter func57,ntmps57;go_wp2;go_loopw [14,5] (λi P wr=>∃(j:Nat) (f:Int),j<=l.length/\i=.int .i64 j/\P=.int .i64 f/\chkL (l.drop j) f=chkL l a/\Below w.heap.size w wr) (λi _ _=>l.length-(intOf i).toNat)
  case atStart=>exact⟨0,a,aU _,U,U,U,J w⟩
  case round =>
   obtain⟨j,f,hj,rfl,rfl,z,hb⟩:=hrel;have m:=hid z;have n:=hid hb;by_cases b:j<l.length
   ·obtain⟨x,u⟩:∃ x,l[j]?=some x:=⟨_,au b⟩
    have L:l.drop j=x::l.drop (j+1):=by
     rw[cf b];congr 1;rw[au b] at u;exact aH u
    have M:=(H.out.kept (hb.mono hB))
    obtain⟨g,o,k,R,gz,x0,x1,x2⟩:=M.at' u;cases R;have T:(j:Int)<l.length:=by omega
    have V:(0:Int)<=j:=by omega
    have s:=hid L;clear z hb L u M;by_cases q1:x.c<f
    ·go_wp2
     go_ret;exact⟨by rw[<- m.out,s.out,chk3 (Or.inl q1)];rfl,stA n.out _⟩
    ·have W:f<=x.c:=by omega
     by_cases N:400000<x.c
     ·go_wp2
      go_ret;exact⟨by rw[<- m.out,s.out,chk3 (Or.inr N)];rfl,stA n.out _⟩
     ·have X:x.c<=400000:=by omega
      have E:Hid (¬ (x.c<f \/ 400000<x.c)):=λe=>e.elim (λe=>by omega) (λe=>by omega)
      clear q1 N;by_cases d:x.p=0
      ·have t:=hid d
       rw[d] at x1;clear d;go_wp2;exact⟨⟨j+1,x.c,by omega,by simp,U,by rw[<- m.out,s.out,chk0 E.out (Or.inl t.out)],stA n.out _⟩,by simp[intOf];omega⟩
      ·by_cases q:x.p=1
       ·have t:=hid q
        rw[q] at x1;clear d q;go_wp2;exact⟨⟨j+1,x.c,by omega,by simp,U,by rw[<- m.out,s.out,chk0 E.out (Or.inr t.out)],stA n.out _⟩,by simp[intOf];omega⟩
       ·have t:Hid (¬ (x.p=0 \/ x.p=1)):=λe=>e.elim d q
        have Y:(x.p != 0)=true:=by simpa using d
        have Z:(x.p != 1)=true:=by simpa using q
        clear d q;go_wp2;all_goals first
         | (exfalso;simp_all;done)
         | (go_ret;exact⟨by rw[<- m.out,s.out,chk5 E.out t.out];rfl,stA n.out _⟩)
   ·have F:j=l.length:=by omega
    subst F;have hnl:¬ (l.length:Int)<l.length:=by omega
    clear z hb;go_wp2;go_ret;refine⟨?_,n.out⟩;have:=m.out;rw[di] at this;rw[<- this];rfl
def bF(M:Mach)(l:List Inp)(n:Int):Int:=if M.chk=0 then (if chkIn l M.clock=0 then (if 0<=n/\n<=20000/\M.clock+n<=200000 then 0 else 3) else chkIn l M.clock) else M.chk
theorem zeh{w:World}(h:aZ w):2<w.heap.size:=aG w ⟨2,0*3,none⟩ (h 0 (by omega)).1
theorem zyj{l:List Inp}{a:Int}(h:chkIn l a=0)(c:∀ x∈l,0<=x.d/\x.d<=255):∀ x∈l,x.ok:=λx b=>by
 unfold chkIn at h;split at h
 ·cases h
 ·exact⟨(qx l a h x b).1,c x b⟩
theorem bE.mono{B a:Nat}{w:World}{v:Value}{l:List Inp}(h:bE B w v l)(hB:B<=a):bE a w v l:=by
 rcases h with h|⟨g,o,k,h1,h2,h3,h4⟩
 ·exact Or.inl h
 ·exact Or.inr ⟨g,o,k,h1,h2,ap h3 hB,h4⟩
theorem zpc(M:Mach)(S:Sl)(v:Value)(l:List Inp)(n:Int)(w:World)(V:bM w S M)(m:aZ w)(k:bE w.heap.size w v l)(W:∀ x∈l,0<=x.d/\x.d<=255)(E:M.fit)(o:M.b.f<=20000)(hc:chkIn l M.clock=0)(Z:0<=n/\n<=20000/\M.clock+n<=200000):Calls prog 31 #[.agg (D M S).toArray,v,.int .i64 n] w λe w'=>∃(F:Fx) (N c:Nat),e=.returned (.tuple #[pt c 0,.int .i64 0])/\Fb F N/\w.heap.size<=F.B/\(F.B<=F.mr/\F.B<=F.ar)/\CI F N c v (.slice none 0 0) (.slice none 0 0) w' ⟨⟨M,0,[]⟩,l,[],[]⟩/\Below w.heap.size w w':=by
 have hB:=Bx.new w (D M S) 41 (b:=w.heap.size) U;have p:=hid hB;have X:=hid (V.kept (stA (J w) (.cells (D M S).toArray 41)));have q:=hid m;have r:=hid k;have HD:=hid W;have HF:=hid E;have H:=hid o;have Y:=hid hc;obtain⟨hn0,hn1,hn2⟩:=Z;have hcl:=E.clock;obtain⟨a1,k1,e1⟩:=k.len;subst e1;have hwr:IntKind.i64.wrap (M.clock+n)=M.clock+n:=by rw[aI];omega
 clear hB V m k W E o hc;go_enter func31,ntmps31;go_wp2_with (first
  | (refine wpList_load_mid U 41 _ U w.heap.size 0 U (D M S) _ p.out.c underlying41 U bV ?_)
  | (go_at_call 56;refine(sI M S _ X.out.lens X.out HF.out H.out).mono ?_;rintro e w1 ⟨F,s,rfl,t,u,h⟩;have I:=hid s;have L:=hid t;have y:=hid u;have a:=hid h;have m72:=(p.out.kept h).at 72 (.int .i64 M.clock) U;have z72:=(p.out.kept h).z;clear s t u h)
  | (go_at_call 57;refine(Lk.checkInputs l _ w.heap.size M.clock _ (r.out.kept ((bn (stA (J w) _) a.out))) (bn (stA (J w) (.cells (D M S).toArray 41)) a.out).size).mono ?_;rw[Y.out];rintro e w2 ⟨rfl,i⟩;have j:=hid i;have n72:=((p.out.kept a.out).kept i).at 72 (.int .i64 M.clock) U;have y72:=((p.out.kept a.out).kept i).z;clear i))
 have hBF:w.heap.size+1=F.B:=by have:=I.out;simp at this;omega
 have P:Below w.heap.size w (w2.alloc (.cells #[pt F.g 0,.slice a1 l.length k1,.slice none 0 0,.slice none 0 0,.slice none 0 0,pt F.g 0] 91)):=stA (bn (bn (stA (J w) _) a.out) j.out) _;have R:=zeh q.out;have T:=a.out.size;simp at T
 go_ret2
 refine⟨F,w1.heap.size,w2.heap.size,U,⟨y.out.into,by omega,by omega⟩,by omega,L.out,⟨⟨ax j.out.size (by simp),rt q.out (P.block _ R),iO 0,.slice none 0 0,(y.out.kept j.out).over _⟩,⟨j.out.size,aJ w2 _⟩,(r.out.kept P).mono (by omega),zyj Y.out HD.out,cW _ _ _ _,cW _ _ _ _⟩,P⟩
theorem zl4(M:Mach)(S:Sl)(v:Value)(l:List Inp)(n:Int)(w:World)(N:bM w S M)(P:∀ j,j<5->(M.byt j).length<=9223372036854775807)(p:M.ok)(o:bE w.heap.size w v l)(hn:-9223372036854775808<=n/\n<=9223372036854775807)(R:bF M l n≠0):Calls prog 31 #[.agg (D M S).toArray,v,.int .i64 n] w λe w'=>e=.returned (.tuple #[.pointer none,.int .i64 (bF M l n)])/\Below w.heap.size w w':=by
 have hB:=Bx.new w (D M S) 41 (b:=w.heap.size) U;have g:=hid hB;have r:=hid (N.kept (stA (J w) (.cells (D M S).toArray 41)));have s:=hid o;have Z:=hid P;obtain⟨a1,k1,e1⟩:=o.len;subst e1;by_cases hc:M.chk=0
 ·have T:=rq p hc
  have V:=hid T;have t:=hid (zfE hc);have B:=T.clock;by_cases hi:chkIn l M.clock=0
  ·have u:¬ (0<=n/\n<=20000/\M.clock+n<=200000):=λe=>R (by unfold bF;rw[Q hc,Q hi,Q e])
   have x:bF M l n=3:=by unfold bF;rw[Q hc,Q hi,G u]
   rw[x];have L:=hid hi;clear hB N o hc T hi R x P p;by_cases Y:n<0
   ·clear u B
    go_enter func31,ntmps31;go_wp2_with (first
     | (refine wpList_load_mid U 41 _ U w.heap.size 0 U (D M S) _ g.out.c underlying41 U bV ?_)
     | (go_at_call 56;refine(sI M S _ r.out.lens r.out V.out t.out).mono ?_;rintro e w1 ⟨F,h,rfl,i,k,d⟩;have a:=hid d;have E:=(g.out.kept d).at 72 (.int .i64 M.clock) U;have z72:=(g.out.kept d).z;clear h i k d)
     | (go_at_call 57;refine(Lk.checkInputs l _ w.heap.size M.clock _ (s.out.kept ((bn (stA (J w) _) a.out))) (bn (stA (J w) (.cells (D M S).toArray 41)) a.out).size).mono ?_;rw[L.out];rintro e w2 ⟨rfl,f⟩;have m:=hid f;have H:=((g.out.kept a.out).kept f).at 72 (.int .i64 M.clock) U;have I:=((g.out.kept a.out).kept f).z;clear f))
    go_ret2
    exact⟨U,bn (bn (stA (J w) _) a.out) m.out⟩
   ·by_cases h1:20000<n
    ·have W:0<=n:=by omega
     clear u B Y;go_enter func31,ntmps31;go_wp2_with (first
      | (refine wpList_load_mid U 41 _ U w.heap.size 0 U (D M S) _ g.out.c underlying41 U bV ?_)
      | (go_at_call 56;refine(sI M S _ r.out.lens r.out V.out t.out).mono ?_;rintro e w1 ⟨F,h,rfl,i,k,d⟩;have a:=hid d;have E:=(g.out.kept d).at 72 (.int .i64 M.clock) U;have z72:=(g.out.kept d).z;clear h i k d)
      | (go_at_call 57;refine(Lk.checkInputs l _ w.heap.size M.clock _ (s.out.kept ((bn (stA (J w) _) a.out))) (bn (stA (J w) (.cells (D M S).toArray 41)) a.out).size).mono ?_;rw[L.out];rintro e w2 ⟨rfl,f⟩;have m:=hid f;have H:=((g.out.kept a.out).kept f).at 72 (.int .i64 M.clock) U;have I:=((g.out.kept a.out).kept f).z;clear f))
     go_ret2
     exact⟨U,bn (bn (stA (J w) _) a.out) m.out⟩
    ·have W:0<=n:=by omega
     have h1':n<=20000:=by omega
     have h2':200000<M.clock+n:=by omega
     have hwr:IntKind.i64.wrap (M.clock+n)=M.clock+n:=by rw[aI];omega
     clear u Y h1;go_enter func31,ntmps31;go_wp2_with (first
      | (refine wpList_load_mid U 41 _ U w.heap.size 0 U (D M S) _ g.out.c underlying41 U bV ?_)
      | (go_at_call 56;refine(sI M S _ r.out.lens r.out V.out t.out).mono ?_;rintro e w1 ⟨F,h,rfl,i,k,d⟩;have a:=hid d;have E:=(g.out.kept d).at 72 (.int .i64 M.clock) U;have z72:=(g.out.kept d).z;clear h i k d)
      | (go_at_call 57;refine(Lk.checkInputs l _ w.heap.size M.clock _ (s.out.kept ((bn (stA (J w) _) a.out))) (bn (stA (J w) (.cells (D M S).toArray 41)) a.out).size).mono ?_;rw[L.out];rintro e w2 ⟨rfl,f⟩;have m:=hid f;have H:=((g.out.kept a.out).kept f).at 72 (.int .i64 M.clock) U;have I:=((g.out.kept a.out).kept f).z;clear f))
     go_ret2
     exact⟨U,bn (bn (stA (J w) _) a.out) m.out⟩
  ·have x:bF M l n=chkIn l M.clock:=by unfold bF;rw[Q hc,G hi]
   rw[x];obtain⟨q,y⟩:∃ q,chkIn l M.clock=q:=⟨_,U⟩
   have L:=hid y;rw[y] at hi ⊢;have hi':(q != 0)=true:=by simpa using hi
   clear hB N o hc T R x P p B y hi;go_enter func31,ntmps31;go_wp2_with (first
    | (refine wpList_load_mid U 41 _ U w.heap.size 0 U (D M S) _ g.out.c underlying41 U bV ?_)
    | (go_at_call 56;refine(sI M S _ r.out.lens r.out V.out t.out).mono ?_;rintro e w1 ⟨F,h,rfl,i,k,d⟩;have a:=hid d;have E:=(g.out.kept d).at 72 (.int .i64 M.clock) U;have z72:=(g.out.kept d).z;clear h i k d)
    | (go_at_call 57;refine(Lk.checkInputs l _ w.heap.size M.clock _ (s.out.kept ((bn (stA (J w) _) a.out))) (bn (stA (J w) (.cells (D M S).toArray 41)) a.out).size).mono ?_;rw[L.out];rintro e w2 ⟨rfl,f⟩;have m:=hid f;have H:=((g.out.kept a.out).kept f).at 72 (.int .i64 M.clock) U;have I:=((g.out.kept a.out).kept f).z;clear f))
   go_ret2
   exact⟨U,bn (bn (stA (J w) _) a.out) m.out⟩
 ·have x:bF M l n=M.chk:=by unfold bF;rw[G hc]
  rw[x];have X:=hid hc;obtain⟨q,y⟩:∃ q,M.chk=q:=⟨_,U⟩
  have hc':(q != 0)=true:=by rw[<- y];simpa using hc
  have HQ:=hid y;rw[y];clear hB N o hc R x P p y;go_enter func31,ntmps31;go_wp2_with (first
   | (refine wpList_load_mid U 41 _ U w.heap.size 0 U (D M S) _ g.out.c underlying41 U bV ?_)
   | (go_at_call 56;refine(rr M S _ r.out.lens Z.out X.out).mono ?_;rw[HQ.out];rintro e w1 ⟨rfl,d⟩;have a:=hid d;clear d))
  go_ret2
  exact⟨U,bn (stA (J w) _) a.out⟩
theorem jK:(Tryz.prog.info? 47).map (·.size)=some 3:=by kernel_rfl
section
variable {F : Fx} {N c : Nat} {vco vln vsm vw v4 : Value} {w w1 : World} {k : Cs} {L1 L2 : List Value} {Y : World}
theorem mi{t:TypeId}{z:Nat}{v:Value}{n:Nat}{xs:List Value}{B:Nat}(h:w.ownsRow B t z v n xs):∃ a n c,v=.slice a n c:=by
 rcases h.2 with⟨b,_⟩|⟨g,d,e,b,_⟩
 ·exact⟨_,_,_,b⟩
 ·exact⟨_,_,_,b⟩
structure DW (F : Fx) (N c : Nat) (vco vln vsm vw v4 : Value) (k : Cs) (w : World) (L1 L2 : List Value) (Y : World) : Prop where
 low:Below F.B w Y
 big:F.B<=w.heap.size
 bd:Bd F Y k.s.M ⟨k.s.n,k.s.l,vw⟩
 ln:Y.ownsRow N 68 18 vln k.ln.length (jM k.ln)
 sm:Y.ownsRow N 5 1 vsm k.sm.length (dW k.sm)
 cc:Bx Y c [pt F.g 0,vco,vln,vsm,v4,pt F.g 0]
 b1:Bx Y w.heap.size L1
 b2:Bx Y (w.heap.size+1) L2
 into:F.into N
 hc:N<=c/\c<w.heap.size/\F.B<=c
 lo:∀ j,(vw.ownBlock=some j \/ vln.ownBlock=some j \/ vsm.ownBlock=some j)->j<w.heap.size/\j≠c
theorem DW.s(h:DW F N c vco vln vsm vw vw k w L1 L2 Y):Y.cell? ⟨c,0,none⟩=some (pt F.g 0)/\Y.rangeAt F.g 0 (D k.s.M F.S)/\Y.rangeAt c 2 [vln,vsm,vw] :=
 ⟨h.cc.at 0 _ rfl,h.bd.row,λi v hi=>by
   have a:=(aA.1 hi).1;have hc:i=0 \/ i=1 \/ i=2:=by simp at a;omega
   rcases hc with rfl|rfl|rfl <;> exact h.cc.at _ _ hi⟩
theorem DW.kept(h:DW F N c vco vln vsm vw v4 k w L1 L2 Y)(hb:Below Y.heap.size Y w1):DW F N c vco vln vsm vw v4 k w L1 L2 w1 :=
 ⟨h.low.trans (hb.mono (ax h.big h.low.size)),h.big,h.bd.kept hb,fF h.ln (λj e=>hb.block j (fZ h.ln j e).2.1),fF h.sm (λj e=>hb.block j (fZ h.sm j e).2.1),h.cc.kept hb,h.b1.kept hb,h.b2.kept hb,h.into,h.hc,h.lo⟩
theorem DW.far{b o:Nat}{vs:List Value}(h:DW F N c vco vln vsm vw v4 k w L1 L2 Y)(hb:N<=b)(a:∀ j,(vw.ownBlock=some j \/ vln.ownBlock=some j \/ vsm.ownBlock=some j)->j≠b):Bd F (Y.setCells b o vs) k.s.M ⟨k.s.n,k.s.l,vw⟩/\(Y.setCells b o vs).ownsRow N 68 18 vln k.ln.length (jM k.ln)/\(Y.setCells b o vs).ownsRow N 5 1 vsm k.sm.length (dW k.sm) :=
 ⟨h.bd.same h.into (bA (lU _ _ _ _).symm) (λj d=>fO (by omega) _ _ _) (λj e=>fO (a j (Or.inl e)) _ _ _),fF h.ln (λj e=>fO (a j (Or.inr (Or.inl e))) _ _ _),fF h.sm (λj e=>fO (a j (Or.inr (Or.inr e))) _ _ _)⟩
theorem DW.bb{b o:Nat}{vs L:List Value}{b':Nat}(h:Bx Y b' L)(a:b'≠b):Bx (Y.setCells b o vs) b' L:=h.same (bA (lU _ _ _ _).symm) (fO a _ _ _)
theorem j4{B:Nat}{a:World}:∀ {w:World} {b:Nat},Below B a w->B<=b->∀(vs:List Value) (o:Nat),Below B a (w.setCells b o vs)
 | w,b,h,hb,[],o=>h
 | w,b,h,hb,v::vs,o=>j4 (h.setCell (p:=⟨b,o,none⟩) hb v) hb vs (o+1)
theorem DW.set4(h:DW F N c vco vln vsm vw v4 k w L1 L2 Y):DW F N c vco vln vsm vw vw k w L1 L2 (Y.setCell ⟨c,4,none⟩ vw):=by
 obtain⟨c1,c2,c3⟩:=h.hc;obtain⟨f1,f2,f3⟩:=h.far (b:=c) (o:=4) (vs:=[vw]) c1 (λj a=>(h.lo j a).2);exact⟨h.low.setCell c3 _,h.big,f1,f2,f3,h.cc.set 4 vw (by simp),DW.bb (o:=4) (vs:=[vw]) h.b1 (by omega),DW.bb (o:=4) (vs:=[vw]) h.b2 (by omega),h.into,h.hc,h.lo⟩
theorem DW.put1(h:DW F N c vco vln vsm vw v4 k w (D aE aM) L2 Y):DW F N c vco vln vsm vw v4 k w (D k.s.M F.S) L2 (Y.setCells w.heap.size 0 (D k.s.M F.S)):=by
 obtain⟨c1,c2,c3⟩:=h.hc;obtain⟨f1,f2,f3⟩:=h.far (b:=w.heap.size) (o:=0) (vs:=D k.s.M F.S) (by omega) (λj d=>by have:=(h.lo j d).1;omega);have a:=h.b1.puts 0 (D k.s.M F.S) (by rw[cy,cy];omega);rw[jJ _ _ (by rw[cy,cy])] at a;exact⟨j4 h.low h.big _ _,h.big,f1,f2,f3,DW.bb h.cc (by omega),a,DW.bb h.b2 (by omega),h.into,h.hc,h.lo⟩
theorem DW.put2{x y z:Value}(h:DW F N c vco vln vsm vw v4 k w L1 [x,y,z] Y):DW F N c vco vln vsm vw v4 k w L1 [vln,vsm,vw] (Y.setCells (w.heap.size+1) 0 [vln,vsm,vw]):=by
 obtain⟨c1,c2,c3⟩:=h.hc;obtain⟨f1,f2,f3⟩:=h.far (b:=w.heap.size+1) (o:=0) (vs:=[vln,vsm,vw]) (by omega) (λj d=>by have:=(h.lo j d).1;omega);have a:=h.b2.puts 0 [vln,vsm,vw] (by simp);rw[jJ _ _ (by simp)] at a;exact⟨j4 h.low (by have:=h.big;omega) _ _,h.big,f1,f2,f3,DW.bb h.cc (by omega),DW.bb h.b1 (by omega),a,h.into,h.hc,h.lo⟩
structure Told (F : Fx) (N : Nat) (k : Cs) (vln vsm vw : Value) (w' : World) : Prop where
 sl:bM w' F.S k.s.M
 fit:k.s.M.fit
 ln:w'.ownsRow N 68 18 vln k.ln.length (jM k.ln)
 sm:w'.ownsRow N 5 1 vsm k.sm.length (dW k.sm)
 ws:w'.ownsRow F.B 104 3 vw k.s.l.length (kv k.s.l)
theorem Lk.done(R:Fb F N)(h:CI F N c vco vln vsm w k):Calls prog 34 #[pt c 0] w λe w'=>∃ vw,e=.returned (.tuple #[.agg (D k.s.M F.S).toArray,.agg #[vln,vsm,vw]])/\Told F N k vln vsm vw w'/\Below F.B w w':=by
 obtain⟨vw,hB⟩:=h.i.bd;obtain⟨a2,p,c2,e2⟩:=mi h.ln;obtain⟨a3,q,c3,e3⟩:=mi h.sm;obtain⟨a4,d,c4,e4⟩:=mi hB.ws;have X:vw=.slice a4 d c4:=e4;have Y:Hid F.S.isSl:=hB.isSl;have l:=h.i.big;have h0:DW F N c vco vln vsm vw (.slice none 0 0) k w (D aE aM) [.slice none 0 0,.slice none 0 0,.slice none 0 0] ((w.alloc (.cells (D aE aM).toArray 41)).alloc (.cells #[.slice none 0 0,.slice none 0 0,.slice none 0 0] 47)):=by
  have hb:=stA (stA (J w) (.cells (D aE aM).toArray 41)) (.cells #[.slice none 0 0,.slice none 0 0,.slice none 0 0] 47);have y:=h.keep R hb;refine⟨hb.mono l,l,hB.kept hb,y.ln,y.sm,y.cb.bx,(Bx.new w (D aE aM) 41 (b:=w.heap.size) U).over _,Bx.new (w.alloc (.cells (D aE aM).toArray 41)) [.slice none 0 0,.slice none 0 0,.slice none 0 0] 47 (b:=w.heap.size+1) (by simp),R.into,⟨h.cb.n,h.cb.z,h.big R⟩,λj r=>?_⟩;rcases r with r|r|r
  ·obtain⟨cs,fr,T⟩:=hB.wty j r
   refine⟨(ay.1 T).1,λe=>?_⟩;rw[e,h.cb.blk] at T;simp only[aP,cP] at T;exact absurd T.2.1 (by decide)
  ·exact⟨(fZ h.ln j r).2.1,λe=>jN h.ln h.cb.blk (by decide) (by rw[r,e])⟩
  ·exact⟨(fZ h.sm j r).2.1,λe=>jN h.sm h.cb.blk (by decide) (by rw[r,e])⟩
 subst e2 e3 X;have H0:=hid h0;clear R h hB e4 h0 l;go_enter func34,ntmps34;go_upto_region 1 with fail
 refine Pl.cutW (DW F N c vco (.slice a2 p c2) (.slice a3 q c3) (.slice a4 d c4) (.slice none 0 0) k w (D aE aM) [.slice none 0 0,.slice none 0 0,.slice none 0 0]) H0.out ?_;intro Y0 a;have k5:=a.cc.at 5 _ U;have k4:=a.cc.at 4 _ U;have kz:=a.cc.z;have kf:=a.cc.f 4;have Z:=a.bd.at 76 (.slice a4 d c4) U;have mz:=a.bd.bx.z;have H:=hid a;clear a H0;go_upto_region 2 with fail
 refine Pl.cutW (DW F N c vco (.slice a2 p c2) (.slice a3 q c3) (.slice a4 d c4) (.slice a4 d c4) k w (D aE aM) [.slice none 0 0,.slice none 0 0,.slice none 0 0]) H.out.set4 ?_;intro Y1 I;have W:=hid (I.kept (J Y1).drew);clear I H k5 k4 kz kf Z mz;refine wp_region_held_drew (S:=λw'=>w'.cell? ⟨c,0,none⟩=some (pt F.g 0)/\w'.rangeAt F.g 0 (D k.s.M F.S)/\w'.rangeAt c 2 [.slice a2 p c2,.slice a3 q c3,.slice a4 d c4]) (by kernel_rfl) (W.out.s) ?_;intro m;refine ee 0 ⟨some 15,_,_,_,_,none⟩ m ?_;simp only[Act.put,xA,xB,xC];refine ee 1 ⟨some 16,_,_,_,_,none⟩ m ?_;simp only[Act.put,xA,xB,xC];refine ee 2 ⟨some 17,_,_,_,_,none⟩ m ?_;simp only[Act.put,xA,xB,xC];refine ee 6 ⟨some 21,_,_,_,_,none⟩ m ?_;simp only[Act.put,xA,xB,xC];refine ee 7 ⟨some 22,_,_,_,_,none⟩ m ?_;simp only[Act.put,xA,xB,xC];refine ee 8 ⟨some 23,_,_,_,_,none⟩ m ?_;simp only[Act.put,xA,xB,xC];refine nW 3 (λ_ o=>o.1) m ?_;refine ee 4 ⟨some 19,_,_,_,_,none⟩ m ?_
 simp only[Act.put,xA,xB,xC];refine iq 5 (.agg (D k.s.M F.S).toArray) U (λw' o=>kt 41 _ U F.g 0 U (D k.s.M F.S) _ o.2.1 underlying41 U bV) m ?_;refine iq 9 (.agg ([.slice a2 p c2,.slice a3 q c3,.slice a4 d c4]).toArray) U (λw' o=>kt 47 _ U c 2 U ([.slice a2 p c2,.slice a3 q c3,.slice a4 d c4]) _ o.2.2 underlying47 U jK) m ?_;have t:=hid W.out.put1;refine pE (i:=10) (op:=⟨none,_,_,_,_,none⟩) (by kernel_rfl) U U 41 _ _ U w.heap.size 0 (D k.s.M F.S).toArray U U (W.out.b1.there 0 75 (by rw[cy];omega)) bV (fG _ _ Y.out) t.out.s ?_;have E:=hid t.out.put2;have L:=t.out.b2.there 0 3 (by simp);have u:(([.slice a2 p c2,.slice a3 q c3,.slice a4 d c4]:List Value)).toArray.all (·.oneCell')=true:=by simp[Value.oneCell']
 have P:=E.out.s;clear m;refine pE (i:=11) (op:=⟨none,_,_,_,_,none⟩) (by kernel_rfl) U U 47 _ _ U (w.heap.size+1) 0 #[.slice a2 p c2,.slice a3 q c3,.slice a4 d c4] U U L jK u P ?_;refine wpAnyH_done (by kernel_rfl) ?_ _;refine Pl.cutE (DW F N c vco (.slice a2 p c2) (.slice a3 q c3) (.slice a4 d c4) (.slice a4 d c4) k w (D k.s.M F.S) [.slice a2 p c2,.slice a3 q c3,.slice a4 d c4]) E.out ?_;intro V hV;have x:=hid hV;clear hV W t E L u P;go_wp2;refine ao (v:=.tuple #[.agg (D k.s.M F.S).toArray,.agg #[.slice a2 p c2,.slice a3 q c3,.slice a4 d c4]]) ?_ U ⟨_,U,⟨x.out.bd.slAt,x.out.bd.fit,x.out.ln,x.out.sm,x.out.bd.ws⟩,x.out.low⟩;have l1:=run_loadVar_mid V w.heap.size 0 41 _ _ x.out.b1.c underlying41 U bV;have l2:=run_loadVar_mid V (w.heap.size+1) 0 47 _ _ x.out.b2.c underlying47 U jK;simp only[results,results34];simp;show (Result.andThen (Sem.run prog (loadVar 41 ⟨w.heap.size,0,none⟩) V) _)=_;rw[l1]
 show (Result.andThen (Sem.run prog (loadVar 47 ⟨w.heap.size+1,0,none⟩) V) _)=_;rw[l2];rfl
end
theorem zhl(M:Mach):∀ k,(M.xfer k).clock=M.clock
 | 0=>rfl
 | k+1=>zhl M k
theorem zrO(M:Mach)(a:Int):(M.rdM a).2.clock=M.clock:=by
 unfold Mach.rdM;split
 ·unfold Mach.portM
  split <;> rfl
 ·rfl
theorem zrP(M:Mach)(a:Int):(M.rdA a).2.clock=M.clock:=by
 unfold Mach.rdA;split
 ·unfold Mach.portA
  split <;> rfl
 ·rfl
theorem zl5(M:Mach)(n:Int):(M.letGo n).clock=M.clock:=by
 unfold Mach.letGo;split <;> rfl
theorem zrQ(M:Mach)(a n:Int):(M.wrM a n).clock=M.clock:=by
 unfold Mach.wrM;split
 ·unfold Mach.putM
  split;all_goals first
   | rfl
   | exact zhl _ _
   | exact zl5 _ _
 ·unfold Mach.memM
  split
  ·rfl
  ·split
   ·rfl
   ·split <;> rfl
theorem zrR(M:Mach)(a n:Int):(M.wrA a n).clock=M.clock:=by
 unfold Mach.wrA;split
 ·unfold Mach.putA
  split
  ·rfl
  ·split <;> rfl
 ·unfold Mach.memA
  split
  ·rfl
  ·split
   ·rfl
   ·split
    ·split <;> rfl
    ·rfl
theorem zgq(s:Bst):s.stepMain.M.clock=s.M.clock:=by
 unfold Bst.stepMain;split
 ·rfl
 ·show (C.step bD s.M.main ⟨s.M,0,s.l⟩ (s.M.t.g || s.M.b.g)).s.M.clock=s.M.clock
  exact C.keeps_step (m:=bD) (P:=λx=>x.M.clock=s.M.clock) (λx a h=>(zrO x.M a).trans h) (λx a b h=>(zrQ x.M a _).trans h) _ _ _ U
theorem ziJ(s:Bst):s.stepAux.M.clock=s.M.clock:=by
 unfold Bst.stepAux;split
 ·rfl
 ·show (C.step bY s.M.aux s s.M.rung).s.M.clock=s.M.clock
  exact C.keeps_step (m:=bY) (P:=λx=>x.M.clock=s.M.clock) (λx a h=>(zrP x.M a).trans h) (λx a b h=>(zrR x.M a _).trans h) _ _ _ U
theorem zei:∀(l:List Inp) (M:Mach),(M.pressed l).clock=M.clock
 | [],M=>rfl
 | x::l,M=>by
  unfold Mach.pressed;split
  ·rw[zei l,zdD]
  ·rfl
theorem zl6(M:Mach):M.line.length<=1:=by
 unfold Mach.line;split <;> simp
theorem zfP(M:Mach):M.sample.length<=1:=by
 unfold Mach.sample;split
 ·exact zqc _ 1
 ·simp
structure Cs.at (k0 k : Cs) (j : Nat) : Prop where
 clock:k.s.M.clock=k0.s.M.clock+j
 ln:k.ln.length<=k0.ln.length+j
 sm:k.sm.length<=k0.sm.length+j
 l:k.s.l.length<=k0.s.l.length+4*j
theorem rA(k:Cs):k.now.s.M.clock=k.s.M.clock:=by
 show ((Bst.stepMain ⟨k.s.M.pressed k.co,k.s.n,k.s.l⟩).stepAux).M.clock=_;rw[ziJ,zgq];exact zei _ _
theorem zj1{F:Fx}{N:Nat}(b:Fb F N)(a:Cs)(f:a.s.l.length<=100):∀ j:Nat,j<=20000->Cs.at a (a.clocks j) j
 | 0,_=>⟨by simp[Cs.clocks],by simp[Cs.clocks],by simp[Cs.clocks],by simp[Cs.clocks]⟩
 | j+1,h=>by
  have c:=zj1 b a f j (by omega);obtain⟨k,d⟩:∃ k,k=a.clocks j:=⟨_,U⟩
  have e:a.clocks (j+1)=k.clock:=by rw[d];rfl
  rw[<- d] at c;rw[e];obtain⟨g,i2,i3,i4⟩:=c;refine⟨?_,?_,?_,?_⟩
  ·show k.now.s.M.clock+1=_
   rw[rA,g];push_cast;omega
  ·show (k.ln++(k.s.M.pressed k.co).line).length<=_
   have:=zl6 (k.s.M.pressed k.co);rw[aC];omega
  ·show (k.sm++(k.s.M.pressed k.co).sample).length<=_
   have:=zfP (k.s.M.pressed k.co);rw[aC];omega
  ·show ((Bst.stepMain ⟨k.s.M.pressed k.co,k.s.n,k.s.l⟩).stepAux).l.length<=_
   have h1:(Bst.stepMain ⟨k.s.M.pressed k.co,k.s.n,k.s.l⟩).l=k.s.l:=ve _;have h2:=zrN b (Bst.stepMain ⟨k.s.M.pressed k.co,k.s.n,k.s.l⟩) (by rw[h1];omega);rw[h1] at h2;omega
/-! ### what no processor touches: where the beam is, when the next sample comes -/
structure Mach.alike (M M' : Mach) : Prop where
 l:M'.b.l=M.b.l
 a:M'.b.a=M.b.a
 f:M'.b.f=M.b.f
 w:M'.s.w=M.s.w
theorem alike_refl(M:Mach):M.alike M:=⟨U,U,U,U⟩
theorem Mach.alike.trans{M M' b:Mach}(h:M.alike M')(k:M'.alike b):M.alike b:=⟨k.l.trans h.l,k.a.trans h.a,k.f.trans h.f,k.w.trans h.w⟩
theorem zhm(M:Mach):∀ k,M.alike (M.xfer k)
 | 0=>alike_refl M
 | k+1=>(zhm M k).trans ⟨U,U,U,U⟩
theorem zrU(M:Mach)(a:Int):M.alike (M.rdM a).2:=by
 unfold Mach.rdM;split
 ·unfold Mach.portM
  split <;> exact⟨U,U,U,U⟩
 ·exact alike_refl M
theorem zrV(M:Mach)(a:Int):M.alike (M.rdA a).2:=by
 unfold Mach.rdA;split
 ·unfold Mach.portA
  split <;> exact⟨U,U,U,U⟩
 ·exact alike_refl M
theorem zl8(M:Mach)(n:Int):M.alike (M.letGo n):=by
 unfold Mach.letGo;split <;> exact⟨U,U,U,U⟩
theorem zrW(M:Mach)(a n:Int):M.alike (M.wrM a n):=by
 unfold Mach.wrM;split
 ·unfold Mach.putM
  split;all_goals first
   | exact⟨U,U,U,U⟩
   | exact zhm _ _
   | exact zl8 _ _
 ·unfold Mach.memM
  split
  ·exact alike_refl M
  ·split
   ·exact⟨U,U,U,U⟩
   ·split <;> exact⟨U,U,U,U⟩
theorem zyk(s:Sd)(p:Nat)(n:Int):(s.put p n).w=s.w:=by
 unfold Sd.put;split
 ·rfl
 ·split <;> rfl
theorem zrX(M:Mach)(a n:Int):M.alike (M.wrA a n):=by
 unfold Mach.wrA;split
 ·unfold Mach.putA
  split
  ·exact⟨U,U,U,zyk _ _ _⟩
  ·split <;> exact⟨U,U,U,U⟩
 ·unfold Mach.memA
  split
  ·exact alike_refl M
  ·split
   ·exact⟨U,U,U,U⟩
   ·split
    ·split <;> exact⟨U,U,U,U⟩
    ·exact alike_refl M
theorem zgr(s:Bst):s.M.alike s.stepMain.M:=by
 unfold Bst.stepMain;split
 ·exact alike_refl _
 ·have h:=C.keeps_step (m:=bD) (P:=λx=>s.M.alike x.M) (λx a h=>h.trans (zrU x.M a)) (λx a b h=>h.trans (zrW x.M a _)) s.M.main ⟨s.M,0,s.l⟩ (s.M.t.g || s.M.b.g) (alike_refl _)
  exact⟨h.l,h.a,h.f,h.w⟩
theorem ziK(s:Bst):s.M.alike s.stepAux.M:=by
 unfold Bst.stepAux;split
 ·exact alike_refl _
 ·have h:=C.keeps_step (m:=bY) (P:=λx=>s.M.alike x.M) (λx a h=>h.trans (zrV x.M a)) (λx a b h=>h.trans (zrX x.M a _)) s.M.aux s s.M.rung (alike_refl _)
  exact⟨h.l,h.a,h.f,h.w⟩
theorem zl9(M:Mach)(x:Inp):M.alike (M.press x):=by
 unfold Mach.press;split <;> exact⟨U,U,U,U⟩
theorem zbL:∀(l:List Inp) (M:Mach),M.alike (M.pressed l)
 | [],M=>alike_refl M
 | x::l,M=>by
  unfold Mach.pressed;split
  ·exact(zl9 M x).trans (zbL l _)
  ·exact alike_refl M
theorem zj2(k:Cs):k.s.M.alike k.now.s.M :=
 (zbL k.co k.s.M).trans ((zgr ⟨k.s.M.pressed k.co,k.s.n,k.s.l⟩).trans (ziK _))
structure Cs.runs (k0 k : Cs) (j : Nat) : Prop where
 l:k.s.M.b.l=jI k0.s.M.b.l k0.s.M.b.a j
 a:k.s.M.b.a=i6 k0.s.M.b.l k0.s.M.b.a j
 f:k.s.M.b.f=j3 k0.s.M.b.l k0.s.M.b.a k0.s.M.b.f j
 w:k.s.M.s.w=(k0.s.M.s.ticks j).w
theorem zwE{s s':Sd}(h:s.w=s'.w):(s.ticks 1).w=(s'.ticks 1).w:=by
 show (if s.w=0 then 15 else s.w-1)=(if s'.w=0 then 15 else s'.w-1)
 rw[h]
theorem zcU(c:Cs)(hb:BOk c.s.M.b.l c.s.M.b.a c.s.M.b.f)(r:c.s.M.b.f<=19900):∀ j:Nat,j<=20000->Cs.runs c (c.clocks j) j
 | 0,_=>by
  have:=zvI c.s.M.b.l c.s.M.b.a c.s.M.b.f false ⟨hb.l0,hb.l1⟩ ⟨hb.a0,hb.a1⟩;exact⟨this.1.symm,this.2.1.symm,this.2.2.2.symm,U⟩
 | j+1,t=>by
  have i:=zcU c hb r j (by omega);obtain⟨k,p⟩:∃ k,k=c.clocks j:=⟨_,U⟩
  have e:c.clocks (j+1)=k.clock:=by rw[p];rfl
  rw[<- p] at i;rw[e];have m:=zj2 k;have l0:=hb.l0;have l1:=hb.l1;have a0:=hb.a0;have a1:=hb.a1;have f0:=hb.f0;have e1:k.now.s.M.b.l=jI c.s.M.b.l c.s.M.b.a j:=m.l.trans i.l;have e2:k.now.s.M.b.a=i6 c.s.M.b.l c.s.M.b.a j:=m.a.trans i.a;have e3:k.now.s.M.b.f=j3 c.s.M.b.l c.s.M.b.a c.s.M.b.f j:=m.f.trans i.f;have h:=wo c.s.M.b.l c.s.M.b.a j ⟨l0,l1⟩ ⟨a0,a1⟩ (by omega);have q:0<=j3 c.s.M.b.l c.s.M.b.a c.s.M.b.f j/\j3 c.s.M.b.l c.s.M.b.a c.s.M.b.f j<=20000:=by unfold j3;omega
  have n:na k.now.s.M.b.l k.now.s.M.b.a k.now.s.M.b.f=true:=by
   rw[e1,e2,e3];exact(oK _ _ _).2 ⟨h.1.1,h.1.2,h.2.1,h.2.2,q.1,q.2⟩
  have d:=zxp c.s.M.b.l c.s.M.b.a c.s.M.b.f j 1 false ⟨l0,l1⟩ ⟨a0,a1⟩ (by omega) (by omega);have o:k.clock.s.M.b=⟨jI k.now.s.M.b.l k.now.s.M.b.a 1,i6 k.now.s.M.b.l k.now.s.M.b.a 1,lK k.now.s.M.b.l k.now.s.M.b.a k.now.s.M.b.g 1,j3 k.now.s.M.b.l k.now.s.M.b.a k.now.s.M.b.f 1⟩:=by
   show k.now.s.M.b.one=_;unfold Bem.one;rw[Q n]
  refine⟨?_,?_,?_,?_⟩
  ·rw[o];show jI k.now.s.M.b.l k.now.s.M.b.a 1=_
   rw[e1,e2,d.1];push_cast;rfl
  ·rw[o];show i6 k.now.s.M.b.l k.now.s.M.b.a 1=_
   rw[e1,e2,d.2.1];push_cast;rfl
  ·rw[o];show j3 k.now.s.M.b.l k.now.s.M.b.a k.now.s.M.b.f 1=_
   rw[e1,e2,e3,d.2.2.2];push_cast;rfl
  ·show (k.now.s.M.s.ticks 1).w=_
   rw[zwE (s:=k.now.s.M.s) (s':=c.s.M.s.ticks j) (m.w.trans i.w),Sd.ticks_add]
theorem vh(c:Cs)(hb:BOk c.s.M.b.l c.s.M.b.a c.s.M.b.f)(e:c.s.M.b.f<=19000)(j:Nat)(d:j<=20000):Cs.runs c (c.clocks j) j:=zcU c hb (by omega) j d
/-! ### how many samples -/
/-! ### which lines -/
/-! ### who is held, and waits -/
section
variable {l a f : Int}
end
theorem zr2{w:World}{B z n:Nat}{t:TypeId}{v:Value}{xs:List Value}(h:w.ownsRow B t z v n xs)(l:0<n):∃ g a,v=.slice (some ⟨g,0,none⟩) n a/\n<=a/\g<w.heap.size /\ ∀ j x,xs[j]?=some x->w.cell? ⟨g,j,none⟩=some x:=by
 rcases h.2 with⟨d,e1⟩|⟨g,a,f,d,hb,e,i,m,o,k⟩
 ·omega
 ·refine⟨g,a,d,i,(ay.1 e).1,λj x b=>?_⟩
  rw[<- k] at b;have c:j<n*z:=by
   have:=(aA.1 b).1;rw[bu] at this;omega
  rw[cK c,dM] at b;unfold World.cell?;simp[e,b]
def iJ(w:World)(v:Value)(n z:Nat)(xs:List Value):Prop:=xs.length=n*z/\((n=0 /\ ∃ a c,v=.slice a 0 c) \/ ∃ g o b,v=.slice (some ⟨g,o,none⟩) n b/\n<=b/\g<w.heap.size /\ ∀ j x,xs[j]?=some x->w.cell? ⟨g,o+j,none⟩=some x)
theorem vj{w:World}{B z n:Nat}{t:TypeId}{v:Value}{xs:List Value}(h:w.ownsRow B t z v n xs):∃ a c,v=.slice a n c:=by
 rcases h.2 with⟨b,e1⟩|⟨g,d,e,b,_⟩
 ·exact⟨none,0,by rw[b,e1]⟩
 ·exact⟨_,_,b⟩
section
variable {w w1 : World} {v : Value} {n z B : Nat} {xs : List Value} {t : TypeId}
theorem iJ.kept(h:iJ w v n z xs)(hb:Below w.heap.size w w1):iJ w1 v n z xs:=by
 obtain⟨b,h|⟨g,o,a,h1,h2,h3,h4⟩⟩:=h
 ·exact⟨b,Or.inl h⟩
 ·exact⟨b,Or.inr ⟨g,o,a,h1,h2,ap h3 hb.size,λj x c=>(hb.cell (p:=⟨g,o+j,none⟩) h3).trans (h4 j x c)⟩⟩
theorem iJ.len(h:iJ w v n z xs):∃ a c,v=.slice a n c:=by
 obtain⟨_,⟨b,a,c,h1⟩|⟨g,o,d,h1,_⟩⟩:=h
 ·exact⟨a,c,by rw[b];exact h1⟩
 ·exact⟨_,_,h1⟩
theorem qA(h:w.ownsRow B t z v n xs):iJ w v n z xs:=by
 refine⟨h.1,?_⟩;by_cases d:n=0
 ·obtain⟨a,c,e⟩:=vj h
  exact Or.inl ⟨d,a,c,by rw[<- d];exact e⟩
 ·obtain⟨g,b,e,h1,h2,h3⟩:=zr2 h (by omega)
  exact Or.inr ⟨g,0,b,e,h1,h2,λj x f=>by rw[aN];exact h3 j x f⟩
end
theorem zfS{P:Program}{w:World}{t:TypeId}{xs ys:Array Value}(h:(binOp .eql t (.agg xs) (.agg ys)).run P w=.ok (.bool true) w):(binOp .neq t (.agg xs) (.agg ys)).run P w=.ok (.bool false) w:=by
 rw[cn] at h;rw[lD]
 revert h
 generalize Sem.run P (Op.equalIn 10000 t _ _) w=r;intro h;cases r with
 | ok b w' =>
  have e:Result.ok (Value.bool b) w'=.ok (.bool true) w:=h
  injection e with e1 e2
  injection e1 with e3
  subst e3 e2;rfl
 | _=>cases h
theorem iJ.range{w:World}{v:Value}{n z:Nat}{xs:List Value}(h:iJ w v n z xs){i:Nat}(hi:i<n){row:List Value}(b:∀(j:Nat) (u:Value),row[j]?=some u->xs[i*z+j]?=some u):∃ g o a,v=.slice (some ⟨g,o,none⟩) n a/\g<w.heap.size/\w.rangeAt g (o+i*z) row:=by
 obtain⟨_,⟨d,_⟩|⟨g,o,a,h1,h2,h3,h4⟩⟩:=h
 ·omega
 ·exact⟨g,o,a,h1,h3,λj u c=>by rw[cA];exact h4 _ _ (b j u c)⟩
def xr(o:Oper)(l:List Nat):Bool:=l.all λj=>o.after.toList.any λe=>Region.binds .any e && e.on == j
def row(o:Oper)(l:List Nat):Option Nat × Option (Nat × Bool) × Op × Bool:=(o.dst,o.guard,o.op,xr o l)
end Go.Proofs.YthghjlinhokimaaGreatDoor
