/-
  Parts of a proof, joined.
-/
import Derived.Test.YtbennamieealbaaGreatDoorZg34
import Derived.Test.YtbennamieealbaaGreatDoorZg01
import Derived.Test.YtbennamieealbaaGreatDoorZg18
import Derived.Test.YtbennamieealbaaGreatDoorZg03
set_option linter.unusedVariables false
set_option maxRecDepth 100000
set_option maxHeartbeats 6400000
namespace Go.Proofs.YtbennamieealbaaGreatDoor
open Go.ChangeShapes Go.WideShapes Go.ChangeAt Go.RowKit
def runErr (M:Mach) (l:List Inp) (n:Int):Int:=if M.chk=0 then (if chkIn l M.clock=0 then (if 0<=n/\n<=20000/\M.clock+n<=200000 then 0 else 3) else chkIn l M.clock) else M.chk
theorem zf3 {w:World} (h:shapesAt w):2<w.heap.size:=World.block_lt_of_cell? w ⟨2,0*3,none⟩ (h 0 (by omega)).1
theorem zpf {l:List Inp} {a:Int} (h:chkIn l a=0) (hd:∀ x∈l,0<=x.d/\x.d<=255):∀ x∈l,x.ok:=λx hx=>by
 unfold chkIn at h
 split at h
 ·cases h
 ·exact ⟨(zdA l a h x hx).1,hd x hx⟩
theorem InpAt.mono {B B':Nat} {w:World} {v:Value} {l:List Inp} (h:InpAt B w v l) (hB:B<=B'):InpAt B' w v l:=by
 rcases h with h|⟨g,o,k,h1,h2,h3,h4⟩
 ·exact Or.inl h
 ·exact Or.inr ⟨g,o,k,h1,h2,Nat.lt_of_lt_of_le h3 hB,h4⟩
theorem zhY (M:Mach) (S:Sl) (v:Value) (l:List Inp) (n:Int) (w:World) (hs:SlAt w S M) (hsh:shapesAt w) (hin:InpAt w.heap.size w v l) (hd:∀ x∈l,0<=x.d/\x.d<=255) (hf:M.fit) (hf2:M.b.f<=20000) (hc:chkIn l M.clock=0) (hn:0<=n/\n<=20000/\M.clock+n<=200000) :
 Calls Tryz.prog 30 #[.agg (machL M S).toArray,v,.int .i64 n] w λe w'=>∃ (F:Fx) (N c:Nat),e = .returned (.tuple #[pt c 0,.int .i64 0])/\Fb F N/\w.heap.size<=F.B/\(F.B<=F.mr/\F.B<=F.ar)/\CI F N c v (.slice none 0 0) (.slice none 0 0) w' ⟨⟨M,0,[]⟩,l,[],[]⟩/\Below w.heap.size w w':=by
 have hB:=Bx.new w (machL M S) 41 (b:=w.heap.size) rfl
 have HB:=hid hB
 have HS:=hid (hs.kept (stA (st0 w) (.cells (machL M S).toArray 41)))
 have HSH:=hid hsh
 have HIN:=hid hin
 have HD:=hid hd
 have HF:=hid hf
 have HF2:=hid hf2
 have HC:=hid hc
 obtain ⟨hn0,hn1,hn2⟩:=hn
 have hcl:=hf.clock
 obtain ⟨a1,k1,e1⟩:=hin.len
 subst e1
 have hwr:IntKind.i64.wrap (M.clock+n)=M.clock+n:=by rw [IntKind.wrap_i64];omega
 clear hB hs hsh hin hd hf hf2 hc
 go_enter Tryz.func30,Tryz.ntmps30
 go_wp2_with (first
  | (refine wpList_load_mid rfl 41 _ rfl w.heap.size 0 rfl (machL M S) _ HB.out.c Tryz.underlying41 rfl zad ?_)
  | (go_at_call 51;refine (zeq M S _ HS.out.lens HS.out HF.out HF2.out).mono ?_;rintro e w1 ⟨F,hFB,rfl,hmr,hBd,hb1⟩;have HFB:=hid hFB;have HMR:=hid hmr;have HBD:=hid hBd;have HB1:=hid hb1;have m72:=(HB.out.kept hb1).at 72 (.int .i64 M.clock) rfl;have z72:=(HB.out.kept hb1).z;clear hFB hmr hBd hb1)
  | (go_at_call 55;refine (Lk.checkInputs l _ w.heap.size M.clock _ (HIN.out.kept ((stp (stA (st0 w) _) HB1.out))) (stp (stA (st0 w) (.cells (machL M S).toArray 41)) HB1.out).size).mono ?_;rw [HC.out];rintro e w2 ⟨rfl,hb2⟩;have HB2:=hid hb2;have n72:=((HB.out.kept HB1.out).kept hb2).at 72 (.int .i64 M.clock) rfl;have y72:=((HB.out.kept HB1.out).kept hb2).z;clear hb2))
 have hBF:w.heap.size+1=F.B:=by have:=HFB.out;simp at this;omega
 have hL:Below w.heap.size w (w2.alloc (.cells #[pt F.g 0,.slice a1 l.length k1,.slice none 0 0,.slice none 0 0,.slice none 0 0,pt F.g 0] 93)):=stA (stp (stp (stA (st0 w) _) HB1.out) HB2.out) _
 have hsl:=zf3 HSH.out
 have hz1:=HB1.out.size
 simp at hz1
 go_ret2
 refine ⟨F,w1.heap.size,w2.heap.size,rfl,⟨HBD.out.into,by omega,by omega⟩,by omega,HMR.out,⟨⟨Nat.le_trans HB2.out.size (by simp),zbE HSH.out (hL.block _ hsl),Int.le_refl 0,.slice none 0 0,(HBD.out.kept HB2.out).over _⟩,⟨HB2.out.size,heap_alloc_new w2 _⟩,(HIN.out.kept hL).mono (by omega),zpf HC.out HD.out,World.ownsRow_nil _ _ _ _,World.ownsRow_nil _ _ _ _⟩,hL⟩
theorem zaO:(Tryz.prog.info? 50).map (·.size)=some 3:=by kernel_rfl
section
variable {F : Fx} {N c : Nat} {vco vln vsm vw v4 : Value} {w w1 : World} {k : Cs} {L1 L2 : List Value} {Y : World}
theorem za5 {t:TypeId} {z:Nat} {v:Value} {n:Nat} {xs:List Value} {B:Nat} (h:w.ownsRow B t z v n xs):∃ a n c,v = .slice a n c:=by
 rcases h.2 with ⟨e0,_⟩|⟨g,cap,cur,e0,_⟩
 ·exact ⟨_,_,_,e0⟩
 ·exact ⟨_,_,_,e0⟩
structure DW (F : Fx) (N c : Nat) (vco vln vsm vw v4 : Value) (k : Cs) (w : World) (L1 L2 : List Value) (Y : World) : Prop where
 low:Below F.B w Y
 big:F.B<=w.heap.size
 bd:Bd F Y k.s.M ⟨k.s.n,k.s.l,vw⟩
 ln:Y.ownsRow N 62 18 vln k.ln.length (lcs k.ln)
 sm:Y.ownsRow N 5 1 vsm k.sm.length (bcs k.sm)
 cc:Bx Y c [pt F.g 0,vco,vln,vsm,v4,pt F.g 0]
 b1:Bx Y w.heap.size L1
 b2:Bx Y (w.heap.size+1) L2
 into:F.into N
 hc:N<=c/\c<w.heap.size/\F.B<=c
 lo:∀ j,(vw.ownBlock=some j \/ vln.ownBlock=some j \/ vsm.ownBlock=some j)->j<w.heap.size/\j≠c
theorem DW.s (h:DW F N c vco vln vsm vw vw k w L1 L2 Y):Y.cell? ⟨c,0,none⟩=some (pt F.g 0)/\Y.rangeAt F.g 0 (machL k.s.M F.S)/\Y.rangeAt c 2 [vln,vsm,vw] :=
 ⟨h.cc.at 0 _ rfl,h.bd.row,λi v hi=>by
   have hl:=(List.getElem?_eq_some_iff.1 hi).1
   have hc:i=0 \/ i=1 \/ i=2:=by simp at hl;omega
   rcases hc with rfl|rfl|rfl <;> exact h.cc.at _ _ hi⟩
theorem DW.kept (h:DW F N c vco vln vsm vw v4 k w L1 L2 Y) (hb:Below Y.heap.size Y w1):DW F N c vco vln vsm vw v4 k w L1 L2 w1 :=
 ⟨h.low.trans (hb.mono (Nat.le_trans h.big h.low.size)),h.big,h.bd.kept hb,zaA h.ln (λj e=>hb.block j (zaJ h.ln j e).2.1),zaA h.sm (λj e=>hb.block j (zaJ h.sm j e).2.1),h.cc.kept hb,h.b1.kept hb,h.b2.kept hb,h.into,h.hc,h.lo⟩
theorem DW.far {b o:Nat} {vs:List Value} (h:DW F N c vco vln vsm vw v4 k w L1 L2 Y) (hb:N<=b) (hn:∀ j,(vw.ownBlock=some j \/ vln.ownBlock=some j \/ vsm.ownBlock=some j)->j≠b) :
 Bd F (Y.setCells b o vs) k.s.M ⟨k.s.n,k.s.l,vw⟩/\(Y.setCells b o vs).ownsRow N 62 18 vln k.ln.length (lcs k.ln)/\(Y.setCells b o vs).ownsRow N 5 1 vsm k.sm.length (bcs k.sm) :=
 ⟨h.bd.same h.into (Nat.le_of_eq (zaT _ _ _ _).symm) (λj hj=>zag (by omega) _ _ _) (λj e=>zag (hn j (Or.inl e)) _ _ _),zaA h.ln (λj e=>zag (hn j (Or.inr (Or.inl e))) _ _ _),zaA h.sm (λj e=>zag (hn j (Or.inr (Or.inr e))) _ _ _)⟩
theorem DW.bb {b o:Nat} {vs L:List Value} {b':Nat} (h:Bx Y b' L) (hn:b'≠b):Bx (Y.setCells b o vs) b' L:=h.same (Nat.le_of_eq (zaT _ _ _ _).symm) (zag hn _ _ _)
theorem zaG {B:Nat} {a:World}:∀ {w:World} {b:Nat},Below B a w->B<=b->∀ (vs:List Value) (o:Nat),Below B a (w.setCells b o vs)
 | w,b,h,hb,[],o=>h
 | w,b,h,hb,v::vs,o=>zaG (h.setCell (p:=⟨b,o,none⟩) hb v) hb vs (o+1)
theorem DW.set4 (h:DW F N c vco vln vsm vw v4 k w L1 L2 Y):DW F N c vco vln vsm vw vw k w L1 L2 (Y.setCell ⟨c,4,none⟩ vw):=by
 obtain ⟨c1,c2,c3⟩:=h.hc
 obtain ⟨f1,f2,f3⟩:=h.far (b:=c) (o:=4) (vs:=[vw]) c1 (λj hj=>(h.lo j hj).2)
 exact ⟨h.low.setCell c3 _,h.big,f1,f2,f3,h.cc.set 4 vw (by simp),DW.bb (o:=4) (vs:=[vw]) h.b1 (by omega),DW.bb (o:=4) (vs:=[vw]) h.b2 (by omega),h.into,h.hc,h.lo⟩
theorem DW.put1 (h:DW F N c vco vln vsm vw v4 k w (machL zeroM nilS) L2 Y):DW F N c vco vln vsm vw v4 k w (machL k.s.M F.S) L2 (Y.setCells w.heap.size 0 (machL k.s.M F.S)):=by
 obtain ⟨c1,c2,c3⟩:=h.hc
 obtain ⟨f1,f2,f3⟩:=h.far (b:=w.heap.size) (o:=0) (vs:=machL k.s.M F.S) (by omega) (λj hj=>by have:=(h.lo j hj).1;omega)
 have hx:=h.b1.puts 0 (machL k.s.M F.S) (by rw [zah,zah];omega)
 rw [zau _ _ (by rw [zah,zah])] at hx
 exact ⟨zaG h.low h.big _ _,h.big,f1,f2,f3,DW.bb h.cc (by omega),hx,DW.bb h.b2 (by omega),h.into,h.hc,h.lo⟩
theorem DW.put2 {x y z:Value} (h:DW F N c vco vln vsm vw v4 k w L1 [x,y,z] Y):DW F N c vco vln vsm vw v4 k w L1 [vln,vsm,vw] (Y.setCells (w.heap.size+1) 0 [vln,vsm,vw]):=by
 obtain ⟨c1,c2,c3⟩:=h.hc
 obtain ⟨f1,f2,f3⟩:=h.far (b:=w.heap.size+1) (o:=0) (vs:=[vln,vsm,vw]) (by omega) (λj hj=>by have:=(h.lo j hj).1;omega)
 have hx:=h.b2.puts 0 [vln,vsm,vw] (by simp)
 rw [zau _ _ (by simp)] at hx
 exact ⟨zaG h.low (by have:=h.big;omega) _ _,h.big,f1,f2,f3,DW.bb h.cc (by omega),DW.bb h.b1 (by omega),hx,h.into,h.hc,h.lo⟩
structure Told (F : Fx) (N : Nat) (k : Cs) (vln vsm vw : Value) (w' : World) : Prop where
 sl:SlAt w' F.S k.s.M
 fit:k.s.M.fit
 ln:w'.ownsRow N 62 18 vln k.ln.length (lcs k.ln)
 sm:w'.ownsRow N 5 1 vsm k.sm.length (bcs k.sm)
 ws:w'.ownsRow F.B 66 3 vw k.s.l.length (wcs k.s.l)
theorem Lk.done (hF:Fb F N) (h:CI F N c vco vln vsm w k):Calls Tryz.prog 34 #[pt c 0] w λe w'=>∃ vw,e = .returned (.tuple #[.agg (machL k.s.M F.S).toArray,.agg #[vln,vsm,vw]])/\Told F N k vln vsm vw w'/\Below F.B w w':=by
 obtain ⟨vw,hB⟩:=h.i.bd
 obtain ⟨a2,n2,c2,e2⟩:=za5 h.ln
 obtain ⟨a3,n3,c3,e3⟩:=za5 h.sm
 obtain ⟨a4,n4,c4,e4⟩:=za5 hB.ws
 have e4':vw = .slice a4 n4 c4:=e4
 have HSI:Hid F.S.isSl:=hB.isSl
 have hbig:=h.i.big
 have h0:DW F N c vco vln vsm vw (.slice none 0 0) k w (machL zeroM nilS) [.slice none 0 0,.slice none 0 0,.slice none 0 0] ((w.alloc (.cells (machL zeroM nilS).toArray 41)).alloc (.cells #[.slice none 0 0,.slice none 0 0,.slice none 0 0] 50)):=by
  have hb:=stA (stA (st0 w) (.cells (machL zeroM nilS).toArray 41)) (.cells #[.slice none 0 0,.slice none 0 0,.slice none 0 0] 50)
  have hci:=h.keep hF hb
  refine ⟨hb.mono hbig,hbig,hB.kept hb,hci.ln,hci.sm,hci.cb.bx,(Bx.new w (machL zeroM nilS) 41 (b:=w.heap.size) rfl).over _,Bx.new (w.alloc (.cells (machL zeroM nilS).toArray 41)) [.slice none 0 0,.slice none 0 0,.slice none 0 0] 50 (b:=w.heap.size+1) (by simp),hF.into,⟨h.cb.n,h.cb.z,h.big hF⟩,λj hj=>?_⟩
  rcases hj with hj|hj|hj
  ·obtain ⟨cs,fr,hx⟩:=hB.wty j hj
   refine ⟨(Array.getElem?_eq_some_iff.1 hx).1,λe=>?_⟩
   rw [e,h.cb.blk] at hx
   simp only [Option.some.injEq,Obj.cells.injEq] at hx
   exact absurd hx.2.1 (by decide)
  ·exact ⟨(zaJ h.ln j hj).2.1,λe=>zbc h.ln h.cb.blk (by decide) (by rw [hj,e])⟩
  ·exact ⟨(zaJ h.sm j hj).2.1,λe=>zbc h.sm h.cb.blk (by decide) (by rw [hj,e])⟩
 subst e2 e3 e4'
 have H0:=hid h0
 clear hF h hB e4 h0 hbig
 go_enter Tryz.func34,Tryz.ntmps34
 go_upto_region 1 with fail
 refine Pl.cutW (DW F N c vco (.slice a2 n2 c2) (.slice a3 n3 c3) (.slice a4 n4 c4) (.slice none 0 0) k w (machL zeroM nilS) [.slice none 0 0,.slice none 0 0,.slice none 0 0]) H0.out ?_
 intro Y0 hY0
 have k5:=hY0.cc.at 5 _ rfl
 have k4:=hY0.cc.at 4 _ rfl
 have kz:=hY0.cc.z
 have kf:=hY0.cc.f 4
 have m76:=hY0.bd.at 76 (.slice a4 n4 c4) rfl
 have mz:=hY0.bd.bx.z
 have HY0:=hid hY0
 clear hY0 H0
 go_upto_region 2 with fail
 refine Pl.cutW (DW F N c vco (.slice a2 n2 c2) (.slice a3 n3 c3) (.slice a4 n4 c4) (.slice a4 n4 c4) k w (machL zeroM nilS) [.slice none 0 0,.slice none 0 0,.slice none 0 0]) HY0.out.set4 ?_
 intro Y1 hY1
 have HY:=hid (hY1.kept (st0 Y1).drew)
 clear hY1 HY0 k5 k4 kz kf m76 mz
 refine wp_region_held_drew (S:=λw'=>w'.cell? ⟨c,0,none⟩=some (pt F.g 0)/\w'.rangeAt F.g 0 (machL k.s.M F.S)/\w'.rangeAt c 2 [.slice a2 n2 c2,.slice a3 n3 c3,.slice a4 n4 c4]) (by kernel_rfl) (HY.out.s) ?_
 intro hS
 refine tqH 0 ⟨some 15,_,_,_,_,none⟩ hS ?_
 simp only [Act.put,xA,xB,xC]
 refine tqH 1 ⟨some 16,_,_,_,_,none⟩ hS ?_
 simp only [Act.put,xA,xB,xC]
 refine tqH 2 ⟨some 17,_,_,_,_,none⟩ hS ?_
 simp only [Act.put,xA,xB,xC]
 refine tqH 6 ⟨some 21,_,_,_,_,none⟩ hS ?_
 simp only [Act.put,xA,xB,xC]
 refine tqH 7 ⟨some 22,_,_,_,_,none⟩ hS ?_
 simp only [Act.put,xA,xB,xC]
 refine tqH 8 ⟨some 23,_,_,_,_,none⟩ hS ?_
 simp only [Act.put,xA,xB,xC]
 refine wpAnyH_take (i:=3) (oi:=⟨some 18,_,_,_,_,none⟩) (v:=pt F.g 0) rfl (by kernel_rfl) (by kernel_rfl) (by kernel_rfl) (λ_ _ _ h=>h) (Or.inl ⟨by rfl,?_⟩) hS ?_
 ·intro w' hSw
  have hcc:=hSw.1
  have hcz:=World.block_lt_of_cell? w' _ hcc
  go_simp
  try (with_reducible rfl)
 simp only [Act.put,xA,xB,xC]
 refine tqH 4 ⟨some 19,_,_,_,_,none⟩ hS ?_
 simp only [Act.put,xA,xB,xC]
 refine wpAnyH_take (i:=5) (oi:=⟨some 20,_,_,_,_,none⟩) (v:=.agg (machL k.s.M F.S).toArray) rfl (by kernel_rfl) (by kernel_rfl) (by kernel_rfl) (λ_ _ _ h=>h) (Or.inl ⟨by rfl,λw' hSw=>zai 41 _ rfl F.g 0 rfl (machL k.s.M F.S) _ hSw.2.1 Tryz.underlying41 rfl zad⟩) hS ?_
 simp only [Act.put,xA,xB,xC]
 refine wpAnyH_take (i:=9) (oi:=⟨some 24,_,_,_,_,none⟩) (v:=.agg ([.slice a2 n2 c2,.slice a3 n3 c3,.slice a4 n4 c4]).toArray) rfl (by kernel_rfl) (by kernel_rfl) (by kernel_rfl) (λ_ _ _ h=>h) (Or.inl ⟨by rfl,λw' hSw=>zai 50 _ rfl c 2 rfl ([.slice a2 n2 c2,.slice a3 n3 c3,.slice a4 n4 c4]) _ hSw.2.2 Tryz.underlying50 rfl zaO⟩) hS ?_
 simp only [Act.put,xA,xB,xC]
 have HY1:=hid HY.out.put1
 refine za0 (i:=10) (op:=⟨none,_,_,_,_,none⟩) (by kernel_rfl) rfl rfl 41 _ _ rfl w.heap.size 0 (machL k.s.M F.S).toArray rfl rfl (HY.out.b1.there 0 75 (by rw [zah];omega)) zad (zaC _ _ HSI.out) HY1.out.s ?_
 have HY2:=hid HY1.out.put2
 have hth:=HY1.out.b2.there 0 3 (by simp)
 have hone:(([.slice a2 n2 c2,.slice a3 n3 c3,.slice a4 n4 c4]:List Value)).toArray.all (·.oneCell')=true:=by simp [Value.oneCell']
 have hss:=HY2.out.s
 clear hS
 refine za0 (i:=11) (op:=⟨none,_,_,_,_,none⟩) (by kernel_rfl) rfl rfl 50 _ _ rfl (w.heap.size+1) 0 #[.slice a2 n2 c2,.slice a3 n3 c3,.slice a4 n4 c4] rfl rfl hth zaO hone hss ?_
 refine wpAnyH_done (by kernel_rfl) ?_ _
 refine Pl.cutE (DW F N c vco (.slice a2 n2 c2) (.slice a3 n3 c3) (.slice a4 n4 c4) (.slice a4 n4 c4) k w (machL k.s.M F.S) [.slice a2 n2 c2,.slice a3 n3 c3,.slice a4 n4 c4]) HY2.out ?_
 intro V hV
 have HV:=hid hV
 clear hV HY HY1 HY2 hth hone hss
 go_wp2
 refine bodyPost_ret (v:=.tuple #[.agg (machL k.s.M F.S).toArray,.agg #[.slice a2 n2 c2,.slice a3 n3 c3,.slice a4 n4 c4]]) ?_ rfl ⟨_,rfl,⟨HV.out.bd.slAt,HV.out.bd.fit,HV.out.ln,HV.out.sm,HV.out.bd.ws⟩,HV.out.low⟩
 have l1:=run_loadVar_mid V w.heap.size 0 41 _ _ HV.out.b1.c Tryz.underlying41 rfl zad
 have l2:=run_loadVar_mid V (w.heap.size+1) 0 50 _ _ HV.out.b2.c Tryz.underlying50 rfl zaO
 simp only [results,Tryz.results34]
 simp
 show (Result.andThen (Sem.run Tryz.prog (loadVar 41 ⟨w.heap.size,0,none⟩) V) _)=_
 rw [l1]
 show (Result.andThen (Sem.run Tryz.prog (loadVar 50 ⟨w.heap.size+1,0,none⟩) V) _)=_
 rw [l2]
 rfl
end
theorem zey (M:Mach):∀ k,(M.xfer k).clock=M.clock
 | 0=>rfl
 | k+1=>zey M k
theorem zkc (M:Mach) (a:Int):(M.rdM a).2.clock=M.clock:=by
 unfold Mach.rdM
 split
 ·unfold Mach.portM
  split <;> rfl
 ·rfl
theorem zkd (M:Mach) (a:Int):(M.rdA a).2.clock=M.clock:=by
 unfold Mach.rdA
 split
 ·unfold Mach.portA
  split <;> rfl
 ·rfl
theorem zgz (M:Mach) (n:Int):(M.letGo n).clock=M.clock:=by
 unfold Mach.letGo
 split <;> rfl
theorem zke (M:Mach) (a n:Int):(M.wrM a n).clock=M.clock:=by
 unfold Mach.wrM
 split
 ·unfold Mach.putM
  split
  all_goals first
   | rfl
   | exact zey _ _
   | exact zgz _ _
 ·unfold Mach.memM
  split
  ·rfl
  ·split
   ·rfl
   ·split <;> rfl
theorem zkf (M:Mach) (a n:Int):(M.wrA a n).clock=M.clock:=by
 unfold Mach.wrA
 split
 ·unfold Mach.putA
  split
  ·rfl
  ·split <;> rfl
 ·unfold Mach.memA
  split
  ·rfl
  ·split
   ·rfl
   ·split
    ·split <;> rfl
    ·rfl
theorem za7 (s:Bst):s.stepMain.M.clock=s.M.clock:=by
 unfold Bst.stepMain
 split
 ·rfl
 ·show (C.step mainMem s.M.main ⟨s.M,0,s.l⟩ (s.M.t.g || s.M.b.g)).s.M.clock=s.M.clock
  exact C.keeps_step (m:=mainMem) (P:=λx=>x.M.clock=s.M.clock) (λx a h=>(zkc x.M a).trans h) (λx a b h=>(zke x.M a _).trans h) _ _ _ rfl
theorem zbG (s:Bst):s.stepAux.M.clock=s.M.clock:=by
 unfold Bst.stepAux
 split
 ·rfl
 ·show (C.step auxMem s.M.aux s s.M.rung).s.M.clock=s.M.clock
  exact C.keeps_step (m:=auxMem) (P:=λx=>x.M.clock=s.M.clock) (λx a h=>(zkd x.M a).trans h) (λx a b h=>(zkf x.M a _).trans h) _ _ _ rfl
theorem zcw:∀ (l:List Inp) (M:Mach),(M.pressed l).clock=M.clock
 | [],M=>rfl
 | x::l,M=>by
  unfold Mach.pressed
  split
  ·rw [zcw l,zdw]
  ·rfl
theorem zkg (M:Mach):M.line.length<=1:=by
 unfold Mach.line
 split <;> simp
theorem zdB (M:Mach):M.sample.length<=1:=by
 unfold Mach.sample
 split
 ·exact zgd _ 1
 ·simp
structure Cs.at (k0 k : Cs) (j : Nat) : Prop where
 clock:k.s.M.clock=k0.s.M.clock+j
 ln:k.ln.length<=k0.ln.length+j
 sm:k.sm.length<=k0.sm.length+j
 l:k.s.l.length<=k0.s.l.length+4*j
theorem zbp (k:Cs):k.now.s.M.clock=k.s.M.clock:=by
 show ((Bst.stepMain ⟨k.s.M.pressed k.co,k.s.n,k.s.l⟩).stepAux).M.clock=_
 rw [zbG,za7]
 exact zcw _ _
theorem zf4 {F:Fx} {N:Nat} (hF:Fb F N) (k0:Cs) (h0:k0.s.l.length<=100):∀ j:Nat,j<=20000->Cs.at k0 (k0.clocks j) j
 | 0,_=>⟨by simp [Cs.clocks],by simp [Cs.clocks],by simp [Cs.clocks],by simp [Cs.clocks]⟩
 | j+1,hj=>by
  have ih:=zf4 hF k0 h0 j (by omega)
  obtain ⟨k,hk⟩:∃ k,k=k0.clocks j:=⟨_,rfl⟩
  have e:k0.clocks (j+1)=k.clock:=by rw [hk];rfl
  rw [<- hk] at ih
  rw [e]
  obtain ⟨i1,i2,i3,i4⟩:=ih
  refine ⟨?_,?_,?_,?_⟩
  ·show k.now.s.M.clock+1=_
   rw [zbp,i1];push_cast;omega
  ·show (k.ln++(k.s.M.pressed k.co).line).length<=_
   have:=zkg (k.s.M.pressed k.co)
   rw [List.length_append];omega
  ·show (k.sm++(k.s.M.pressed k.co).sample).length<=_
   have:=zdB (k.s.M.pressed k.co)
   rw [List.length_append];omega
  ·show ((Bst.stepMain ⟨k.s.M.pressed k.co,k.s.n,k.s.l⟩).stepAux).l.length<=_
   have h1:(Bst.stepMain ⟨k.s.M.pressed k.co,k.s.n,k.s.l⟩).l=k.s.l:=zcO _
   have h2:=zkb hF (Bst.stepMain ⟨k.s.M.pressed k.co,k.s.n,k.s.l⟩) (by rw [h1];omega)
   rw [h1] at h2
   omega
theorem keep4 {W w1:World} {b:Nat} {r c:Int} {on g:Bool} (h:W.cell? ⟨b,0,none⟩=some (.int .u16 r)/\W.cell? ⟨b,1,none⟩=some (.int .u16 c)/\W.cell? ⟨b,2,none⟩=some (.bool on)/\W.cell? ⟨b,3,none⟩=some (.bool g)) (hb:Below W.heap.size W w1) :
 w1.cell? ⟨b,0,none⟩=some (.int .u16 r)/\w1.cell? ⟨b,1,none⟩=some (.int .u16 c)/\w1.cell? ⟨b,2,none⟩=some (.bool on)/\w1.cell? ⟨b,3,none⟩=some (.bool g):=by
 have hz:=World.block_lt_of_cell? W _ h.1
 exact ⟨(hb.cell (p:=⟨b,0,none⟩) hz).trans h.1,(hb.cell (p:=⟨b,1,none⟩) hz).trans h.2.1,(hb.cell (p:=⟨b,2,none⟩) hz).trans h.2.2.1,(hb.cell (p:=⟨b,3,none⟩) hz).trans h.2.2.2⟩
theorem znN (r c n:Int) (on g:Bool) (w:World) (hr:0<=r/\r<=65535) (hc:0<=c/\c<=65535) (hn:0<=n/\n<=20000) :
 Calls Tryz.prog 106 #[.agg #[.int .u16 r,.int .u16 c,.bool on,.bool g],.int .i64 n] w λe w'=>e = .returned (.tuple #[.agg #[.int .u16 r,.int .u16 (rnC r c on n),.bool on,.bool (rnG c on g n)],.int .i64 0])/\Below w.heap.size w w':=by
 cases on
 ·go_enter Tryz.func106,Tryz.ntmps106
  go_wp2
  go_region_held3 (λw'=>w'.cell? ⟨w.heap.size,0,none⟩=some (.int .u16 r)/\w'.cell? ⟨w.heap.size,1,none⟩=some (.int .u16 c)/\w'.cell? ⟨w.heap.size,2,none⟩=some (.bool false)/\w'.cell? ⟨w.heap.size,3,none⟩=some (.bool g))
   (first
     | with_reducible exact keep4 (by assumption) (by assumption)
     | (go_keep;done))
   (first
   | (go_at_call 189;refine (zfL _ _).mono ?_;rintro e w0 ⟨rfl,rfl⟩)
   | (go_at_call 114;refine (zg0 _ _ _ _ _).mono ?_;rintro e w1 ⟨rfl,hb1⟩;obtain ⟨k1,f1⟩:=bcell hb1;have z1:w.heap.size+1<w1.heap.size:=Nat.lt_of_lt_of_le (by simp) hb1.size))
  go_wp2
  have hX:=resT (stp (stA (st0 ((w.alloc (.cells #[.int .u16 r,.int .u16 c,.bool false,.bool g] 31)).alloc (.cells #[.int .u16 0,.int .u16 0,.bool false,.bool false] 31))) _).drew hb1)
  have hF:=fin4 r c false g hX.1 hX.2
  refine Pl.cutB (λY=>Below w.heap.size w Y/\Y.rangeAt (w.heap.size+1) 0 [.int .u16 r,.int .u16 c,.bool false,.bool g]) hF ?_
  rintro Y ⟨hY,hR⟩
  have hl:=zaZ Y _ _ _ _ _ hR
  refine bodyPost_ret (v:=.tuple #[.agg #[.int .u16 r,.int .u16 c,.bool false,.bool g],.int .i64 0]) ?_ rfl ⟨rfl,hY⟩
  simp only [results,Tryz.results106]
  simp
  show (Result.andThen (Sem.run Tryz.prog (loadVar 31 ⟨w.heap.size+1,0,none⟩) Y) _)=_
  rw [hl]
  rfl
 ·go_enter Tryz.func106,Tryz.ntmps106
  go_wp2
  go_region_held3 (λw'=>w'.cell? ⟨w.heap.size,0,none⟩=some (.int .u16 r)/\w'.cell? ⟨w.heap.size,1,none⟩=some (.int .u16 c)/\w'.cell? ⟨w.heap.size,2,none⟩=some (.bool true)/\w'.cell? ⟨w.heap.size,3,none⟩=some (.bool g))
   (first
     | with_reducible exact keep4 (by assumption) (by assumption)
     | (go_keep;done))
   (first
   | (go_at_call 189;refine (zfL _ _).mono ?_;rintro e w0 ⟨rfl,rfl⟩)
   | (go_at_call 114;refine (zhz _ _ _ _ _ _ hr hc hn (Pl.new _ _ _ _ (by simp)) (by simp)).mono ?_;rintro e w1 ⟨rfl,hb1⟩;obtain ⟨k1,f1⟩:=bcell hb1;have z1:w.heap.size+1<w1.heap.size:=Nat.lt_of_lt_of_le (by simp) hb1.size))
  go_wp2
  have hX:=resT (stp (stA (st0 ((w.alloc (.cells #[.int .u16 r,.int .u16 c,.bool true,.bool g] 31)).alloc (.cells #[.int .u16 0,.int .u16 0,.bool false,.bool false] 31))) _).drew hb1)
  have hF:=fin4 r (rnC r c true n) true (rnG c true g n) hX.1 hX.2
  refine Pl.cutB (λY=>Below w.heap.size w Y/\Y.rangeAt (w.heap.size+1) 0 [.int .u16 r,.int .u16 (rnC r c true n),.bool true,.bool (rnG c true g n)]) hF ?_
  rintro Y ⟨hY,hR⟩
  have hl:=zaZ Y _ _ _ _ _ hR
  refine bodyPost_ret (v:=.tuple #[.agg #[.int .u16 r,.int .u16 (rnC r c true n),.bool true,.bool (rnG c true g n)],.int .i64 0]) ?_ rfl ⟨rfl,hY⟩
  simp only [results,Tryz.results106]
  simp
  show (Result.andThen (Sem.run Tryz.prog (loadVar 31 ⟨w.heap.size+1,0,none⟩) Y) _)=_
  rw [hl]
  rfl
structure Bat (W : World) (b : Nat) (l a : Int) (g : Bool) (f : Int) : Prop where
 z:b<W.heap.size
 c0:W.cell? ⟨b,0,none⟩=some (.int .i64 l)
 c1:W.cell? ⟨b,1,none⟩=some (.int .i64 a)
 c2:W.cell? ⟨b,2,none⟩=some (.bool g)
 c3:W.cell? ⟨b,3,none⟩=some (.int .i64 f)
 f:∀ o,W.frozen? ⟨b,o,none⟩=false
section
variable {W w1 : World} {b : Nat} {l a f : Int} {g : Bool}
theorem Bat.kept (h:Bat W b l a g f) (hb:Below W.heap.size W w1):Bat w1 b l a g f :=
 ⟨Nat.lt_of_lt_of_le h.z hb.size,(hb.cell (p:=⟨b,0,none⟩) h.z).trans h.c0,(hb.cell (p:=⟨b,1,none⟩) h.z).trans h.c1,(hb.cell (p:=⟨b,2,none⟩) h.z).trans h.c2,(hb.cell (p:=⟨b,3,none⟩) h.z).trans h.c3,λo=>(hb.frozen (p:=⟨b,o,none⟩) h.z).trans (h.f o)⟩
theorem Bat.over (h:Bat W b l a g f) (o:Obj):Bat (W.alloc o) b l a g f:=h.kept (stA (st0 W) o)
theorem Bat.new (W:World) (l a:Int) (g:Bool) (f:Int):Bat (W.alloc (.cells #[.int .i64 l,.int .i64 a,.bool g,.int .i64 f] 38)) W.heap.size l a g f :=
 ⟨by simp,Pl.new _ _ _ _ rfl,Pl.new _ _ _ _ rfl,Pl.new _ _ _ _ rfl,Pl.new _ _ _ _ rfl,λo=>Lib.frozen_of_heap (heap_alloc_new W _) o⟩
theorem Bat.far (h:Bat W b l a g f) {b' o':Nat} (hne:b'≠b) (v:Value):Bat (W.setCell ⟨b',o',none⟩ v) b l a g f:=by
 have e:∀ o,(W.setCell ⟨b',o',none⟩ v).cell? ⟨b,o,none⟩=W.cell? ⟨b,o,none⟩:=λo=>World.cell?_setCell_far W _ _ v hne
 exact ⟨by simpa using h.z,(e 0).trans h.c0,(e 1).trans h.c1,(e 2).trans h.c2,(e 3).trans h.c3,λo=>by simpa using h.f o⟩
theorem Bat.put2 (h:Bat W b l a g f) (g':Bool):Bat (W.setCell ⟨b,2,none⟩ (.bool g')) b l a g' f:=by
 have e:∀ o,o≠2->(W.setCell ⟨b,2,none⟩ (.bool g')).cell? ⟨b,o,none⟩=W.cell? ⟨b,o,none⟩:=λo ho=>World.cell?_setCell_other _ _ _ _ (by intro e;exact ho (congrArg Addr.off e).symm)
 exact ⟨by simpa using h.z,(e 0 (by omega)).trans h.c0,(e 1 (by omega)).trans h.c1,World.cell?_setCell_same' _ _ _ (by rw [h.c2];rfl),(e 3 (by omega)).trans h.c3,λo=>by simpa using h.f o⟩
theorem Bat.drew (h:Bat W b l a g f):Bat W.drew b l a g f:=⟨h.z,h.c0,h.c1,h.c2,h.c3,h.f⟩
theorem Bat.range (h:Bat W b l a g f):W.rangeAt b 0 [.int .i64 l,.int .i64 a,.bool g,.int .i64 f]:=λj v hj=>by
 rw [Nat.zero_add]
 match j,hj with
 | 0,hj=>rw [h.c0];simpa using hj
 | 1,hj=>rw [h.c1];simpa using hj
 | 2,hj=>rw [h.c2];simpa using hj
 | 3,hj=>rw [h.c3];simpa using hj
theorem Bat.puts (h:Bat W b l a g f) (l' a':Int) (g':Bool) (f':Int):Bat ((((W.setCell ⟨b,0,none⟩ (.int .i64 l')).setCell ⟨b,1,none⟩ (.int .i64 a')).setCell ⟨b,2,none⟩ (.bool g')).setCell ⟨b,3,none⟩ (.int .i64 f')) b l' a' g' f':=by
 have ht:W.there b 0 4:=λj hj=>by
  refine ⟨?_,h.f _⟩
  rw [Nat.zero_add]
  match j,hj with
  | 0,_=>rw [h.c0];rfl
  | 1,_=>rw [h.c1];rfl
  | 2,_=>rw [h.c2];rfl
  | 3,_=>rw [h.c3];rfl
 have hr:=World.rangeAt_setCells_same W b 0 [.int .i64 l',.int .i64 a',.bool g',.int .i64 f'] ht
 simp only [World.setCells,Nat.zero_add,Nat.reduceAdd] at hr
 exact ⟨by simpa using h.z,hr 0 _ rfl,hr 1 _ rfl,hr 2 _ rfl,hr 3 _ rfl,λo=>by simpa using h.f o⟩
theorem Bat.below (h:Bat W b l a g f) {w:World} (hB:Below w.heap.size w W) (hb:w.heap.size<=b) (l' a':Int) (g':Bool) (f':Int):Below w.heap.size w ((((W.setCell ⟨b,0,none⟩ (.int .i64 l')).setCell ⟨b,1,none⟩ (.int .i64 a')).setCell ⟨b,2,none⟩ (.bool g')).setCell ⟨b,3,none⟩ (.int .i64 f')) :=
 (((hB.setCell hb _).setCell hb _).setCell hb _).setCell hb _
end
structure RunB (w : World) (B : Nat) (l a : Int) (g : Bool) (f : Int) (W : World) : Prop where
 low:Below w.heap.size w W
 t:Bat W w.heap.size l a g f
 r:Bat W (w.heap.size+1) 0 0 false 0
 q:W.cell? ⟨B,0,none⟩=some (.int .i64 640)
 z:B<W.heap.size
 ne:w.heap.size<B
theorem RunB.drew {w W:World} {B:Nat} {l a f:Int} {g:Bool} (h:RunB w B l a g f W):RunB w B l a g f W.drew:=⟨h.low.drew,h.t.drew,h.r.drew,h.q,h.z,h.ne⟩
theorem zkh {w w1:World} {l a f:Int} {g x:Bool}
 (hb1:Below ((w.alloc (.cells #[.int .i64 l,.int .i64 a,.bool g,.int .i64 f] 38)).alloc (.cells #[.int .i64 0,.int .i64 0,.bool false,.int .i64 0] 38)).heap.size ((w.alloc (.cells #[.int .i64 l,.int .i64 a,.bool g,.int .i64 f] 38)).alloc (.cells #[.int .i64 0,.int .i64 0,.bool false,.int .i64 0] 38)) w1) :
 RunB w (w1.heap.size+1) l a x f (((w1.setCell ⟨w.heap.size,2,none⟩ (.bool x)).alloc (.cells #[.int .i64 512] 3)).alloc (.cells #[.int .i64 640] 3)):=by
 have hB:=stp (stA (stA (st0 w) _) _) hb1
 have ht:=((Bat.new w l a g f).over (.cells #[.int .i64 0,.int .i64 0,.bool false,.int .i64 0] 38)).kept hb1
 have hr0:=Bat.new (w.alloc (.cells #[.int .i64 l,.int .i64 a,.bool g,.int .i64 f] 38)) 0 0 false 0
 have e:(w.alloc (.cells #[.int .i64 l,.int .i64 a,.bool g,.int .i64 f] 38)).heap.size=w.heap.size+1:=by simp
 rw [e] at hr0
 have hr:=hr0.kept hb1
 refine ⟨stA (stA (hB.setCell (Nat.le_refl _) _) _) _,((ht.put2 x).over _).over _,((hr.far (by omega) _).over _).over _,Pl.new _ _ _ _ (by simp),by simp,?_⟩
 have:=ht.z
 omega
theorem Bm.resB {w w1:World} {l a f:Int} {g:Bool}
 (hb1:Below ((w.alloc (.cells #[.int .i64 l,.int .i64 a,.bool g,.int .i64 f] 38)).alloc (.cells #[.int .i64 0,.int .i64 0,.bool false,.int .i64 0] 38)).heap.size ((w.alloc (.cells #[.int .i64 l,.int .i64 a,.bool g,.int .i64 f] 38)).alloc (.cells #[.int .i64 0,.int .i64 0,.bool false,.int .i64 0] 38)) w1) :
 Below w.heap.size w ((((w1.setCell ⟨w.heap.size+1,0,none⟩ (.int .i64 0)).setCell ⟨w.heap.size+1,1,none⟩ (.int .i64 0)).setCell ⟨w.heap.size+1,2,none⟩ (.bool false)).setCell ⟨w.heap.size+1,3,none⟩ (.int .i64 0))/\((((w1.setCell ⟨w.heap.size+1,0,none⟩ (.int .i64 0)).setCell ⟨w.heap.size+1,1,none⟩ (.int .i64 0)).setCell ⟨w.heap.size+1,2,none⟩ (.bool false)).setCell ⟨w.heap.size+1,3,none⟩ (.int .i64 0)).rangeAt (w.heap.size+1) 0 [.int .i64 0,.int .i64 0,.bool false,.int .i64 0]:=by
 have hB:=stp (stA (stA (st0 w) _) _) hb1
 have hr0:=Bat.new (w.alloc (.cells #[.int .i64 l,.int .i64 a,.bool g,.int .i64 f] 38)) 0 0 false 0
 have e:(w.alloc (.cells #[.int .i64 l,.int .i64 a,.bool g,.int .i64 f] 38)).heap.size=w.heap.size+1:=by simp
 rw [e] at hr0
 have hr:=hr0.kept hb1
 exact ⟨hr.below hB (by omega) 0 0 false 0,(hr.puts 0 0 false 0).range⟩
theorem RunB.all {w W:World} {B:Nat} {l a f:Int} {g:Bool} (h:RunB w B l a g f W):W.cell? ⟨w.heap.size,3,none⟩=some (.int .i64 f)/\W.frozen? ⟨w.heap.size,3,none⟩=false/\RunB w B l a g f W:=⟨h.t.c3,h.t.f 3,h⟩
theorem RunB.fin {w W:World} {B:Nat} {l a f:Int} {x:Bool} (h:RunB w B l a x f W) (l' a' f':Int) :
 Below w.heap.size w (((((((W.setCell ⟨w.heap.size,3,none⟩ (.int .i64 f')).setCell ⟨w.heap.size,0,none⟩ (.int .i64 l')).setCell ⟨w.heap.size,1,none⟩ (.int .i64 a')).setCell ⟨w.heap.size+1,0,none⟩ (.int .i64 l')).setCell ⟨w.heap.size+1,1,none⟩ (.int .i64 a')).setCell ⟨w.heap.size+1,2,none⟩ (.bool x)).setCell ⟨w.heap.size+1,3,none⟩ (.int .i64 f')).drew/\(((((((W.setCell ⟨w.heap.size,3,none⟩ (.int .i64 f')).setCell ⟨w.heap.size,0,none⟩ (.int .i64 l')).setCell ⟨w.heap.size,1,none⟩ (.int .i64 a')).setCell ⟨w.heap.size+1,0,none⟩ (.int .i64 l')).setCell ⟨w.heap.size+1,1,none⟩ (.int .i64 a')).setCell ⟨w.heap.size+1,2,none⟩ (.bool x)).setCell ⟨w.heap.size+1,3,none⟩ (.int .i64 f')).drew.rangeAt (w.heap.size+1) 0 [.int .i64 l',.int .i64 a',.bool x,.int .i64 f']:=by
 have hb:=((h.low.setCell (p:=⟨w.heap.size,3,none⟩) (Nat.le_refl _) (.int .i64 f')).setCell (p:=⟨w.heap.size,0,none⟩) (Nat.le_refl _) (.int .i64 l')).setCell (p:=⟨w.heap.size,1,none⟩) (Nat.le_refl _) (.int .i64 a')
 have hr:=((h.r.far (by omega) (.int .i64 f') (o':=3) (b':=w.heap.size)).far (by omega) (.int .i64 l') (o':=0) (b':=w.heap.size)).far (by omega) (.int .i64 a') (o':=1) (b':=w.heap.size)
 exact ⟨(hr.below hb (by omega) l' a' x f').drew,(hr.puts l' a' x f').drew.range⟩
theorem zez (l a f n:Int) (g:Bool) (w:World) (h:BOk l a f) (hn:0<=n/\n<=20000) :
 Calls Tryz.prog 66 #[.agg #[.int .i64 l,.int .i64 a,.bool g,.int .i64 f],.int .i64 n] w λe w'=>e = .returned (.tuple #[.agg #[.int .i64 (bmL l a n),.int .i64 (bmA l a n),.bool (bmG l a g n),.int .i64 (bmF l a f n)],.int .i64 0])/\Below w.heap.size w w':=by
 have H:=hid h
 have hw:=zbT hn.1 hn.2
 obtain ⟨l0,l1,a0,a1,f0,f1⟩:=h
 obtain ⟨n0,n1⟩:=hn
 have p0:0<=l*64+a:=by omega
 have p1:l*64+a<=639:=by omega
 have m1:Int.tmod (l*64+a+n) 640=(l*64+a+n)%640:=Int.tmod_eq_emod_of_nonneg (by omega)
 have m2:Int.tmod (l*64+a+n) 64=(l*64+a+n)%64:=Int.tmod_eq_emod_of_nonneg (by omega)
 have m3:Int.tdiv ((l*64+a+n)%640) 64=(l*64+a+n)%640/64:=Int.tdiv_eq_ediv_of_nonneg (by omega)
 cases g
 ·go_enter Tryz.func66,Tryz.ntmps66
  go_wp2_with (first
   | (go_at_call 28;refine (za8 l a f _ _ H.out).mono ?_;rintro e w1 ⟨rfl,hb1⟩;obtain ⟨k1,f1⟩:=bcell hb1;have z1:w.heap.size+1<w1.heap.size:=Nat.lt_of_lt_of_le (by simp) hb1.size;have z0:w.heap.size<w1.heap.size:=Nat.lt_of_succ_lt z1)
   | (go_at_call 54;refine (zaM _ _ _).mono ?_;rintro e w0 ⟨rfl,rfl⟩)
   | (go_at_call 119;refine (zdc _ _).mono ?_;rintro e w0 ⟨rfl,rfl⟩)
   | (go_at_call 195;refine (zbt 512 _ w1.heap.size _ (by omega) (by omega) (by simp) (by simp;omega)).mono ?_;rintro e w0 ⟨rfl,rfl⟩))
  have hG:bmG l a false n=decide ((l*64+a+640-512)/640<(l*64+a+n+640-512)/640):=by
   unfold bmG;rw [Bool.false_or,decide_eq_decide];omega
  have HG:=hid hG
  clear hG
  refine Pl.cutW (λW=>RunB w (w1.heap.size+1) l a (bmG l a false n) f W) (by rw [HG.out];exact zkh hb1) ?_
  rintro W hK
  have HK:=hid hK
  clear hK
  generalize hB:w1.heap.size+1=B at *
  clear hb1 k1 f1 z1 z0
  have tz:=HK.out.t.z
  obtain ⟨_,t0,t1,t2,t3,_⟩:=HK.out.t
  have ew:IntKind.i64.wrap (f+(l*64+a+n)/640)=f+(l*64+a+n)/640:=by rw [IntKind.wrap_i64];omega
  obtain ⟨_,r0,r1,r2,r3,_⟩:=HK.out.r
  have tf:=HK.out.t.f
  have rz:=HK.out.r.z
  have rf:=HK.out.r.f
  go_region_with ((go_at_call 195;refine (zbt 640 _ B _ (by omega) (by omega) (by first|exact HK.out.q|exact HK.out.drew.q) (by first|exact HK.out.z|exact HK.out.drew.z)).mono ?_;rintro e w0 ⟨rfl,rfl⟩))
  all_goals go_wp2
  all_goals
   have hF:=HK.out.fin ((l*64+a+n)%640/64) ((l*64+a+n)%64) (f+(l*64+a+n)/640)
   refine Pl.cutB (λY=>Below w.heap.size w Y/\Y.rangeAt (w.heap.size+1) 0 [.int .i64 (bmL l a n),.int .i64 (bmA l a n),.bool (bmG l a false n),.int .i64 (bmF l a f n)]) hF ?_
   rintro Y ⟨hY,hR⟩
   have hl:=zcg Y _ _ _ _ _ hR
   refine bodyPost_ret (v:=.tuple #[.agg #[.int .i64 (bmL l a n),.int .i64 (bmA l a n),.bool (bmG l a false n),.int .i64 (bmF l a f n)],.int .i64 0]) ?_ rfl ⟨rfl,hY⟩
   simp only [results,Tryz.results66]
   simp
   show (Result.andThen (Sem.run Tryz.prog (loadVar 38 ⟨w.heap.size+1,0,none⟩) Y) _)=_
   rw [hl]
   rfl
 ·go_enter Tryz.func66,Tryz.ntmps66
  go_wp2_with (first
   | (go_at_call 28;refine (za8 l a f _ _ H.out).mono ?_;rintro e w1 ⟨rfl,hb1⟩;obtain ⟨k1,f1⟩:=bcell hb1;have z1:w.heap.size+1<w1.heap.size:=Nat.lt_of_lt_of_le (by simp) hb1.size;have z0:w.heap.size<w1.heap.size:=Nat.lt_of_succ_lt z1)
   | (go_at_call 54;refine (zaM _ _ _).mono ?_;rintro e w0 ⟨rfl,rfl⟩)
   | (go_at_call 119;refine (zdc _ _).mono ?_;rintro e w0 ⟨rfl,rfl⟩)
   | (go_at_call 195;refine (zbt 512 _ w1.heap.size _ (by omega) (by omega) (by simp) (by simp;omega)).mono ?_;rintro e w0 ⟨rfl,rfl⟩))
  have hG:bmG l a true n=true:=by unfold bmG;rw [Bool.true_or]
  have HG:=hid hG
  clear hG
  refine Pl.cutW (λW=>RunB w (w1.heap.size+1) l a (bmG l a true n) f W) (by rw [HG.out];exact zkh hb1) ?_
  rintro W hK
  have HK:=hid hK
  clear hK
  generalize hB:w1.heap.size+1=B at *
  clear hb1 k1 f1 z1 z0
  have tz:=HK.out.t.z
  obtain ⟨_,t0,t1,t2,t3,_⟩:=HK.out.t
  have ew:IntKind.i64.wrap (f+(l*64+a+n)/640)=f+(l*64+a+n)/640:=by rw [IntKind.wrap_i64];omega
  obtain ⟨_,r0,r1,r2,r3,_⟩:=HK.out.r
  have tf:=HK.out.t.f
  have rz:=HK.out.r.z
  have rf:=HK.out.r.f
  go_region_with ((go_at_call 195;refine (zbt 640 _ B _ (by omega) (by omega) (by first|exact HK.out.q|exact HK.out.drew.q) (by first|exact HK.out.z|exact HK.out.drew.z)).mono ?_;rintro e w0 ⟨rfl,rfl⟩))
  all_goals go_wp2
  all_goals
   have hF:=HK.out.fin ((l*64+a+n)%640/64) ((l*64+a+n)%64) (f+(l*64+a+n)/640)
   refine Pl.cutB (λY=>Below w.heap.size w Y/\Y.rangeAt (w.heap.size+1) 0 [.int .i64 (bmL l a n),.int .i64 (bmA l a n),.bool (bmG l a true n),.int .i64 (bmF l a f n)]) hF ?_
   rintro Y ⟨hY,hR⟩
   have hl:=zcg Y _ _ _ _ _ hR
   refine bodyPost_ret (v:=.tuple #[.agg #[.int .i64 (bmL l a n),.int .i64 (bmA l a n),.bool (bmG l a true n),.int .i64 (bmF l a f n)],.int .i64 0]) ?_ rfl ⟨rfl,hY⟩
   simp only [results,Tryz.results66]
   simp
   show (Result.andThen (Sem.run Tryz.prog (loadVar 38 ⟨w.heap.size+1,0,none⟩) Y) _)=_
   rw [hl]
   rfl
theorem zeA (l a f n:Int) (g:Bool) (w:World) (h:¬ BOk l a f \/ (BOk l a f /\ ¬ (0<=n/\n<=20000))) :
 Calls Tryz.prog 66 #[.agg #[.int .i64 l,.int .i64 a,.bool g,.int .i64 f],.int .i64 n] w λe w'=>e = .returned (.tuple #[.agg #[.int .i64 0,.int .i64 0,.bool false,.int .i64 0],.int .i64 3])/\Below w.heap.size w w':=by
 rcases h with h|⟨h,hn⟩
 ·have H:=hid h
  clear h
  go_enter Tryz.func66,Tryz.ntmps66
  go_wp2_with (go_at_call 28;refine (zb6 l a f _ _ H.out).mono ?_;rintro e w1 ⟨rfl,hb1⟩;obtain ⟨k1,f1⟩:=bcell hb1;have z1:w.heap.size+1<w1.heap.size:=Nat.lt_of_lt_of_le (by simp) hb1.size;have z0:w.heap.size<w1.heap.size:=Nat.lt_of_succ_lt z1)
  refine Pl.cutB (λY=>Below w.heap.size w Y/\Y.rangeAt (w.heap.size+1) 0 [.int .i64 0,.int .i64 0,.bool false,.int .i64 0]) (Bm.resB hb1) ?_
  rintro Y ⟨hY,hR⟩
  have hl:=zcg Y _ _ _ _ _ hR
  refine bodyPost_ret (v:=.tuple #[.agg #[.int .i64 0,.int .i64 0,.bool false,.int .i64 0],.int .i64 3]) ?_ rfl ⟨rfl,hY⟩
  simp only [results,Tryz.results66]
  simp
  show (Result.andThen (Sem.run Tryz.prog (loadVar 38 ⟨w.heap.size+1,0,none⟩) Y) _)=_
  rw [hl]
  rfl
 ·have H:=hid h
  have hw:=ze1 hn
  clear h hn
  go_enter Tryz.func66,Tryz.ntmps66
  go_wp2_with (first
   | (go_at_call 28;refine (za8 l a f _ _ H.out).mono ?_;rintro e w1 ⟨rfl,hb1⟩;obtain ⟨k1,f1⟩:=bcell hb1;have z1:w.heap.size+1<w1.heap.size:=Nat.lt_of_lt_of_le (by simp) hb1.size;have z0:w.heap.size<w1.heap.size:=Nat.lt_of_succ_lt z1)
   | (go_at_call 54;refine (zaM _ _ _).mono ?_;rintro e w0 ⟨rfl,rfl⟩))
  refine Pl.cutB (λY=>Below w.heap.size w Y/\Y.rangeAt (w.heap.size+1) 0 [.int .i64 0,.int .i64 0,.bool false,.int .i64 0]) (Bm.resB hb1) ?_
  rintro Y ⟨hY,hR⟩
  have hl:=zcg Y _ _ _ _ _ hR
  refine bodyPost_ret (v:=.tuple #[.agg #[.int .i64 0,.int .i64 0,.bool false,.int .i64 0],.int .i64 3]) ?_ rfl ⟨rfl,hY⟩
  simp only [results,Tryz.results66]
  simp
  show (Result.andThen (Sem.run Tryz.prog (loadVar 38 ⟨w.heap.size+1,0,none⟩) Y) _)=_
  rw [hl]
  rfl
end Go.Proofs.YtbennamieealbaaGreatDoor
