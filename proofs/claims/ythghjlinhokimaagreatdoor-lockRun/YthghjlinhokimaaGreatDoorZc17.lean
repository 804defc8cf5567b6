/-
  Parts of a proof, joined.
-/
import Derived.Test.YthghjlinhokimaaGreatDoorZcA
import Derived.Test.YthghjlinhokimaaGreatDoorZc16
import Derived.Test.YthghjlinhokimaaGreatDoorZc15
import Derived.Test.YthghjlinhokimaaGreatDoorZc14
set_option linter.all false
set_option maxRecDepth 100000
set_option maxHeartbeats 6400000
namespace Go.Proofs.YthghjlinhokimaaGreatDoor
open Go.ChangeShapes Go.WideShapes Go.ChangeAt Go.RowKit Go.Proofs.Tryz
section
variable {F : Fx} {W : World} {M M' : Mach} {tk : Tk}
theorem Bd.fresh(h:Bd F W M tk)(a:F.T W.heap.size):False:=by
 have h1:=h.bx.z;obtain⟨_,_,_,h2⟩:=h.ramV;obtain⟨_,_,_,h3⟩:=h.ownV;obtain⟨_,_,_,h4⟩:=h.viV;have h2:=h2.z;have h3:=h3.z;have h4:=h4.z;rcases a with e|e|e|e <;> omega
theorem zoI(h:Bd F W M tk)(o:Nat)(b x1:Int)(l:ik F M tk o 0 b)(h1:ik F M tk o 1 x1)(b0:0<=b/\b<=255)(b1:0<=x1/\x1<=255):Calls prog 131 #[iX F.g o,.int .u16 0] W λe w'=>e=.returned (.int .u16 (b*256+x1))/\Bd F w' M tk/\Bt F W w':=by
 have H:=hid h;have hB:=h.big;clear h;go_enter func131,ntmps131;go_wp2_with (first
  | (go_at_call 211;refine(tx b x1 _ b0 b1).mono ?_;rintro e n ⟨rfl,rfl⟩)
  | (go_at_call 210;refine(Bu.byte_at c.out o 1 x1 h1).mono ?_;rintro e w2 ⟨rfl,d,f⟩)
  | (go_at_call 210;refine(Bu.byte_at (H.out.over _) o 0 b l).mono ?_;rintro e w1 ⟨rfl,j,a⟩;have c:=hid j;have hc:=λi=>a.cell (k:=W.heap.size) (by simp) (λm=>H.out.fresh m) i;have p:W.heap.size<w1.heap.size:=ap (by simp) a.size))
 go_ret;exact⟨U,d,Mv.trans (Mv.trans (Mv.of_below hB (stA (J _) _)) a) f⟩
end
section
variable {F : Fx} {W : World} {M M' : Mach} {tk : Tk}
def gD(x:Int):List Value:=[.int .u16 0,.int .u16 0,.int .u16 0,.int .u16 0,.int .u16 0,.int .u16 0,.int .u16 0,.int .u16 0,.int .u16 x,.bool false,.bool false,.bool false,.bool false,.bool false,.bool false]
theorem zlN(hi lo:Int):gD (hi*256+lo)=bG (dO hi lo):=rfl
theorem nU:(Tryz.prog.info? 25).map (·.size)=some 15:=by kernel_rfl
theorem sC(x:Int):(#[.int .u16 0,.int .u16 0,.int .u16 0,.int .u16 0,.int .u16 0,.int .u16 0,.int .u16 0,.int .u16 0,.int .u16 x,.bool false,.bool false,.bool false,.bool false,.bool false,.bool false]:Array Value).all (·.oneCell')=true:=by simp[Value.oneCell']
theorem zii{Y:World}{b:Nat}{x:Int}(h:Bx Y b (gD x)):(loadVar 25 ⟨b,0,none⟩).run prog Y=.ok (.agg (gD x).toArray) Y :=
 run_loadVar_mid Y b 0 25 _ _ h.c underlying25 rfl nU
theorem Rw.off{v:Value}{k:Nat}{l0 l:List UInt8}{w1:World}{b:Nat}(g:Rw W v k l0)(h:Rw w1 v k l)(hb:W.heap.size<=b)(o:Nat)(vs:List Value):Rw (w1.setCells b o vs) v k l:=by
 rcases h with h|⟨a,e,i,j⟩
 ·exact Or.inl h
 ·rcases g with⟨d,_⟩|⟨f,d,_,c⟩
  ·rw[d] at e;cases e
  ·exact Or.inr ⟨a,e,i,j.fars (by have:=c.z;omega) o vs⟩
theorem Bd.off{M0:Mach}{w1:World}{b:Nat}(a:Bd F W M0 tk)(h:Bd F w1 M tk)(hb:W.heap.size<=b)(o:Nat)(vs:List Value):Bd F (w1.setCells b o vs) M tk:=by
 refine⟨h.bx.fars (by have:=a.bx.z;omega) o vs,a.mr.off h.mr hb o vs,a.ar.off h.ar hb o vs,a.ra.off h.ra hb o vs,a.ow.off h.ow hb o vs,a.vi.off h.vi hb o vs,λx u c=>?_,h.nd,h.fit,by rw[lU];exact h.big,fF h.ws (λk d=>fO (by have:=(a.ws.lt k d).2;omega) _ _ _),h.wd⟩;have e:x≠b:=by have:=(a.env x u c).1;omega
 obtain⟨e1,e2⟩:=h.env x u c;exact⟨by rw[lU];exact e1,(am (w:=w1) (fO e _ _ _)).trans e2⟩
theorem Bt.off{b:Nat}(hB:F.B<=W.heap.size)(hb:W.heap.size<=b):∀(vs:List Value) (o:Nat) (w1:World),Bt F W w1->Bt F W (w1.setCells b o vs)
 | [],o,w1,h=>h
 | v::vs,o,w1,h=>Bt.off hB hb vs (o+1) _ (Mv.setCell h (ax hB hb) (Or.inr hb) v)
theorem Bt.below(h:Bd F W M tk){w0:World}(hb:Below W.heap.size W w0):Bt F W w0:=Mv.of_below h.big hb
theorem zeT(h:Bd F W M tk)(o:Nat)(b x1:Int)(q:ik F M tk o 0 b)(h1:ik F M tk o 1 x1)(b0:0<=b/\b<=255)(b1:0<=x1/\x1<=255):Calls prog 68 #[iX F.g o] W λe w'=>e=.returned (.agg (gD (b*256+x1)).toArray)/\Bd F w' M tk/\Bt F W w':=by
 have H:=hid h;have hB:=h.big;clear h;go_enter func68,ntmps68;go_wp2_with (first
  | (go_at_call 131;refine(zoI ((H.out.over _).over _) o b x1 q h1 b0 b1).mono ?_;rintro e w1 ⟨rfl,c,a⟩;have p:=hid (Bx.same (Bx.new _ (gD 0) _ (by simp)) a.size (a.block (W.heap.size+1) (by simp) (λr=>(H.out.over (.cells #[dX 132 F.g o,dX 133 F.g o] 151)).fresh (by simpa using r))));have j:=hid c;have k:=hid a;clear c a)
  | (refine wpList_store_mid U 25 _ _ U (W.heap.size+1) 0 _ U U (Bx.there p.out 0 15 (by simp[gD])) nU (sC _) ?_
     refine Pl.cutL (λY=>Bd F Y M tk/\Bt F W Y/\Bx Y (W.heap.size+1) (gD (b*256+x1))) ⟨?_,?_,?_⟩ ?_
     ·exact Bd.off H.out j.out (ek _) 0 _
     ·exact Bt.off hB (ek _) _ 0 _ (Mv.trans (Bt.below H.out (stA (stA (J _) _) _)) k.out)
     ·exact p.out.puts 0 (gD (b*256+x1)) (by simp[gD])
     rintro Y ⟨d,f,i⟩;have l:=hid d;have m:=hid f;have n:=hid i;clear d f i))
 exact ao (v:=.agg _) (by simp only[results,results68];simp;exact Pl.res (zii n.out)) U ⟨U,l.out,m.out⟩
end
theorem ou(C:List Value):∀(a B ai:List Value),a.length=B.length->gN (ai++(B++C)) ai.length a=ai++(a++C)
 | [],[],ai,_=>rfl
 | v::vs,b::bs,ai,h=>by
  have e:(ai++(b::bs++C)).set ai.length v=(ai++[v])++(bs++C):=by simp
  have c:=ou C vs bs (ai++[v]) (by simpa using h);simp only[aC,bR,eO,aN] at c;show gN ((ai++(b::bs++C)).set ai.length v) (ai.length+1) vs=_;rw[e,c];simp
def mR(M:Mach):List Value:=[.int .u8 M.p0.d,.bool M.p0.l,.int .u8 M.p0.s,.int .u8 M.p1.d,.bool M.p1.l,.int .u8 M.p1.s,.int .u16 M.t.r,.int .u16 M.t.c,.bool M.t.on,.bool M.t.g]
def o8(M:Mach):List Value:=[.int .i64 M.b.l,.int .i64 M.b.a,.bool M.b.g,.int .i64 M.b.f,.int .u16 M.fr,.int .u16 M.to,.bool M.granted,.bool M.held,.int .u8 M.m0,.int .u8 M.m1,.bool M.rung,.int .i64 M.clock,.int .i64 M.mready,.int .i64 M.aready]
def dA(s:Sd):List Value:=[.int .u16 s.a.p,.int .u16 s.a.c,.int .u8 s.a.l,.bool s.a.h,.int .u16 s.a.n,.int .u16 s.b.p,.int .u16 s.b.c,.int .u8 s.b.l,.bool s.b.h,.int .u16 s.b.n,.int .u16 s.c.p,.int .u16 s.c.c,.int .u8 s.c.l,.bool s.c.h,.int .u16 s.c.n,.int .i64 s.w]
theorem znw(M:Mach):oY M=mR M++(dA M.s++o8 M):=rfl
theorem Fx.putMain(F:Fx)(M:Mach)(tk:Tk)(c:C.Cpu):gN (F.cells M tk) 0 (bG c)=F.cells { M with main:=c } tk:=by
 unfold Fx.cells D;rw[bp];exact ou _ (bG c) (bG M.main) [] U
theorem Fx.putAux(F:Fx)(M:Mach)(tk:Tk)(c:C.Cpu):gN (F.cells M tk) 15 (bG c)=F.cells { M with aux:=c } tk:=by
 unfold Fx.cells D;simp only[bp];exact ou _ (bG c) (bG M.aux) (bG M.main) U
theorem Fx.putSnd(F:Fx)(M:Mach)(tk:Tk)(s:Sd):gN (F.cells M tk) 45 (dA s)=F.cells { M with s:=s } tk:=by
 have e:∀ M:Mach,F.cells M tk=(bG M.main++(bG M.aux++(sq F.S++mR M)))++(dA M.s++(o8 M++([.int .i64 tk.n,tk.v]++(F.sideM++F.sideA)))):=by
  intro M;unfold Fx.cells D;rw[znw];simp only[bp]
 rw[e M,e];exact ou _ (dA s) (dA M.s) (bG M.main++(bG M.aux++(sq F.S++mR M))) U
section
variable {F : Fx} {W : World} {M M' : Mach} {tk : Tk}
theorem Vc.put_ok{v:Vc}(h:v.ok)(k:Nat)(b:Int)(hb:0<=b/\b<=255):(v.put k b).ok:=by
 obtain⟨h1,h2,h3,h4⟩:=h;unfold Vc.put;split
 ·exact⟨by show 0<=b*256+v.p%256/\b*256+v.p%256<=65535;omega,h2,h3,h4⟩
 ·split
  ·exact⟨by show 0<=v.p/256*256+b/\v.p/256*256+b<=65535;omega,h2,h3,h4⟩
  ·split
   ·exact⟨h1,h2,by show 0<=b%16/\b%16<=255;omega,h4⟩
   ·split
    ·exact⟨h1,h2,h3,by show 0<=b*256+v.n%256/\b*256+v.n%256<=65535;omega⟩
    ·split
     ·exact⟨h1,h2,h3,by show 0<=v.n/256*256+b/\v.n/256*256+b<=65535;omega⟩
     ·exact⟨h1,h2,h3,h4⟩
theorem Sd.put_ok{s:Sd}(h:s.ok)(k:Nat)(b:Int)(hb:0<=b/\b<=255):(s.put k b).ok:=by
 unfold Sd.put;split
 ·exact⟨Vc.put_ok h.a _ _ hb,h.b,h.c⟩
 ·split
  ·exact⟨h.a,Vc.put_ok h.b _ _ hb,h.c⟩
  ·exact⟨h.a,h.b,Vc.put_ok h.c _ _ hb⟩
theorem Sd.put_w(s:Sd)(k:Nat)(b:Int):(s.put k b).w=s.w:=by
 unfold Sd.put;split
 ·rfl
 ·split <;> rfl
theorem Bd.snd(h:Bd F W M tk):W.cell? ⟨F.g,45,none⟩=some (.int .u16 M.s.a.p)/\W.cell? ⟨F.g,46,none⟩=some (.int .u16 M.s.a.c)/\W.cell? ⟨F.g,47,none⟩=some (.int .u8 M.s.a.l)/\W.cell? ⟨F.g,48,none⟩=some (.bool M.s.a.h)/\W.cell? ⟨F.g,49,none⟩=some (.int .u16 M.s.a.n)/\W.cell? ⟨F.g,50,none⟩=some (.int .u16 M.s.b.p)/\W.cell? ⟨F.g,51,none⟩=some (.int .u16 M.s.b.c)/\W.cell? ⟨F.g,52,none⟩=some (.int .u8 M.s.b.l)/\W.cell? ⟨F.g,53,none⟩=some (.bool M.s.b.h)/\W.cell? ⟨F.g,54,none⟩=some (.int .u16 M.s.b.n)/\W.cell? ⟨F.g,55,none⟩=some (.int .u16 M.s.c.p)/\W.cell? ⟨F.g,56,none⟩=some (.int .u16 M.s.c.c)/\W.cell? ⟨F.g,57,none⟩=some (.int .u8 M.s.c.l)/\W.cell? ⟨F.g,58,none⟩=some (.bool M.s.c.h)/\W.cell? ⟨F.g,59,none⟩=some (.int .u16 M.s.c.n)/\W.cell? ⟨F.g,60,none⟩=some (.int .i64 M.s.w)/\(∀ o,W.frozen? ⟨F.g,o,none⟩=false)/\F.g<W.heap.size :=
 ⟨h.at 45 _ rfl,h.at 46 _ rfl,h.at 47 _ rfl,h.at 48 _ rfl,h.at 49 _ rfl,h.at 50 _ rfl,h.at 51 _ rfl,h.at 52 _ rfl,h.at 53 _ rfl,h.at 54 _ rfl,h.at 55 _ rfl,h.at 56 _ rfl,h.at 57 _ rfl,h.at 58 _ rfl,h.at 59 _ rfl,h.at 60 _ rfl,h.bx.f,h.bx.z⟩
theorem Bd.sndR(h:Bd F W M tk):W.rangeAt F.g 45 (dA M.s):=λi v hi=>by
 have a:=(aA.1 hi).1;obtain⟨b,d1,d2,d3,d4,d5,c,d,e,f,j,k,l,m,n,df,_,_⟩:=h.snd;have hc:i=0 \/ i=1 \/ i=2 \/ i=3 \/ i=4 \/ i=5 \/ i=6 \/ i=7 \/ i=8 \/ i=9 \/ i=10 \/ i=11 \/ i=12 \/ i=13 \/ i=14 \/ i=15:=by simp[dA] at a;omega
 rcases hc with rfl|rfl|rfl|rfl|rfl|rfl|rfl|rfl|rfl|rfl|rfl|rfl|rfl|rfl|rfl|rfl <;> (cases hi;assumption)
theorem zhe:(Tryz.prog.info? 104).map (λi=>(i.zero,i.size,i.bytes))=some (some (.agg #[.int .i64 0,.int .i64 0,.int .u8 0]),3,24):=by kernel_rfl
theorem Bd.off_new(h:Bd F W M tk):F.off W.heap.size :=
 ⟨λa=>h.fresh a,λe=>by have:=h.mr.lt _ e;omega,λe=>by have:=h.ar.lt _ e;omega,λx u b e=>by have:=(h.env x u b).1;omega⟩
theorem putW(F:Fx)(M:Mach)(tk:Tk)(l:List Wt)(v:Value):(F.cells M tk).set 76 v=F.cells M (tk.app l v):=rfl
theorem Bd.wrote(h:Bd F W M tk){i:World}{x:Wt}{f b:Nat}(o:W.grownBy i tk.v.ownBlock)(p:i.ownsRow F.B 104 3 (.slice (some ⟨f,0,none⟩) (tk.l.length+1) b) (tk.l.length+1) (kv tk.l++[.int .i64 x.c,.int .i64 x.a,.int .u8 x.v]))(t:tk.v.ownBlock=some f \/ f=W.heap.size):Bd F (i.setCell ⟨F.g,76,none⟩ (.slice (some ⟨f,0,none⟩) (tk.l.length+1) b)) M (tk.app [x] (.slice (some ⟨f,0,none⟩) (tk.l.length+1) b))/\Bw F W (i.setCell ⟨F.g,76,none⟩ (.slice (some ⟨f,0,none⟩) (tk.l.length+1) b)):=by
 have m:F.off f:=by
  rcases t with e|e
  ·exact h.wd f e
  ·rw[e];exact h.off_new
 have k:∀ j,j<W.heap.size->F.T j->i.heap[j]?=W.heap[j]?:=λj q I=>o.block j q (λe=>(h.wd j e.symm).1 I)
 have n:W.heap.size<=i.heap.size:=o.size;have r:W.heap.size<=(i.setCell ⟨F.g,76,none⟩ (.slice (some ⟨f,0,none⟩) (tk.l.length+1) b)).heap.size:=by rw[iF];exact n
 obtain⟨d1,d2,d3,_⟩:=h.nd.d;have L:=λe=>h.nd.mr (Or.inl e)
 have N:=λe=>h.nd.ar (Or.inl e)
 have hb:Bd F (i.setCell ⟨F.g,76,none⟩ (.slice (some ⟨f,0,none⟩) (tk.l.length+1) b)) M (tk.app [x] (.slice (some ⟨f,0,none⟩) (tk.l.length+1) b)):=by
  refine⟨putW F M tk [x] _ ▸ (h.bx.same n (k _ h.bx.z (Or.inl U))).set 76 _ (by rw[F.len];omega),?_,?_,?_,?_,?_,λy u E=>?_,h.nd,h.fit,ax h.big r,?_,?_⟩
  ·refine(h.mr.same2 n (λj e q=>o.block j q (λe2=>(h.wd j e2.symm).2.1 e))).same (by rw[iF];exact ak _) (λ_=>dy L)
  ·refine(h.ar.same2 n (λj e q=>o.block j q (λe2=>(h.wd j e2.symm).2.2.1 e))).same (by rw[iF];exact ak _) (λ_=>dy N)
  ·exact(h.ra.same n (λs=>k _ s (Or.inr (Or.inl U)))).same (by rw[iF];exact ak _) (λ_=>dy (br d1))
  ·exact(h.ow.same n (λs=>k _ s (Or.inr (Or.inr (Or.inl U))))).same (by rw[iF];exact ak _) (λ_=>dy (br d2))
  ·exact(h.vi.same n (λs=>k _ s (Or.inr (Or.inr (Or.inr U))))).same (by rw[iF];exact ak _) (λ_=>dy (br d3))
  ·obtain⟨e1,e2⟩:=h.env y u E
   have P:y≠F.g:=λe=>h.nd.env y u E (Or.inl e)
   exact⟨ap e1 r,((am (w:=i) (dy P)).trans (am (w:=W) (o.block y e1 (λe=>(h.wd y e.symm).2.2.2 y u E U)))).trans e2⟩
  ·refine fF (w:=i) ?_ (λj e=>dy (λe2=>?_))
   ·show i.ownsRow F.B 104 3 _ (tk.l++[x]).length (kv (tk.l++[x]))
    rw[aC,zlF];exact p
   ·have H:f=j:=by cases e;rfl
    exact m.1 (by rw[H,e2];exact Or.inl U)
  ·intro j e
   have H:f=j:=by cases e;rfl
   rw[<- H];exact m
 refine⟨hb,(Bw.grown h o).trans (Bt.w (Bt.set h.nd (Bt.refl F i) 76 _))⟩
theorem zwb(h:Bd F W M tk):∃ ua uc,tk.v=.slice ua tk.l.length uc:=by
 rcases h.ws.2 with⟨e,e2⟩|⟨g,a,b,e,_⟩
 ·exact⟨none,0,by rw[e,e2]⟩
 ·exact⟨_,_,e⟩
theorem zoM(h:Bd F W M tk)(k:Nat)(q:k<24)(n:Int)(hn:0<=n/\n<=255)(hl:tk.l.length<=1000000000):Calls prog 246 #[.int .u8 n,pt (F.E.sb k) 0,pt (F.E.sa k) 0] W λe w'=>e=.returned (.tuple #[])/\oQ F W w' { M with s:=M.s.put k n } tk [⟨M.clock,k,n⟩]:=by
 have hg:=h.bx.z;obtain⟨y1,e1⟩:=h.env _ _ (.sb k q);obtain⟨y2,e2⟩:=h.env _ _ (.sa k q);have hs:=h.fit.s;have V:F.E.sb k≠F.g:=λe=>h.nd.env _ _ (.sb k q) (Or.inl e)
 have X:F.E.sa k≠F.g:=λe=>h.nd.env _ _ (.sa k q) (Or.inl e)
 have H:=hid h;clear h;go_enter func246,ntmps246;go_upto_region 0 with fail
 go_cut [] (λY=>Bd F Y { M with s:=M.s.put k n } tk/\Bt F W Y)
 case first =>
  refine wp_region_held_drew (S:=λw'=>w'.cell? ⟨F.E.sb k,0,none⟩=some (pt F.g 0)/\w'.cell? ⟨F.E.sa k,0,none⟩=some (.int .i64 k)) (by kernel_rfl) ⟨e1,e2⟩ ?_;intro b;refine A 0 b ?_;refine A 1 b ?_;refine A 2 b ?_;refine A 3 b ?_;refine A 4 b ?_;refine A 6 b ?_;refine A 7 b ?_;refine dQ 5 (λK c=>?_);refine zd4 U 36 _ U F.g 45 U (dA M.s) _ H.out.drew.sndR underlying36 U kJ ?_;refine eP c b (λ_=>?_);clear c K;refine dQ 8 (λK c=>?_);unfold dA;go_simp;go_at_call 247
  refine(zwa M.s k n _ q hs hn).mono ?_;rintro e w1 ⟨rfl,Z⟩;try go_wp2_with fail
  have N:=hid (H.out.drew.kept Z);refine c.out _ _ ⟨(N.out.env _ _ (.sb k q)).2,(N.out.env _ _ (.sa k q)).2⟩ (λhS'=>?_);clear c K b;have b:=hS';clear hS';try simp only[Act.put,xA,xB,xC]
  refine A 9 b ?_;refine A 10 b ?_;refine A 11 b ?_;refine A 12 b ?_;refine A 13 b ?_;refine A 14 b ?_;refine dQ 15 (λK c=>?_);refine lW U 36 _ _ U F.g 45 (dA (M.s.put k n)).toArray U U (Bx.there N.out.bx 45 16 (by rw[Fx.len];omega)) kJ (jP (M.s.put k n)) ?_;refine c.out _ _ ⟨(am (fO V _ _ _)).trans b.1,(am (fO X _ _ _)).trans b.2⟩ (λ_=>?_);clear c K;refine wpAnyH_done (by kernel_rfl) ?_ _;have hf:Mach.fit { M with s:=M.s.put k n }:=Mach.fit.of H.out.fit { H.out.fit with main:=H.out.fit.main,s:=Sd.put_ok H.out.fit.s k n hn } ⟨U,U,U,U,U⟩ (Sd.put_w _ _ _) ⟨U,U,U⟩ ⟨U,U⟩ (Or.inl U);have hp:=N.out.puts (M':={ M with s:=M.s.put k n }) (tk':=tk) 45 (dA (M.s.put k n)) (by simp[dA]) (F.putSnd M tk _) ⟨U,U,U,U,U⟩ hf;have ht:=Bt.sets H.out.nd (dA (M.s.put k n)) 45 _ (Bt.below H.out (bn (J W).drew Z));go_simp;rename_i hM _ _;refine hM _ _ ?_;go_meet;exact⟨hp,ht⟩
 case rest =>
 obtain⟨hY1,hY2⟩:=hcut;have i:=hid hY1;have HY2:=hid hY2;have z1:=(i.out.env _ _ (.sb k q)).1;have q1:=(i.out.env _ _ (.sb k q)).2;have z2:=(i.out.env _ _ (.sa k q)).1;have q2:=(i.out.env _ _ (.sa k q)).2;have zg:=i.out.bx.z;obtain⟨ua,uc,P⟩:=zwb i.out;have q3:wc.cell? ⟨F.g,76,none⟩=some (.slice ua tk.l.length uc):=(i.out.at 76 tk.v U).trans (by rw[P]);have q4:wc.cell? ⟨F.g,72,none⟩=some (.int .i64 M.clock):=i.out.at 72 _ U;have HV:=hid P;have HLN:=hid hl;have p:=hid ((i.out.over (.cells #[.int .i64 M.clock,.int .i64 k,.int .u8 n] 104)).drew);have HU:Hid (((wc.alloc (.cells #[.int .i64 M.clock,.int .i64 k,.int .u8 n] 104)).drew).ownsRow F.B 104 3 (.slice ua tk.l.length uc) tk.l.length (kv tk.l)):=P ▸ p.out.ws;have HN:Hid (∀ j u,([.int .i64 M.clock,.int .i64 k,.int .u8 n]:List Value)[j]?=some u->((wc.alloc (.cells #[.int .i64 M.clock,.int .i64 k,.int .u8 n] 104)).drew).cell? ((⟨wc.heap.size,0,none⟩:Addr).add j)=some u):=World.news_of_block (cs:=#[.int .i64 M.clock,.int .i64 k,.int .u8 n]) (t:=104) (fr:=(0,0)) (aJ wc _)
 have HO:Hid (∀ u∈([.int .i64 M.clock,.int .i64 k,.int .u8 n]:List Value),u.oneCell'=true):=by intro u hu;simp at hu;rcases hu with rfl|rfl|rfl <;> rfl
 have HZ:Hid (F.B<=((wc.alloc (.cells #[.int .i64 M.clock,.int .i64 k,.int .u8 n] 104)).drew).heap.size):=p.out.big;have H63:Hid (tk.l.length+1<=maxLen):=by show _<=_;unfold maxLen;omega
 have HBY:Hid ((tk.l.length+1)*24<=140737488355328):=by show _<=_;omega
 have HGF:Hid (∀ a,((wc.alloc (.cells #[.int .i64 M.clock,.int .i64 k,.int .u8 n] 104)).drew).grownBy a (Value.slice ua tk.l.length uc).ownBlock->a.frozen? ⟨F.g,76,none⟩=false/\F.g<a.heap.size/\a.cell? ⟨F.g,76,none⟩=some (.slice ua tk.l.length uc)):=λa r=>by
  have hx:=p.out.bx.same r.size (r.block F.g p.out.bx.z (λe=>(p.out.wd F.g (by rw[P];exact e.symm)).1 (Or.inl U)));exact⟨hx.f 76,hx.z,(hx.at 76 tk.v U).trans (by rw[P])⟩
 have HK:Hid (∀(R cp:Nat) (a:World),a.ownsRow F.B 104 3 (.slice (some ⟨R,0,none⟩) (tk.l.length+1) cp) (tk.l.length+1) (kv tk.l++[.int .i64 M.clock,.int .i64 k,.int .u8 n])->((wc.alloc (.cells #[.int .i64 M.clock,.int .i64 k,.int .u8 n] 104)).drew).grownBy a (Value.slice ua tk.l.length uc).ownBlock->((Value.slice ua tk.l.length uc).ownBlock=some R \/ R=wc.heap.size+1) ->
  oQ F W (a.setCell ⟨F.g,76,none⟩ (.slice (some ⟨R,0,none⟩) (tk.l.length+1) cp)) { M with s:=M.s.put k n } tk [⟨M.clock,k,n⟩]):=λR cp a hown r I=>by
  rw[<- P] at r I;obtain⟨x1,x2⟩:=p.out.wrote (x:=⟨M.clock,k,n⟩) r hown (I.imp id (λe=>by rw[e];show _=(wc.alloc _).heap.size;simp));exact⟨⟨_,x1⟩,(HY2.out.w.trans (Bw.of_below i.out.big ((stA (J wc) _).drew))).trans x2⟩
 obtain⟨i1,hj0,hy0,hy1,hy2⟩:=info_parts zhe;have HSZ:Hid (((wc.alloc (.cells #[.int .i64 M.clock,.int .i64 k,.int .u8 n] 104)).drew).heap.size=wc.heap.size+1):=by show _=_;simp
 have T:Hid (((wc.alloc (.cells #[.int .i64 M.clock,.int .i64 k,.int .u8 n] 104)).drew).cell? ⟨F.E.sb k,0,none⟩=some (pt F.g 0)/\((wc.alloc (.cells #[.int .i64 M.clock,.int .i64 k,.int .u8 n] 104)).drew).cell? ⟨F.E.sa k,0,none⟩=some (.int .i64 k)/\((wc.alloc (.cells #[.int .i64 M.clock,.int .i64 k,.int .u8 n] 104)).drew).cell? ⟨F.g,72,none⟩=some (.int .i64 M.clock)):=⟨(p.out.env _ _ (.sb k q)).2,(p.out.env _ _ (.sa k q)).2,p.out.at 72 _ U⟩
 have HQ5:Hid (((wc.alloc (.cells #[.int .i64 M.clock,.int .i64 k,.int .u8 n] 104)).drew).cell? ⟨F.g,76,none⟩=some (.slice ua tk.l.length uc)/\F.g<((wc.alloc (.cells #[.int .i64 M.clock,.int .i64 k,.int .u8 n] 104)).drew).heap.size):=⟨(p.out.at 76 tk.v U).trans (by rw[P]),p.out.bx.z⟩
 have HS3:Hid (∀ a:World,((wc.alloc (.cells #[.int .i64 M.clock,.int .i64 k,.int .u8 n] 104)).drew).grownBy a (Value.slice ua tk.l.length uc).ownBlock->a.cell? ⟨F.E.sb k,0,none⟩=some (pt F.g 0)/\a.cell? ⟨F.E.sa k,0,none⟩=some (.int .i64 k)/\a.cell? ⟨F.g,72,none⟩=some (.int .i64 M.clock)):=λa r=>by
  have L:∀ x,x<((wc.alloc (.cells #[.int .i64 M.clock,.int .i64 k,.int .u8 n] 104)).drew).heap.size->(∀ e:tk.v.ownBlock=some x,False)->a.heap[x]?=((wc.alloc (.cells #[.int .i64 M.clock,.int .i64 k,.int .u8 n] 104)).drew).heap[x]?:=λx hx hne=>r.block x hx (λe=>hne (by rw[P];exact e.symm))
  obtain⟨a1,a2⟩:=p.out.env _ _ (.sb k q);obtain⟨b1,b2⟩:=p.out.env _ _ (.sa k q);exact⟨(am (L _ a1 (λe=>(p.out.wd _ e).2.2.2 _ _ (.sb k q) U))).trans a2,(am (L _ b1 (λe=>(p.out.wd _ e).2.2.2 _ _ (.sa k q) U))).trans b2,(am (L _ p.out.bx.z (λe=>(p.out.wd _ e).1 (Or.inl U)))).trans (p.out.at 72 _ U)⟩
 have HS4:Hid (∀(a:World) (v:Value),(a.cell? ⟨F.E.sb k,0,none⟩=some (pt F.g 0)/\a.cell? ⟨F.E.sa k,0,none⟩=some (.int .i64 k)/\a.cell? ⟨F.g,72,none⟩=some (.int .i64 M.clock))->(a.setCell ⟨F.g,76,none⟩ v).cell? ⟨F.E.sb k,0,none⟩=some (pt F.g 0)/\(a.setCell ⟨F.g,76,none⟩ v).cell? ⟨F.E.sa k,0,none⟩=some (.int .i64 k)/\(a.setCell ⟨F.g,76,none⟩ v).cell? ⟨F.g,72,none⟩=some (.int .i64 M.clock)):=λa v h=>⟨(am (dy V)).trans h.1,(am (dy X)).trans h.2.1,(az _ _ _ _ (by simp)).trans h.2.2⟩
 clear hY1 hY2 P hl;go_wp2;refine wp_region_held_drew (S:=λw'=>w'.cell? ⟨F.E.sb k,0,none⟩=some (pt F.g 0)/\w'.cell? ⟨F.E.sa k,0,none⟩=some (.int .i64 k)/\w'.cell? ⟨F.g,72,none⟩=some (.int .i64 M.clock)) (by kernel_rfl) ⟨q1,q2,q4⟩ ?_;intro b;refine A 0 b ?_;refine A 1 b ?_;refine A 2 b ?_;refine A 3 b ?_;refine A 5 b ?_;refine A 6 b ?_;refine A 7 b ?_;refine A 8 b ?_;refine A 9 b ?_;refine A 10 b ?_;refine A 11 b ?_;refine A 12 b ?_;refine wpAnyH_ready (rs:=[4,13]) (by kernel_rfl) (by simp) ?_;refine AllReadyH.cons (o:=⟨some 23,_,_,_,_,none⟩) U (λK c=>?_) (AllReadyH.cons (o:=⟨some 32,_,_,_,_,none⟩) U (λK c=>?_) AllReadyH.nil)
 ·go_simp
  refine eP c b (λ_=>?_);clear c K;refine dQ 13 (λK c=>?_);go_simp;refine eP c T.out (λ_=>?_);clear c K;refine dQ 14 (λK c=>?_);refine step_append_lies _ (by rfl) (.tmp 23) (.tmp 32) 45 (by rfl) F.B 104 i1 _ 3 24 underlying45 hj0 hy0 hy1 hy2 U (by omega) (.slice ua tk.l.length uc) tk.l.length (kv tk.l) U HU.out ⟨wc.heap.size,0,none⟩ 1 1 [.int .i64 M.clock,.int .i64 k,.int .u8 n] U U HN.out HO.out (by omega) H63.out HBY.out HZ.out (wc.heap.size+1) HSZ.out ?_;intro R cp a y d I hlt3;have m:=HS3.out a d;refine eP c m (λ_=>?_);clear c K;refine A 15 m ?_;refine A 16 m ?_;refine dQ 17 (λK c=>?_);obtain⟨f3,z3,d3⟩:=HGF.out a d;go_simp;refine c.out _ _ (HS4.out a _ m) (λ_=>?_);clear c K;refine wpAnyH_done (by kernel_rfl) ?_ _;go_simp;go_wp2;go_end0;exact⟨U,HK.out R cp a y d I⟩
 ·go_simp
  refine eP c T.out (λ_=>?_);clear c K;refine dQ 4 (λK c=>?_);have q5:=HQ5.out;go_simp;refine eP c T.out (λ_=>?_);clear c K q5;refine dQ 14 (λK c=>?_);refine step_append_lies _ (by rfl) (.tmp 23) (.tmp 32) 45 (by rfl) F.B 104 i1 _ 3 24 underlying45 hj0 hy0 hy1 hy2 U (by omega) (.slice ua tk.l.length uc) tk.l.length (kv tk.l) U HU.out ⟨wc.heap.size,0,none⟩ 1 1 [.int .i64 M.clock,.int .i64 k,.int .u8 n] U U HN.out HO.out (by omega) H63.out HBY.out HZ.out (wc.heap.size+1) HSZ.out ?_;intro R cp a y d I hlt3;have m:=HS3.out a d;refine eP c m (λ_=>?_);clear c K;refine A 15 m ?_;refine A 16 m ?_;refine dQ 17 (λK c=>?_);obtain⟨f3,z3,d3⟩:=HGF.out a d;go_simp;refine c.out _ _ (HS4.out a _ m) (λ_=>?_);clear c K;refine wpAnyH_done (by kernel_rfl) ?_ _;go_simp;go_wp2;go_end0;exact⟨U,HK.out R cp a y d I⟩
end
theorem zoP{w:World}{g B:Nat}(a:w.heap[g]?=some (.cells #[] 5 (0,0)))(hB:B<=g):w.ownsRow B 5 1 (.slice (some ⟨g,0,none⟩) 0 0) ([]:List UInt8).length (dW []) :=
 ⟨U,Or.inr ⟨g,0,#[],U,hB,a,ak _,by decide,by simp,by simp[dW]⟩⟩
theorem zny{w:World}{B:Nat}{v:Value}{l:List UInt8}(h:w.ownsRow B 5 1 v l.length (dW l)):(v=.slice none 0 0/\l=[]) \/ ∃ k a,v=.slice (some ⟨k,0,none⟩) l.length a/\l.length<=a/\B<=k/\Bx w k (dW l):=by
 rcases h.2 with⟨rfl,m⟩|⟨g,a,b,rfl,hb,d,n,q,r,p⟩
 ·exact Or.inl ⟨U,bv.1 m⟩
 ·refine Or.inr ⟨g,a,U,n,hb,(ay.1 d).1,λj c i=>?_,λo=>Lib.frozen_of_heap d o⟩
  have f:=(aA.1 i).1;rw[zlG] at f;rw[aN,Lib.cell_of_heap d j];have e:b[j]?=(b.toList.take (l.length*1))[j]?:=by rw[dI,Q (by omega)];simp
  rw[e,p,i]
theorem zwf(n c:Nat)(w:World):(binOp .eql 26 (.slice none n c) (.slice none 0 0)).run prog w=.ok (.bool true) w:=by kernel_rfl
theorem zxR(a:Addr)(n c:Nat)(w:World):(binOp .eql 26 (.slice (some a) n c) (.slice none 0 0)).run prog w=.ok (.bool false) w:=by kernel_rfl
theorem zjQ(v:Value)(l:List UInt8)(w:World)(h:sliceAt w v l)(f:l.length<=100000):Calls prog 180 #[v] w λe w'=>∃ v',e=.returned v'/\w'.ownsRow w.heap.size 5 1 v' l.length (dW l)/\Below w.heap.size w w':=by
 obtain⟨a,c,rfl⟩:=oJ h;cases a with
 | none =>
  have i:l=[]:=by
   rcases h with⟨_,_,_,h2⟩|⟨g,o,j,h1,_⟩
   ·exact h2
   ·cases h1
  subst i;have k:=zwf 0 c;go_enter func180,ntmps180;go_wp2;go_ret;exact⟨_,U,⟨U,Or.inl ⟨U,U⟩⟩,J _⟩
 | some a =>
  have k:=zxR a l.length c;have H:=hid h;clear h;go_enter func180,ntmps180;go_wp2_with (at_builtin;refine zfs (by rfl) _ _ (by rfl) w.heap.size _ ([]:List UInt8) (by rfl) (zoP (aJ w _) (ak _)) _ (by rfl) l (H.out.kept (stA (J w) _)) (by simp;exact f) (by simp) ?_;intro v' w' b d)
  go_ret;exact⟨_,U,by simpa using b,(stA (J w) _).trans d⟩
def Sl.get(S:Sl)(j:Nat):Value:=match j with|0=>S.mr|1=>S.ar|2=>S.ra|3=>S.ow|_=>S.vi
def Sl.set(S:Sl)(j:Nat)(v:Value):Sl:=match j with|0=>{ S with mr:=v }|1=>{ S with ar:=v }|2=>{ S with ra:=v }|3=>{ S with ow:=v }|_=>{ S with vi:=v }
def Mach.byt(M:Mach)(j:Nat):List UInt8:=match j with|0=>M.mrom|1=>M.arom|2=>M.ram|3=>M.own|_=>M.video
theorem five{j:Nat}(h:j<5):j=0 \/ j=1 \/ j=2 \/ j=3 \/ j=4:=by omega
theorem Sl.get_set(S:Sl)(i j:Nat)(v:Value)(hi:i<5)(a:j<5):(S.set i v).get j=if j=i then v else S.get j:=by
 rcases five hi with rfl|rfl|rfl|rfl|rfl <;> rcases five a with rfl|rfl|rfl|rfl|rfl <;> rfl
theorem zio(M:Mach)(S:Sl)(j:Nat)(a:j<5):(D M S)[30+j]?=some (S.get j):=by
 rcases five a with rfl|rfl|rfl|rfl|rfl <;> rfl
theorem zrf(M:Mach)(S:Sl)(j:Nat)(v:Value)(a:j<5):(D M S).set (30+j) v=D M (S.set j v):=by
 rcases five a with rfl|rfl|rfl|rfl|rfl <;> rfl
theorem bV:(Tryz.prog.info? 41).map (·.size)=some 75:=by kernel_rfl
theorem pD{Y:World}{b o:Nat}(M:Mach)(S:Sl)(h:Y.rangeAt b o (D M S)):(loadVar 41 ⟨b,o,none⟩).run prog Y=.ok (.agg (D M S).toArray) Y :=
 run_loadVar_mid Y b o 41 _ _ h underlying41 rfl bV
def Sl.isSl(S:Sl):Prop:=∀ j,j<5->∃ a n c,S.get j=.slice a n c
theorem fG(M:Mach)(S:Sl)(h:S.isSl):(D M S).toArray.all (·.oneCell')=true:=by
 obtain⟨a0,b,c0,a⟩:=h 0 (by omega);obtain⟨a1,c,c1,e1⟩:=h 1 (by omega);obtain⟨a2,d,c2,e2⟩:=h 2 (by omega);obtain⟨a3,e,c3,e3⟩:=h 3 (by omega);obtain⟨a4,f,c4,e4⟩:=h 4 (by omega);simp only[Sl.get] at a e1 e2 e3 e4;unfold D bG sq oY;rw[a,e1,e2,e3,e4];simp[Value.oneCell']
def aE:Mach:=⟨C.Cpu.zero,C.Cpu.zero,[],[],[],[],[],⟨0,false,0⟩,⟨0,false,0⟩,⟨0,0,false,false⟩,⟨⟨0,0,0,false,0⟩,⟨0,0,0,false,0⟩,⟨0,0,0,false,0⟩,0⟩,⟨0,0,false,0⟩,0,0,false,false,0,0,false,0,0,0⟩
def aM:Sl:=⟨.slice none 0 0,.slice none 0 0,.slice none 0 0,.slice none 0 0,.slice none 0 0⟩
def mS(B:Nat)(M:Mach)(S:Sl)(Y:World)(j:Nat):Prop:=(S.get j=.slice none 0 0/\M.byt j=[]) \/ ∃ b a,S.get j=.slice (some ⟨b,0,none⟩) (M.byt j).length a/\(M.byt j).length<=a/\B<=b/\Bx Y b (dW (M.byt j))
structure OwnK (B : Nat) (M : Mach) (S : Sl) (k : Nat) (Y : World) : Prop where
 own:∀ j,j<k->mS B M S Y j
 dist:∀ i j b b' n c n' c',i<k->j<k->i≠j->S.get i=.slice (some ⟨b,0,none⟩) n c->S.get j=.slice (some ⟨b',0,none⟩) n' c'->b≠b'
theorem mS.same{B:Nat}{M:Mach}{S:Sl}{Y Y':World}{j:Nat}(h:mS B M S Y j)(c:Y.heap.size<=Y'.heap.size)(e:∀ b,B<=b->b<Y.heap.size->Y'.heap[b]?=Y.heap[b]?):mS B M S Y' j:=by
 rcases h with h|⟨b,a,h1,h2,h3,h4⟩
 ·exact Or.inl h
 ·exact Or.inr ⟨b,a,h1,h2,h3,h4.same c (e b h3 h4.z)⟩
theorem OwnK.same{B:Nat}{M:Mach}{S:Sl}{k:Nat}{Y Y':World}(h:OwnK B M S k Y)(a:Y.heap.size<=Y'.heap.size)(e:∀ b,B<=b->b<Y.heap.size->Y'.heap[b]?=Y.heap[b]?):OwnK B M S k Y' :=
 ⟨λj c=>(h.own j c).same a e,h.dist⟩
theorem OwnK.isSl{B:Nat}{M:Mach}{S:Sl}{Y:World}(h:OwnK B M S 5 Y):S.isSl:=λj a=>by
 rcases h.own j a with⟨e,_⟩|⟨b,c,e,_⟩
 ·exact⟨_,_,_,e⟩
 ·exact⟨_,_,_,e⟩
structure CP (w : World) (M : Mach) (S0 : Sl) (k : Nat) (S : Sl) (Y : World) : Prop where
 low:Below w.heap.size w Y
 bx:Bx Y w.heap.size (D M S)
 res:Bx Y (w.heap.size+1) (D aE aM)
 ptr:Bx Y (w.heap.size+2) [pt w.heap.size 30,pt w.heap.size 31,pt w.heap.size 32,pt w.heap.size 33,pt w.heap.size 34]
 own:OwnK (w.heap.size+3) M S k Y
 todo:∀ j,j<5->k<=j->S.get j=S0.get j
theorem CP.next{w Y w1:World}{M:Mach}{x S:Sl}{k:Nat}{v:Value}(h:CP w M x k S Y)(f:k<5)(p:w1.ownsRow Y.heap.size 5 1 v (M.byt k).length (dW (M.byt k)))(hb:Below Y.heap.size Y w1):CP w M x (k+1) (S.set k v) (w1.setCell ⟨w.heap.size,30+k,none⟩ v):=by
 have H:=h.ptr.z;have q:=hb.size;have d:∀ b,w.heap.size+3<=b->b<Y.heap.size->(w1.setCell ⟨w.heap.size,30+k,none⟩ v).heap[b]?=Y.heap[b]?:=λb h1 h2=>(dy (by omega)).trans (hb.block b h2)
 have g:=h.own.same (Y':=w1.setCell ⟨w.heap.size,30+k,none⟩ v) (by rw[iF];exact q) d;have l:30+k<(D M S).length:=by rw[cy];omega
 refine⟨(bn h.low hb).setCell (ak _) _,?_,(h.res.kept hb).far (by omega) _,(h.ptr.kept hb).far (by omega) _,⟨λj m=>?_,λi j b b' n c B E hi m r e1 e2=>?_⟩,λj m F=>?_⟩
 ·rw[<- zrf M S k v f]
  exact(h.bx.kept hb).set _ _ l
 ·unfold mS
  rw[S.get_set k j v f (by omega)];by_cases e:j=k
  ·subst e
   rw[Q U];rcases zny p with⟨e1,e2⟩|⟨b,a,e1,e2,e3,e4⟩
   ·exact Or.inl ⟨e1,e2⟩
   ·exact Or.inr ⟨b,a,e1,e2,by omega,e4.far (by omega) _⟩
  ·rw[G e]
   exact g.own j (by omega)
 ·rw[S.get_set k i v f (by omega)] at e1
  rw[S.get_set k j v f (by omega)] at e2;by_cases y:i=k
  ·by_cases o:j=k
   ·omega
   ·rw[Q y] at e1
    rw[G o] at e2;have s:Y.heap.size<=b:=by
     rcases zny p with⟨x1,_⟩|⟨t,a,x1,_,x3,_⟩
     ·rw[x1] at e1;cases e1
     ·rw[x1] at e1;cases e1;exact x3
    rcases h.own.own j (by omega) with⟨x1,_⟩|⟨t,a,x1,_,_,u⟩
    ·rw[x1] at e2;cases e2
    ·rw[x1] at e2;cases e2;have:=u.z;omega
  ·rw[G y] at e1
   by_cases o:j=k
   ·rw[Q o] at e2
    have s:Y.heap.size<=b':=by
     rcases zny p with⟨x1,_⟩|⟨t,a,x1,_,x3,_⟩
     ·rw[x1] at e2;cases e2
     ·rw[x1] at e2;cases e2;exact x3
    rcases h.own.own i (by omega) with⟨x1,_⟩|⟨t,a,x1,_,_,u⟩
    ·rw[x1] at e1;cases e1
    ·rw[x1] at e1;cases e1;have:=u.z;omega
   ·rw[G o] at e2
    exact h.own.dist i j b b' n c B E (by omega) (by omega) r e1 e2
 ·rw[S.get_set k j v f m,G (by omega)]
  exact h.todo j m (by omega)
theorem zxS(z k:Nat)(a:k<5):([pt z 30,pt z 31,pt z 32,pt z 33,pt z 34]:List Value)[k]?=some (pt z (30+k)):=by
 rcases five a with rfl|rfl|rfl|rfl|rfl <;> rfl
theorem CP.start(w:World)(M:Mach)(S:Sl)(o1 o2 a:TypeId):CP w M S 0 S (((w.alloc (.cells (D M S).toArray o1)).alloc (.cells (D aE aM).toArray o2)).alloc (.cells #[pt w.heap.size 30,pt w.heap.size 31,pt w.heap.size 32,pt w.heap.size 33,pt w.heap.size 34] a)) :=
 ⟨stA (stA (stA (J w) _) _) _,((Bx.new w (D M S) o1 rfl).over _).over _,(Bx.new (w.alloc _) (D aE aM) o2 (by simp)).over _,Bx.new _ [pt w.heap.size 30,pt w.heap.size 31,pt w.heap.size 32,pt w.heap.size 33,pt w.heap.size 34] a (by simp),⟨λj d=>by omega,λi j b b' n c e f hi=>by omega⟩,λj _ _=>U⟩
theorem zxT{w:World}{B:Nat}{v:Value}{l:List UInt8}(h:w.ownsRow B 5 1 v l.length (dW l)):∃ a n c,v=.slice a n c:=by
 rcases zny h with⟨e,_⟩|⟨k,b,e,_⟩
 ·exact⟨_,_,_,e⟩
 ·exact⟨_,_,_,e⟩
theorem zxU{Y w1:World}{x o:Nat}{v:Value}(hb:Below Y.heap.size Y w1)(hc:Y.cell? ⟨x,o,none⟩=some v)(b:Y.frozen? ⟨x,o,none⟩=false)(a:x<Y.heap.size):w1.cell? ⟨x,o,none⟩=some v/\w1.frozen? ⟨x,o,none⟩=false/\x<w1.heap.size :=
 ⟨(hb.cell (p:=⟨x,o,none⟩) a).trans hc,(hb.frozen (p:=⟨x,o,none⟩) a).trans b,ap a hb.size⟩
theorem jJ(L a:List Value)(h:a.length=L.length):gN L 0 a=a:=by
 have:=ou [] a L [] h
 simpa using this
theorem zlR(M:Mach)(S:Sl)(w:World)(p:∀ j,j<5->sliceAt w (S.get j) (M.byt j))(q:∀ j,j<5->(M.byt j).length<=100000):Calls prog 106 #[.agg (D M S).toArray] w λe w'=>∃ S',e=.returned (.agg (D M S').toArray)/\OwnK (w.heap.size+3) M S' 5 w'/\Below w.heap.size w w':=by
 go_enter func106,ntmps106;go_wp2;refine Pl.cutW (CP w M S 0 S) (CP.start w M S _ _ _) ?_;intro Y y;have B:=hid y;clear y;go_loopw [12] (λi wr=>∃(k:Nat) (S1:Sl),k<=5/\i=.int .i64 k/\CP w M S k S1 wr) (λi _=>5-(intOf i).toNat)
 case atStart=>exact⟨0,S,by omega,U,B.out⟩
 case round =>
  obtain⟨k,S1,V,rfl,a⟩:=hrel;clear B;by_cases d:k<5
  ·have E:(k:Int)<5:=by omega
   have c1:=a.ptr.at k _ (zxS _ k d);have c2:=a.bx.at (30+k) _ (zio M S1 k d);have F:=a.todo k d (ak _);rw[F] at c2;have I:=a.ptr.z;have z0:=a.bx.z;have r:=hid ((p k d).kept a.low);have s:=q k d;have h:=hid a;clear a F p q;go_wp2_with (go_at_call 180;refine(zjQ _ (M.byt k) _ r.out s).mono ?_;rintro e w1 ⟨v',rfl,g,l⟩;obtain⟨L,N,P,rfl⟩:=zxT g;have R:=hid g;have T:=hid l;obtain⟨d1,d2,d3⟩:=zxU l c2 (h.out.bx.f (30+k)) z0;clear g l)
   go_roundw
   case rel=>exact⟨k+1,S1.set k (.slice L N P),by omega,by go_num,h.out.next d R.out T.out⟩
   case measure=>simp[intOf];omega
  ·obtain rfl:k=5:=by omega
   have z0:=a.bx.z;have I:=a.res.z;have h:=hid a;have HONE:=hid (fG M S1 a.own.isSl);clear a p q;go_wp2_with (first
    | (refine wpList_load_mid U 41 _ U w.heap.size 0 U (D M S1) _ h.out.bx.c underlying41 U bV ?_)
    | (refine wpList_store_mid U 41 _ _ U (w.heap.size+1) 0 (D M S1).toArray U U (h.out.res.there 0 75 (by rw[cy];omega)) bV HONE.out ?_
       refine Pl.cutL (λX=>Below w.heap.size w X/\Bx X (w.heap.size+1) (D M S1)/\OwnK (w.heap.size+3) M S1 5 X) ⟨?_,?_,?_⟩ ?_
       ·exact Bl.puts h.out.low (by omega) _
       ·have H:=h.out.res.puts 0 (D M S1) (by rw[cy,cy];omega)
        rw[jJ _ _ (by rw[cy,cy])] at H;exact H
       ·exact h.out.own.same (bA (lU _ _ _ _).symm) (λb h1 h2=>fO (by omega) _ _ _)
       rintro X ⟨m,n,o⟩;have t:=hid m;have u:=hid n;have x:=hid o;clear m n o))
   exact ao (v:=.agg (D M S1).toArray) (by simp only[results,results106];simp;exact Pl.res (pD M S1 u.out.c)) U ⟨S1,U,x.out,t.out⟩
def Mach.chk(M:Mach):Int :=
 if M.mrom.length<=1024/\M.arom.length<=1024 then
  if M.ram.length=128/\M.own.length=64/\M.video.length=256 then
   if 0<=M.s.w/\M.s.w<=15 then
    if na M.b.l M.b.a M.b.f then
     if (0<=M.clock/\M.clock<=200000)/\(0<=M.mready/\M.mready<=M.clock+20000)/\(0<=M.aready/\M.aready<=M.clock+20000) then 0 else 3
    else 3
   else 3
  else 4
 else 2
theorem rq{M:Mach}(a:M.ok)(h:M.chk=0):M.fit:=by
 unfold Mach.chk at h;split at h
 ·rename_i h1
  split at h
  ·rename_i h2
   split at h
   ·rename_i h3
    split at h
    ·rename_i h4
     split at h
     ·rename_i b
      have hb:=(oK _ _ _).1 h4;exact⟨a,h1.1,h1.2,h2.1,h2.2.1,h2.2.2,h3,⟨hb.l0,hb.l1,hb.a0,hb.a1,hb.f0,eA hb.f1 (by decide)⟩,b.1,b.2.1,b.2.2⟩
     ·cases h
    ·cases h
   ·cases h
  ·cases h
 ·cases h
theorem zip{M:Mach}(h:M.fit)(a:M.b.f<=20000):M.chk=0:=by
 unfold Mach.chk;rw[Q ⟨h.mrom,h.arom⟩,Q ⟨h.ram,h.own,h.video⟩,Q h.w,Q ((oK _ _ _).2 ⟨h.b.l0,h.b.l1,h.b.a0,h.b.a1,h.b.f0,a⟩),Q ⟨h.clock,h.mready,h.aready⟩]
theorem zfE{M:Mach}(h:M.chk=0):M.b.f<=20000:=by
 unfold Mach.chk at h;split at h
 ·split at h
  ·split at h
   ·split at h
    ·rename_i h4
     exact((oK _ _ _).1 h4).f1
    ·cases h
   ·cases h
  ·cases h
 ·cases h
def Sl.lens(S:Sl)(M:Mach):Prop:=∀ j,j<5->∃ a c,S.get j=.slice a (M.byt j).length c
theorem Bx.sndR{Y:World}{b:Nat}{M:Mach}{S:Sl}(h:Bx Y b (D M S)):Y.rangeAt b 45 (dA M.s):=λi v hi=>by
 refine h.at (45+i) v ?_;have a:=(aA.1 hi).1;have hc:i=0 \/ i=1 \/ i=2 \/ i=3 \/ i=4 \/ i=5 \/ i=6 \/ i=7 \/ i=8 \/ i=9 \/ i=10 \/ i=11 \/ i=12 \/ i=13 \/ i=14 \/ i=15:=by simp[dA] at a;omega
 rcases hc with rfl|rfl|rfl|rfl|rfl|rfl|rfl|rfl|rfl|rfl|rfl|rfl|rfl|rfl|rfl|rfl <;> exact hi
def sl0:Sl:=⟨.nilFunc,.nilFunc,.nilFunc,.nilFunc,.nilFunc⟩
def pC(g:Nat)(E:Env):Fx:=⟨0,g,0,0,0,0,0,sl0,E⟩
def mP(g:Nat)(E:Env)(W:World):Prop:=Bx W E.mb [pt g 0]/\Bx W E.q0 [pt g 0]/\Bx W E.w0 [.int .i64 0]/\Bx W E.q1 [pt g 0]/\Bx W E.w1 [.int .i64 1]/\Bx W E.h2 [pt g 41]/\Bx W E.h3 [pt g 41]/\Bx W E.h10 [pt g 65]/\Bx W E.h11 [pt g 65]/\Bx W E.h12 [pt g 66]/\Bx W E.h13 [pt g 66]
def mE(n:Nat):Env:=⟨n+1,n+2,n+3,n+4,n+5,n+6,n+7,n+8,n+9,n+10,n+11,0,λ_=>0,λ_=>0⟩
def nJ:List Value:=List.replicate 64 .nilFunc
theorem zoO{Y:World}{b:Nat}{L:List Value}(a:L.length=64)(h:Bx Y b L):(loadVar 138 ⟨b,0,none⟩).run prog Y=.ok (.agg L.toArray) Y :=
 run_loadVar_mid Y b 0 138 _ _ h.c underlying138 rfl (sF.trans (by rw[a]))
def qm(g:Nat)(w:World):List Value:=[cZ 239 #[pt (w.heap.size+2) 0,pt (w.heap.size+3) 0],dX 183 g 0,cZ 239 #[pt (w.heap.size+4) 0,pt (w.heap.size+5) 0],.nilFunc,.nilFunc,cZ 242 #[pt (w.heap.size+6) 0],.nilFunc,cZ 243 #[pt (w.heap.size+7) 0],dX 186 g 0,dX 187 g 0,.nilFunc,.nilFunc,cZ 188 #[pt (w.heap.size+1) 0],.nilFunc,cZ 189 #[pt (w.heap.size+1) 0],.nilFunc,dX 190 g 0,dX 191 g 0,.nilFunc,.nilFunc,.nilFunc,cZ 242 #[pt (w.heap.size+8) 0],.nilFunc,cZ 243 #[pt (w.heap.size+9) 0],.nilFunc,cZ 242 #[pt (w.heap.size+10) 0],.nilFunc,cZ 243 #[pt (w.heap.size+11) 0],.nilFunc,dX 192 g 0,.nilFunc,.nilFunc,dX 193 g 0,dX 194 g 0,cZ 195 #[pt (w.heap.size+1) 0],dX 196 g 0,.nilFunc,.nilFunc,.nilFunc,.nilFunc,.nilFunc,.nilFunc,.nilFunc,.nilFunc,.nilFunc,.nilFunc,.nilFunc,.nilFunc,.nilFunc,.nilFunc,.nilFunc,.nilFunc,.nilFunc,.nilFunc,.nilFunc,.nilFunc,.nilFunc,.nilFunc,.nilFunc,.nilFunc,.nilFunc,.nilFunc,.nilFunc,.nilFunc]
theorem zu7(g:Nat)(w:World):qm g w=cT (pC g (mE w.heap.size)).rdM (pC g (mE w.heap.size)).wrM 32:=by kernel_rfl
theorem vJ(F:Fx)(i:Nat):(F.rdM i).oneCell'=true:=by unfold Fx.rdM;split <;> rfl
theorem vK(F:Fx)(i:Nat):(F.wrM i).oneCell'=true:=by unfold Fx.wrM;split <;> rfl
theorem zd5(r w:Nat->Value)(v:Value):∀ n,v∈cT r w n->∃ i,v=r i \/ v=w i
 | 0,h=>by simp[cT] at h
 | n+1,h=>by
  simp only[cT,bS,aV,bJ,dG] at h;rcases h with h|h|h
  ·exact zd5 r w v n h
  ·exact⟨n,Or.inl h⟩
  ·exact⟨n,Or.inr h⟩
theorem zwc(g:Nat)(w:World):∀ v∈qm g w,v.oneCell'=true:=λv a=>by
 rw[zu7] at a;obtain⟨i,rfl|rfl⟩:=zd5 _ _ v 32 a
 ·exact vJ _ _
 ·exact vK _ _
theorem qo{W w':World}{b c:Nat}{v:Value}(h:W.cell? ⟨c,0,none⟩=some v/\W.there b 0 64)(hb:b<W.heap.size)(hc:c<W.heap.size)(a:Below W.heap.size W w'):w'.cell? ⟨c,0,none⟩=some v/\w'.there b 0 64 :=
 ⟨(a.cell (p:=⟨c,0,none⟩) hc).trans h.1,zcJ h.2 a hb⟩
theorem ztP(L a:List Value)(h:a.length=L.length):gN L 0 a=a:=by
 have:=ou [] a L [] h
 simpa using this
theorem zrd(g:Nat)(w:World):(qm g w).length=64:=rfl
theorem zxP(g:Nat)(w:World){Y:World}{b:Nat}(h:Bx Y b nJ):Bx (Y.setCells b 0 (qm g w).toArray.toList) b (qm g w):=by
 have a:=h.puts 0 (qm g w) (by rw[zrd];simp[nJ]);rw[ztP _ _ (by rw[zrd];simp[nJ])] at a;exact a
theorem zwd{W:World}{n:Nat}{v:Value}{vs:List Value}(h:W.cell? ⟨n+1,0,none⟩=some v/\W.there n 0 64):(W.setCells n 0 vs).cell? ⟨n+1,0,none⟩=some v/\(W.setCells n 0 vs).there n 0 64 :=
 ⟨(am (fO (x:=n+1) (b:=n) (by omega) _ _ _)).trans h.1,World.there_setCells h.2 _ _ _⟩
theorem zim(g:Nat)(w:World):Calls prog 108 #[pt g 0] w λe w' =>
 e=.returned (.agg (cT (pC g (mE w.heap.size)).rdM (pC g (mE w.heap.size)).wrM 32).toArray)/\Below w.heap.size w w'/\mP g (mE w.heap.size) w':=by
 go_enter func108,ntmps108;go_wp2;try simp only[List.append]
 refine wp_region_held_drew (S:=λw'=>w'.cell? ⟨w.heap.size+1,0,none⟩=some (pt g 0)/\w'.there w.heap.size 0 64) (by kernel_rfl) ⟨by simp,World.there_alloc (qc w _ _ 64 _ U U) _⟩ ?_;intro a;refine A 0 a ?_;refine A 2 a ?_;refine A 3 a ?_;refine A 5 a ?_;refine A 8 a ?_;refine A 9 a ?_;refine A 10 a ?_;refine A 11 a ?_;refine A 14 a ?_;refine A 15 a ?_;refine A 16 a ?_;refine A 17 a ?_;refine A 20 a ?_;refine A 21 a ?_;refine A 22 a ?_;refine A 23 a ?_;refine A 24 a ?_;refine A 25 a ?_;refine A 26 a ?_;refine A 27 a ?_;refine A 28 a ?_;refine A 29 a ?_;refine A 30 a ?_;refine A 31 a ?_;refine A 32 a ?_;refine A 33 a ?_;refine A 34 a ?_;refine A 35 a ?_;refine A 36 a ?_;refine A 39 a ?_;refine A 40 a ?_;refine A 41 a ?_;refine A 44 a ?_;refine A 45 a ?_;refine A 46 a ?_;refine A 49 a ?_;refine A 50 a ?_;refine A 51 a ?_;refine A 54 a ?_;refine A 55 a ?_;refine A 56 a ?_;refine A 57 a ?_;refine A 58 a ?_
 refine A 59 a ?_;refine A 60 a ?_;refine A 61 a ?_;refine A 62 a ?_;refine A 63 a ?_;refine A 64 a ?_;refine A 65 a ?_;refine dQ 1 (λK c=>?_);go_simp;go_at_call 182
 refine(znx g _ _).mono ?_;rintro e w1 ⟨rfl,rfl⟩;try go_wp2_with fail
 refine c.out _ _ (qo a (by first|(simp;done)|(simp;omega)) (by first|(simp;done)|(simp;omega)) (stA (stA (J _) _) _)) (λb=>?_);clear c K a;have a:=b;clear b;try simp only[Act.put,xA,xB,xC]
 refine A 4 a ?_;refine dQ 6 (λK c=>?_);go_simp;go_at_call 182
 refine(znx g _ _).mono ?_;rintro e w1 ⟨rfl,rfl⟩;try go_wp2_with fail
 refine c.out _ _ (qo a (by first|(simp;done)|(simp;omega)) (by first|(simp;done)|(simp;omega)) (stA (stA (J _) _) _)) (λb=>?_);clear c K a;have a:=b;clear b;try simp only[Act.put,xA,xB,xC]
 refine A 7 a ?_;refine dQ 12 (λK c=>?_);go_simp;go_at_call 184
 refine(zfD g _ _).mono ?_;rintro e w1 ⟨rfl,rfl⟩;try go_wp2_with fail
 refine c.out _ _ (qo a (by first|(simp;done)|(simp;omega)) (by first|(simp;done)|(simp;omega)) (stA (J _) _)) (λb=>?_);clear c K a;have a:=b;clear b;try simp only[Act.put,xA,xB,xC]
 refine A 13 a ?_;refine dQ 18 (λK c=>?_);go_simp;go_at_call 185
 refine(zil g _ _).mono ?_;rintro e w1 ⟨rfl,rfl⟩;try go_wp2_with fail
 refine c.out _ _ (qo a (by first|(simp;done)|(simp;omega)) (by first|(simp;done)|(simp;omega)) (stA (J _) _)) (λb=>?_);clear c K a;have a:=b;clear b;try simp only[Act.put,xA,xB,xC]
 refine A 19 a ?_;refine dQ 37 (λK c=>?_);go_simp;go_at_call 184
 refine(zfD g _ _).mono ?_;rintro e w1 ⟨rfl,rfl⟩;try go_wp2_with fail
 refine c.out _ _ (qo a (by first|(simp;done)|(simp;omega)) (by first|(simp;done)|(simp;omega)) (stA (J _) _)) (λb=>?_);clear c K a;have a:=b;clear b;try simp only[Act.put,xA,xB,xC]
 refine A 38 a ?_;refine dQ 42 (λK c=>?_);go_simp;go_at_call 185
 refine(zil g _ _).mono ?_;rintro e w1 ⟨rfl,rfl⟩;try go_wp2_with fail
 refine c.out _ _ (qo a (by first|(simp;done)|(simp;omega)) (by first|(simp;done)|(simp;omega)) (stA (J _) _)) (λb=>?_);clear c K a;have a:=b;clear b;try simp only[Act.put,xA,xB,xC]
 refine A 43 a ?_;refine dQ 47 (λK c=>?_);go_simp;go_at_call 184
 refine(zfD g _ _).mono ?_;rintro e w1 ⟨rfl,rfl⟩;try go_wp2_with fail
 refine c.out _ _ (qo a (by first|(simp;done)|(simp;omega)) (by first|(simp;done)|(simp;omega)) (stA (J _) _)) (λb=>?_);clear c K a;have a:=b;clear b;try simp only[Act.put,xA,xB,xC]
 refine A 48 a ?_;refine dQ 52 (λK c=>?_);go_simp;go_at_call 185
 refine(zil g _ _).mono ?_;rintro e w1 ⟨rfl,rfl⟩;try go_wp2_with fail
 refine c.out _ _ (qo a (by first|(simp;done)|(simp;omega)) (by first|(simp;done)|(simp;omega)) (stA (J _) _)) (λb=>?_);clear c K a;have a:=b;clear b;try simp only[Act.put,xA,xB,xC]
 refine A 53 a ?_;refine A 66 a ?_;refine dQ 67 (λK c=>?_);refine lW U 138 _ _ U w.heap.size 0 (qm g w).toArray U U a.2 sF (all_oneCell_toArray (zwc g w)) ?_;refine c.out _ _ (zwd a) (λ_=>?_);clear c K;refine wpAnyH_done (by kernel_rfl) ?_ _;refine Pl.cutE (λY=>Below w.heap.size w Y/\Bx Y w.heap.size (qm g w)/\mP g (mE w.heap.size) Y) ⟨?_,?_,?_⟩ ?_
 ·refine Bl.puts ?_ (ak _) _
  repeat' (first|exact J _|refine cx ?_|refine stA ?_ _)
 ·refine zxP g w ?_
  repeat' (first|exact Bx.new _ nJ _ U|refine Bx.drew ?_|refine Bx.over ?_ _)
 ·refine⟨?_,?_,?_,?_,?_,?_,?_,?_,?_,?_,?_⟩
  all_goals refine Bx.fars ?_ (by show w.heap.size≠w.heap.size+_;omega) 0 _
  all_goals repeat' (first|exact Bx.new _ _ _ (by simp;rfl)|refine Bx.drew ?_|refine Bx.over ?_ _)
 rintro Y ⟨d,f,h⟩;have j:=hid d;have i:=hid f;have k:=hid h;clear d f h a;go_wp2;rw[zu7] at i;exact ao (v:=.agg _) (by simp only[results,results108];simp;exact Pl.res (zoO (by rw[nb]) i.out)) U ⟨U,j.out,k.out⟩
def rp(n g i k:Nat):Value:=if k<i then cZ 246 #[pt (n+3+2*k) 0,pt (n+4+2*k) 0] else if k=24 then cZ 198 #[pt n 0] else .nilFunc
def apR(g k:Nat):Value:=if k=24 then dX 197 g 0 else .nilFunc
theorem zeU(r w w':Nat->Value):∀ n,(∀ k,k<n->w k=w' k)->cT r w n=cT r w' n
 | 0,_=>rfl
 | n+1,h=>by rw[cT,cT,zeU r w w' n (λk a=>h k (by omega)),h n (by omega)]
theorem zhf(r w:Nat->Value)(v:Value)(i:Nat):∀ n,i<n->(cT r w n).set (2*i+1) v=cT r (λk=>if k=i then v else w k) n
 | 0,h=>by omega
 | n+1,h=>by
  rw[cT,cT];by_cases e:i<n
  ·rw[List.set_append_left _ _ (by rw[nb];omega),zhf r w v i n e]
   rw[G (by omega)]
  ·obtain rfl:i=n:=by omega
   rw[jF _ _ (by rw[nb];omega),nb,show 2*i+1-2*i=1 by omega,Q U];have:cT r (λk=>if k=i then v else w k) i=cT r w i:=zeU r _ _ i (λk a=>G (by omega));rw[this];rfl
theorem ztQ(n g i:Nat)(hi:i<24):(λk=>if k=i then cZ 246 #[pt (n+3+2*i) 0,pt (n+4+2*i) 0] else rp n g i k)=rp n g (i+1):=by
 funext k
 unfold rp;by_cases e:k=i
 ·subst e;rw[Q U,Q (by omega)]
 ·rw[G e]
  by_cases e2:k<i
  ·rw[Q e2,Q (by omega)]
  ·simp only[G e2,G (show ¬ k<i+1 by omega)]
def oL(n g i:Nat):List Value:=cT (apR g) (rp n g i) 32
theorem zlQ(n g i:Nat):(oL n g i).length=64:=nb _ _ 32
structure LnAP (w : World) (g i : Nat) (Y : World) : Prop where
 low:Below w.heap.size w Y
 sz:Y.heap.size=w.heap.size+3+2*i
 b:Bx Y w.heap.size [pt g 0]
 r:Bx Y (w.heap.size+1) (List.replicate 64 .nilFunc)
 l:Bx Y (w.heap.size+2) (oL w.heap.size g i)
 sb:∀ k,k<i->Bx Y (w.heap.size+3+2*k) [pt g 0]/\Bx Y (w.heap.size+4+2*k) [.int .i64 k]
theorem LnAP.next{w Y:World}{g i:Nat}(h:LnAP w g i Y)(hi:i<24)(o1 o2:TypeId):LnAP w g (i+1) (((Y.alloc (.cells #[pt g 0] o1)).alloc (.cells #[.int .i64 (i:Int)] o2)).setCell ⟨w.heap.size+2,2*i+1,none⟩ (cZ 246 #[pt (w.heap.size+3+2*i) 0,pt (w.heap.size+4+2*i) 0])):=by
 have c:=h.sz;have a:=stA (stA h.low (.cells #[pt g 0] o1)) (.cells #[.int .i64 (i:Int)] o2);refine⟨a.setCell (gI _ _) _,?_,((h.b.over _).over _).far (by omega) _,((h.r.over _).over _).far (by omega) _,?_,λk d=>?_⟩
 ·rw[iF];simp;omega
 ·have:=((h.l.over (.cells #[pt g 0] o1)).over (.cells #[.int .i64 (i:Int)] o2)).set (2*i+1) (cZ 246 #[pt (w.heap.size+3+2*i) 0,pt (w.heap.size+4+2*i) 0]) (by rw[zlQ];omega)
  unfold oL at this;rw[zhf _ _ _ i 32 (by omega),ztQ _ _ _ hi] at this;exact this
 ·by_cases e:k<i
  ·obtain⟨h1,h2⟩:=h.sb k e
   exact⟨((h1.over _).over _).far (by omega) _,((h2.over _).over _).far (by omega) _⟩
  ·obtain rfl:k=i:=by omega
   refine⟨((Bx.new Y [pt g 0] o1 (by omega)).over _).far (by omega) _,(Bx.new (Y.alloc (.cells #[pt g 0] o1)) [.int .i64 (k:Int)] o2 (by simp;omega)).far (by omega) _⟩
theorem rV{Y:World}{b:Nat}{L:List Value}(a:L.length=64)(h:Bx Y b L):(loadVar 138 ⟨b,0,none⟩).run prog Y=.ok (.agg L.toArray) Y :=
 run_loadVar_mid Y b 0 138 _ _ h.c underlying138 rfl (sF.trans (by rw[a]))
theorem zu8(n g i:Nat):(oL n g i).toArray.all (·.oneCell')=true:=by
 refine all_oneCell_toArray (λv a=>?_);have key:∀ m,v∈cT (apR g) (rp n g i) m->v.oneCell'=true:=by
  intro m;induction m with
  | zero=>intro h;simp[cT] at h
  | succ m b =>
   intro h;simp only[cT,bS,aV,bJ,dG] at h;rcases h with h|rfl|rfl
   ·exact b h
   ·unfold apR;split <;> rfl
   ·unfold rp;split
    ·rfl
    ·split <;> rfl
 exact key 32 a
theorem LnAP.next'{w Y:World}{g i:Nat}(h:LnAP w g i Y)(hi:i<24)(o1 o2:TypeId):LnAP w g (i+1) (((Y.alloc (.cells #[pt g 0] o1)).alloc (.cells #[.int .i64 (i:Int)] o2)).setCell ⟨w.heap.size+1+1,i*2+1,none⟩ (cZ 246 #[pt Y.heap.size 0,pt (Y.heap.size+1) 0])):=by
 have a:=h.next hi o1 o2;rw[show w.heap.size+4+2*i=w.heap.size+3+2*i+1 by omega,<- h.sz,show 2*i+1=i*2+1 by omega] at a;exact a
theorem zxQ{W w1:World}{a b:Obj}{x o:Nat}{v:Value}(d:w1=(W.alloc a).alloc b)(hc:W.cell? ⟨x,o,none⟩=some v)(e:W.frozen? ⟨x,o,none⟩=false)(c:x<W.heap.size):w1.cell? ⟨x,o,none⟩=some v/\w1.frozen? ⟨x,o,none⟩=false/\x<w1.heap.size:=by
 subst d;have hb:=stA (stA (J W) a) b;exact⟨(hb.cell (p:=⟨x,o,none⟩) c).trans hc,(hb.frozen (p:=⟨x,o,none⟩) c).trans e,ap c hb.size⟩
def oh(n g:Nat):List Value:=[.nilFunc,.nilFunc,.nilFunc,.nilFunc,.nilFunc,.nilFunc,.nilFunc,.nilFunc,.nilFunc,.nilFunc,.nilFunc,.nilFunc,.nilFunc,.nilFunc,.nilFunc,.nilFunc,.nilFunc,.nilFunc,.nilFunc,.nilFunc,.nilFunc,.nilFunc,.nilFunc,.nilFunc,.nilFunc,.nilFunc,.nilFunc,.nilFunc,.nilFunc,.nilFunc,.nilFunc,.nilFunc,.nilFunc,.nilFunc,.nilFunc,.nilFunc,.nilFunc,.nilFunc,.nilFunc,.nilFunc,.nilFunc,.nilFunc,.nilFunc,.nilFunc,.nilFunc,.nilFunc,.nilFunc,.nilFunc,dX 197 g 0,cZ 198 #[pt n 0],.nilFunc,.nilFunc,.nilFunc,.nilFunc,.nilFunc,.nilFunc,.nilFunc,.nilFunc,.nilFunc,.nilFunc,.nilFunc,.nilFunc,.nilFunc,.nilFunc]
theorem zu9(n g:Nat):oh n g=oL n g 0:=by kernel_rfl
theorem zwe(n g:Nat):(oh n g).toArray.all (·.oneCell')=true:=by rw[zu9];exact zu8 n g 0
theorem zre(L a:List Value)(h:a.length=L.length):gN L 0 a=a:=by
 have:=ou [] a L [] h
 simpa using this
theorem LnAP.start{w:World}{g:Nat}(o1 o2 a:TypeId):LnAP w g 0 (((((w.alloc (.cells #[pt g 0] o1)).alloc (.cells (List.replicate 64 Value.nilFunc).toArray o2)).alloc (.cells (List.replicate 64 Value.nilFunc).toArray a))).setCells (w.heap.size+2) 0 (oh w.heap.size g)):=by
 have c:=(Bx.new ((w.alloc (.cells #[pt g 0] o1)).alloc (.cells (List.replicate 64 Value.nilFunc).toArray o2)) (List.replicate 64 .nilFunc) a (b:=w.heap.size+2) (by simp)).puts 0 (oh w.heap.size g) (by simp[oh]);rw[zre _ _ (by simp[oh])] at c;refine⟨Bl.puts (stA (stA (stA (J w) _) _) _) (by omega) _,by rw[lU];simp,(((Bx.new w [pt g 0] o1 U).over _).over _).fars (by omega) _ _,((Bx.new (w.alloc _) (List.replicate 64 .nilFunc) o2 (by simp)).over _).fars (by omega) _ _,by rw[<- zu9];exact c,λk d=>by omega⟩
theorem wM{w:World}{g:Nat}(o1 o2 a:TypeId):(((w.alloc (.cells #[pt g 0] o1)).alloc (.cells (List.replicate 64 Value.nilFunc).toArray o2)).alloc (.cells (List.replicate 64 Value.nilFunc).toArray a)).there (w.heap.size+2) 0 64 :=
 (Bx.new _ (List.replicate 64 .nilFunc) a (b:=w.heap.size+2) (by simp)).there 0 64 (by simp)
theorem zin(g:Nat)(w:World):Calls prog 110 #[pt g 0] w λe w' =>
 e=.returned (.agg (oL w.heap.size g 24).toArray) /\ ∃ Y,LnAP w g 24 Y/\Below w.heap.size w w'/\(∀ k,k≠w.heap.size+1->w'.heap[k]?=Y.heap[k]?)/\Y.heap.size=w'.heap.size:=by
 go_enter func110,ntmps110;go_wp2_with (first
  | (refine wpList_store_mid U 138 _ _ U (w.heap.size+2) 0 _ U U (wM 89 138 138) sF (zwe w.heap.size g) ?_
     refine Pl.cutL (LnAP w g 0) (LnAP.start 89 138 138) ?_;intro Y M;have N:=hid M;clear M))
 go_loopw [10] (λi wr=>∃ k:Nat,k<=24/\i=.int .i64 k/\LnAP w g k wr) (λi _=>24-(intOf i).toNat)
 case atStart=>exact⟨0,by omega,U,N.out⟩
 case round =>
  obtain⟨k,P,rfl,a⟩:=hrel;by_cases t:k<24
  ·have R:(k:Int)<24:=by omega
   have T:(k:Int)<32:=by omega
   have c1:=a.b.at 0 (pt g 0) U;have z1:=a.b.z;have z2:=a.l.z;obtain⟨v0,j⟩:∃ v,(oL w.heap.size g k)[k*2+1]?=some v:=⟨_,by rw[eu];exact(zdZ _ _ 32 k (by omega)).2⟩
   have c2:wr.cell? ⟨w.heap.size+1+1,k*2+1,none⟩=some v0:=a.l.at _ _ j;have f2:wr.frozen? ⟨w.heap.size+1+1,k*2+1,none⟩=false:=a.l.f (k*2+1);have z3:w.heap.size+1+1<wr.heap.size:=z2;have s:=hid a;clear a j;go_wp2_with (go_at_call 199;refine(zoN g k _).mono ?_;rintro e w1 ⟨rfl,u⟩;obtain⟨c3,f3,z4⟩:=zxQ u c2 f2 z3;have HW:=hid u;clear u c2 f2 z3 z2)
   go_roundw
   case rel =>
    refine⟨k+1,by omega,by go_num,?_⟩;rw[HW.out];exact s.out.next' t _ _
   case measure=>simp[intOf];omega
  ·obtain rfl:k=24:=by omega
   have s:=hid a;have z2:=a.l.z;have V:=hid a.r;have W:=hid a.l;have h:=zlQ w.heap.size g 24;have Z:=hid (zu8 w.heap.size g 24);clear a N;generalize m:oL w.heap.size g 24=L at W h Z;have x:=hid m;have d:L.toArray.size=64:=by simp[h]
   have y:Hid (wr.there (w.heap.size+1) 0 L.toArray.size):=hid (by rw[d];exact V.out.there 0 64 (by simp));have B:Hid ((Tryz.prog.info? 138).map (·.size)=some L.toArray.size):=hid (by rw[d];exact sF);clear m d;go_wp2_with (first
    | (refine wpList_load_mid U 138 _ U (w.heap.size+2) 0 U L _ W.out.c underlying138 U (sF.trans (by rw[h])) ?_)
    | (refine wpList_store_mid U 138 _ _ U (w.heap.size+1) 0 L.toArray U U y.out B.out Z.out ?_
       refine Pl.cutL (λX=>Below w.heap.size w X/\(∀ k,k≠w.heap.size+1->X.heap[k]?=wr.heap[k]?)/\wr.heap.size=X.heap.size/\Bx X (w.heap.size+1) L) ⟨?_,?_,?_,?_⟩ ?_
       ·exact Bl.puts s.out.low (by omega) _
       ·exact λk P=>fO P _ _ _
       ·exact(lU _ _ _ _).symm
       ·have hx:=V.out.puts 0 L (by rw[h];simp)
        rw[zre _ _ (by rw[h];simp)] at hx;exact hx
       rintro X ⟨n,o,p,q⟩;have E:=hid n;have F:=hid o;have H:=hid p;have I:=hid q;clear n o p q))
   exact ao (v:=.agg L.toArray) (by simp only[results,results110];simp;exact Pl.res (rV h I.out)) U ⟨by rw[x.out],wr,s.out,E.out,F.out,H.out⟩
section
variable {F : Fx} {W : World} {M M' : Mach} {tk : Tk}
theorem wJ(a b c d e f:Value)(w:World):(Instr.index 29 (.agg #[a,b,c,d,e,f]) (.int .i64 0)).run prog w=.ok (.agg #[a,b,c]) w:=by kernel_rfl
theorem wK(a b c d e f:Value)(w:World):(Instr.index 29 (.agg #[a,b,c,d,e,f]) (.int .i64 1)).run prog w=.ok (.agg #[d,e,f]) w:=by kernel_rfl
theorem Bd.padC(h:Bd F W M tk):W.cell? ⟨F.g,35,none⟩=some (.int .u8 M.p0.d)/\W.cell? ⟨F.g,36,none⟩=some (.bool M.p0.l)/\W.cell? ⟨F.g,37,none⟩=some (.int .u8 M.p0.s)/\W.cell? ⟨F.g,38,none⟩=some (.int .u8 M.p1.d)/\W.cell? ⟨F.g,39,none⟩=some (.bool M.p1.l)/\W.cell? ⟨F.g,40,none⟩=some (.int .u8 M.p1.s)/\(∀ o,W.frozen? ⟨F.g,o,none⟩=false)/\F.g<W.heap.size :=
 ⟨h.at 35 _ rfl,h.at 36 _ rfl,h.at 37 _ rfl,h.at 38 _ rfl,h.at 39 _ rfl,h.at 40 _ rfl,h.bx.f,h.bx.z⟩
theorem zrb(h:Bd F W M tk)(n:Int)(k:0<=n/\n<=255):Calls prog 183 #[pt F.g 0,.int .u8 n] W λe w'=>e=.returned (.tuple #[])/\Bd F w' (M.putM 0 n) tk/\Bt F W w':=by
 have i0:=wJ (.int .u8 M.p0.d) (.bool M.p0.l) (.int .u8 M.p0.s) (.int .u8 M.p1.d) (.bool M.p1.l) (.int .u8 M.p1.s);have u:=wK (.int .u8 M.p0.d) (.bool M.p0.l) (.int .u8 M.p0.s) (.int .u8 M.p1.d) (.bool M.p1.l) (.int .u8 M.p1.s);have H:=hid h;obtain⟨c0,c1,c2,c3,c4,c5,c,f⟩:=h.padC;clear h;go_enter func183,ntmps183;go_wp2;go_loopw [11] (λi wr=>Bt F W wr/\((i=.int .i64 0/\Bd F wr M tk) \/ (i=.int .i64 1/\Bd F wr { M with p0:=M.p0.wr n } tk) \/ (i=.int .i64 2/\Bd F wr (M.putM 0 n) tk))) (λi _=>2-(intOf i).toNat)
 case atStart=>exact⟨Bt.refl _ _,Or.inl ⟨U,H.out⟩⟩
 case round =>
  obtain⟨m,hrel⟩:=hrel;have j:=hid m;clear m c0 c1 c2 c3 c4 c5 c f;rcases hrel with⟨rfl,hB⟩|⟨rfl,hB⟩|⟨rfl,hB⟩
  ·obtain⟨c0,c1,c2,c3,c4,c5,c,f⟩:=hB.padC
   have a:=hid hB;clear hB;go_wp2;go_region_with (go_at_call 241;refine(zjx _ _ n _ _ k).mono ?_;rintro e w1 ⟨rfl,b⟩;obtain⟨o,x1,x2,x3,p,q,r,t⟩:=((a.out.over _).drew.kept b).padC)
   all_goals go_wp2
   all_goals
    refine⟨⟨?_,Or.inr (Or.inl ⟨U,?_⟩)⟩,by decide⟩
    ·exact Bt.sets a.out.nd [.int .u8 M.p0.d,.bool (cH n),.int .u8 (et (cH n) M.p0.d M.p0.s)] 35 _ (Mv.trans j.out (Bt.below a.out (bn (stA (J _) _).drew b)))
    ·exact((a.out.over _).drew.kept b).puts (M':={ M with p0:=M.p0.wr n }) (tk':=tk) 35 [.int .u8 M.p0.d,.bool (cH n),.int .u8 (et (cH n) M.p0.d M.p0.s)] (by simp) U ⟨U,U,U,U,U⟩ { a.out.fit with main:=a.out.fit.main,p0:=Pd.wr_ok a.out.fit.p0 n }
  ·obtain⟨c0,c1,c2,c3,c4,c5,c,f⟩:=hB.padC
   have a:=hid hB;clear hB;go_wp2;go_region_with (go_at_call 241;refine(zjx _ _ n _ _ k).mono ?_;rintro e w1 ⟨rfl,b⟩;obtain⟨o,x1,x2,x3,p,q,r,t⟩:=((a.out.over _).drew.kept b).padC)
   all_goals go_wp2
   all_goals
    refine⟨⟨?_,Or.inr (Or.inr ⟨U,?_⟩)⟩,by decide⟩
    ·exact Bt.sets a.out.nd [.int .u8 M.p1.d,.bool (cH n),.int .u8 (et (cH n) M.p1.d M.p1.s)] 38 _ (Mv.trans j.out (Bt.below a.out (bn (stA (J _) _).drew b)))
    ·exact((a.out.over _).drew.kept b).puts (M':=M.putM 0 n) (tk':=tk) 38 [.int .u8 M.p1.d,.bool (cH n),.int .u8 (et (cH n) M.p1.d M.p1.s)] (by simp) U ⟨U,U,U,U,U⟩ (show Mach.fit { M with p0:=M.p0.wr n,p1:=M.p1.wr n } from { a.out.fit with main:=a.out.fit.main,p1:=Pd.wr_ok a.out.fit.p1 n })
  ·have a:=hid hB
   clear hB;go_wp2;go_end0;exact⟨U,a.out,j.out⟩
end
def iv(M:Mach)(S:Sl)(ai B:List Value):List Value:=D M S++([.int .i64 0,.slice none 0 0]++(ai++B))
def iK:List Value:=.pointer none :: .nilFunc::List.replicate 64 .nilFunc
theorem qp:iK.length=66:=by simp[iK]
theorem zd6(M:Mach)(S:Sl)(ai B:List Value)(a:ai.length=66)(hB:B.length=66):(iv M S ai B).length=209:=by
 unfold iv;simp only[aC,cy,a,hB];rfl
theorem zoQ(M:Mach)(S:Sl)(ai a B:List Value)(h:a.length=ai.length):gN (iv M S ai B) 77 a=iv M S a B:=by
 have e:∀ X:List Value,iv M S X B=(D M S++[.int .i64 0,.slice none 0 0])++(X++B):=λX=>by unfold iv;simp only[bp]
 rw[e ai,e a];exact ou B a ai (D M S++[.int .i64 0,.slice none 0 0]) h
theorem zoR(M:Mach)(S:Sl)(ai B a:List Value)(b:ai.length=66)(h:a.length=B.length):gN (iv M S ai B) 143 a=iv M S ai a:=by
 have e:∀ X:List Value,iv M S ai X=((D M S++[.int .i64 0,.slice none 0 0])++ai)++(X++[]):=λX=>by unfold iv;simp only[bp,bZ]
 rw[e B,e a];have c:((D M S++[Value.int .i64 0,.slice none 0 0])++ai).length=143:=by simp only[aC,cy,b];rfl
 rw[<- c];exact ou [] a B _ h
theorem zjR:(Tryz.prog.info? 140).map (·.size)=some 66:=by kernel_rfl
def boE(n:Nat)(a:Nat):Env:={ mE n with ab:=a,sb:=λk=>a+3+2*k,sa:=λk=>a+4+2*k }
theorem wpList_build{P:Program}{ops:Array Oper}{rest:List Oper}{op:Oper}{a:Act}{w:World}{aj:Exit->Act->World->Prop}(c:op.guard=none)(t:TypeId)(parts:Array (Nat × Operand))(d:op.op=.build t parts)(v:Value)
 (b:(Instr.build t (parts.map λ(i,x)=>(i,a.eval x))).run P w=.ok v w) (h:wpList P ops aj rest (a.put op.dst v) w):wpList P ops aj (op::rest) a w :=
 dS c λK e=>by
  unfold Oper.wp execOp;simp only[d,fj,b,dx,fk];exact e _ _ h
theorem zrg(M:Mach)(S:Sl)(w:World):(Instr.build 142 #[(0,.agg (D M S).toArray)]).run prog w=.ok (.agg (iv M S iK iK).toArray) w:=by kernel_rfl
theorem zde{P:Program}{a:Act}{o:Oper}{w:World}(t:TypeId)(parts:Array (Nat × Operand))(c:o.op=.build t parts)(v:Value)(b:(Instr.build t (parts.map λ(i,x)=>(i,a.eval x))).run P w=.ok v w):(execOp a.eval o).run P w=.ok (.value v) w:=by
 unfold execOp;simp only[c,fj,b,dx,fk]
theorem tN{B g:Nat}{M:Mach}{S:Sl}{Y:World}{j:Nat}(h:mS B M S Y j):∃ k,Rw Y (S.get j) k (M.byt j)/\((k=g+1/\S.get j=.slice none 0 0) \/ (B<=k/\k<Y.heap.size /\ ∃ n c,S.get j=.slice (some ⟨k,0,none⟩) n c)):=by
 rcases h with⟨e1,e2⟩|⟨b,a,e1,e2,e3,e4⟩
 ·exact⟨g+1,Or.inl ⟨e1,e2⟩,Or.inl ⟨U,e1⟩⟩
 ·exact⟨b,Or.inr ⟨a,e1,e2,e4⟩,Or.inr ⟨e3,e4.z,_,_,e1⟩⟩
def sM(g n:Nat):List Value:=pt g 30::dX 107 g 0::cT (pC g (mE n)).rdM (pC g (mE n)).wrM 32
def sA(g a:Nat):List Value:=pt g 31::dX 109 g 0::oL a g 24
theorem sG(g n:Nat):(sM g n).length=66:=by unfold sM;simp[nb]
theorem znz(g n:Nat):(sA g n).length=66:=by unfold sA;simp[zlQ]
theorem zoS(B g b c d e f n a:Nat)(S:Sl)(M:Mach):(Fx.mk B g b c d e f S (boE n a)).cells M Tk.zero=iv M S (sM g n) (sA g a):=by kernel_rfl
theorem Bd.make{w2 c:World}{M:Mach}{S1:Sl}{B L n a:Nat}(d:OwnK L M S1 5 w2)(hB:B<=L)(hB2:L<=w2.heap.size)(H:M.fit)(s:Bx c w2.heap.size (iv M S1 (sM w2.heap.size n) (sA w2.heap.size a)))(p:∀ b,b<w2.heap.size->c.heap[b]?=w2.heap[b]?)
 (hE:mP w2.heap.size (mE n) c) (hn:w2.heap.size<n) (r:Bx c a [pt w2.heap.size 0] /\ ∀ k,k<24->Bx c (a+3+2*k) [pt w2.heap.size 0]/\Bx c (a+4+2*k) [.int .i64 k]) (ha:w2.heap.size<a) :
 ∃ F:Fx,F.B=B/\F.g=w2.heap.size/\(F.B<=F.mr/\F.B<=F.ar)/\Bd F c M Tk.zero:=by
 obtain⟨f,r0,W⟩:=tN (g:=w2.heap.size) (d.own 0 (by omega));obtain⟨j,r1,d1⟩:=tN (g:=w2.heap.size) (d.own 1 (by omega));obtain⟨l,r2,d2⟩:=tN (g:=w2.heap.size) (d.own 2 (by omega));obtain⟨m,r3,d3⟩:=tN (g:=w2.heap.size) (d.own 3 (by omega));obtain⟨o,r4,d4⟩:=tN (g:=w2.heap.size) (d.own 4 (by omega));have hz:=s.z;have N:Rw c S1.mr f M.mrom:=r0.same (by omega) (λh=>p _ h);have P:Rw c S1.ar j M.arom:=r1.same (by omega) (λh=>p _ h);have t:Rw c S1.ra l M.ram:=r2.same (by omega) (λh=>p _ h);have u:Rw c S1.ow m M.own:=r3.same (by omega) (λh=>p _ h);have w:Rw c S1.vi o M.video:=r4.same (by omega) (λh=>p _ h);have n2:S1.get 2 ≠ .slice none 0 0:=λe=>by
  obtain⟨y,e1,_⟩:=t.some (by rw[H.ram];omega);have:S1.get 2=S1.ra:=U;rw[this,e1] at e;cases e
 have n3:S1.get 3 ≠ .slice none 0 0:=λe=>by
  obtain⟨y,e1,_⟩:=u.some (by rw[H.own];omega);have:S1.get 3=S1.ow:=U;rw[this,e1] at e;cases e
 have n4:S1.get 4 ≠ .slice none 0 0:=λe=>by
  obtain⟨y,e1,_⟩:=w.some (by rw[H.video];omega);have:S1.get 4=S1.vi:=U;rw[this,e1] at e;cases e
 rcases d2 with⟨_,e⟩|⟨b2,z2,_,_,e2⟩
 ·exact absurd e n2
 rcases d3 with⟨_,e⟩|⟨b3,z3,_,_,e3⟩
 ·exact absurd e n3
 rcases d4 with⟨_,e⟩|⟨b4,z4,_,_,e4⟩
 ·exact absurd e n4
 have R:=d.dist 2 3 _ _ _ _ _ _ (by omega) (by omega) (by omega) e2 e3;have T:=d.dist 2 4 _ _ _ _ _ _ (by omega) (by omega) (by omega) e2 e4;have V:=d.dist 3 4 _ _ _ _ _ _ (by omega) (by omega) (by omega) e3 e4;have y0:f≠w2.heap.size/\f≠l/\f≠m/\f≠o:=by
  rcases W with⟨e,_⟩|⟨_,z0,_,_,q⟩
  ·omega
  ·have:=d.dist 0 2 _ _ _ _ _ _ (by omega) (by omega) (by omega) q e2
   have:=d.dist 0 3 _ _ _ _ _ _ (by omega) (by omega) (by omega) q e3;have:=d.dist 0 4 _ _ _ _ _ _ (by omega) (by omega) (by omega) q e4;exact⟨by omega,by assumption,by assumption,by assumption⟩
 have y1:j≠w2.heap.size/\j≠l/\j≠m/\j≠o:=by
  rcases d1 with⟨e,_⟩|⟨_,z0,_,_,q⟩
  ·omega
  ·have:=d.dist 1 2 _ _ _ _ _ _ (by omega) (by omega) (by omega) q e2
   have:=d.dist 1 3 _ _ _ _ _ _ (by omega) (by omega) (by omega) q e3;have:=d.dist 1 4 _ _ _ _ _ _ (by omega) (by omega) (by omega) q e4;exact⟨by omega,by assumption,by assumption,by assumption⟩
 have hT:∀ x,w2.heap.size<x->¬ (x=w2.heap.size \/ x=l \/ x=m \/ x=o):=λx I h=>by omega
 obtain⟨X,Y,Z,E3,E4,E5,E6,E7,E8,E9,E⟩:=hE;refine⟨⟨B,w2.heap.size,f,j,l,m,o,S1,boE n a⟩,U,U,⟨by show B<=f;rcases W with⟨e,_⟩|⟨e,_⟩ <;> omega,by show B<=j;rcases d1 with⟨e,_⟩|⟨e,_⟩ <;> omega⟩,by show Bx c w2.heap.size ((Fx.mk B w2.heap.size f j l m o S1 (boE n a)).cells M Tk.zero);rw[zoS];exact s,N,P,t,u,w,λx v I=>?_,⟨⟨by show B<=w2.heap.size;omega,by show B<=l;omega,by show B<=m;omega,by show B<=o;omega⟩,⟨by show w2.heap.size≠l;omega,by show w2.heap.size≠m;omega,by show w2.heap.size≠o;omega,R,T,V⟩,λh=>?_,λh=>?_,λx v I=>?_⟩,H,by show B<=c.heap.size;omega,cW _ _ _ _,λk p=>by cases p⟩
 ·cases I
  ·exact⟨X.z,X.at 0 _ U⟩
  ·exact⟨Y.z,Y.at 0 _ U⟩
  ·exact⟨Z.z,Z.at 0 _ U⟩
  ·exact⟨E3.z,E3.at 0 _ U⟩
  ·exact⟨E4.z,E4.at 0 _ U⟩
  ·exact⟨E5.z,E5.at 0 _ U⟩
  ·exact⟨E6.z,E6.at 0 _ U⟩
  ·exact⟨E7.z,E7.at 0 _ U⟩
  ·exact⟨E8.z,E8.at 0 _ U⟩
  ·exact⟨E9.z,E9.at 0 _ U⟩
  ·exact⟨E.z,E.at 0 _ U⟩
  ·exact⟨r.1.z,r.1.at 0 _ U⟩
  ·rename_i i hi
   exact⟨(r.2 i hi).1.z,(r.2 i hi).1.at 0 _ U⟩
  ·rename_i i hi
   exact⟨(r.2 i hi).2.z,(r.2 i hi).2.at 0 _ U⟩
 ·have h':f=w2.heap.size \/ f=l \/ f=m \/ f=o:=h
  omega
 ·have h':j=w2.heap.size \/ j=l \/ j=m \/ j=o:=h
  omega
 ·refine hT x ?_
  cases I
  ·show w2.heap.size<n+1;omega
  ·show w2.heap.size<n+2;omega
  ·show w2.heap.size<n+3;omega
  ·show w2.heap.size<n+4;omega
  ·show w2.heap.size<n+5;omega
  ·show w2.heap.size<n+6;omega
  ·show w2.heap.size<n+7;omega
  ·show w2.heap.size<n+8;omega
  ·show w2.heap.size<n+9;omega
  ·show w2.heap.size<n+10;omega
  ·show w2.heap.size<n+11;omega
  ·exact ha
  ·rename_i i hi
   show w2.heap.size<a+3+2*i;omega
  ·rename_i i hi
   show w2.heap.size<a+4+2*i;omega
end Go.Proofs.YthghjlinhokimaaGreatDoor
