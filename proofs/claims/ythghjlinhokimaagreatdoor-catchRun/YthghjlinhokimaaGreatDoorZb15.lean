/-
  Parts of a proof, joined.
-/
import Derived.Test.YthghjlinhokimaaGreatDoorZbA
import Derived.Test.YthghjlinhokimaaGreatDoorZb10
set_option linter.all false
set_option maxRecDepth 100000
set_option maxHeartbeats 1600000
open Option renaming none->G
open Go renaming World->u,Calls->Δ,loadVar->bC
open Bool renaming false->ξ,true->Γ
open Go.Proofs.Tryz renaming prog->ω
open Go.Result renaming andThen->aE
open Int renaming tmod->bl
open Go.Sem renaming run->bL
open Go.Value renaming int->J,bool->ν,tuple->Ψ,agg->ac
open Go.IntKind renaming i64->Q,u16->Y,u8->au
open Go.Ending renaming returned->μ
open Go.Obj renaming cells->χ
namespace Go.Proofs.YthghjlinhokimaaGreatDoor
open Go.ChangeShapes Go.WideShapes Go.ChangeAt Go.RowKit Go.Proofs.Tryz
section
variable {F : Fx} {W : u} {M : Mach} {tk : Tk}
theorem ztJ(h:Bd F W M tk)(a:Int)(d:0<=a/\a<=65535)(hp:∀ i,i<32->Bf F M tk i):Δ ω 132 #[pt F.g 143,J Y a] W λe w'=>e=μ (J au (M.rdA a).1)/\Bd F w' (M.rdA a).2 tk/\Bt F W w':=by
 unfold Mach.rdA;cases f:dP a
 ·have m:=hid (zlw h a d)
  have b:=hid f;have H:=hid h;clear h f hp;go_enter func132,ntmps132;go_wp2_with (first
   | (go_at_call 212;refine(ry a _ d).mono ?_;rw[b.out];rintro e w1 ⟨rfl,rfl⟩)
   | (go_at_call 214;refine m.out.mono ?_;rintro e w1 ⟨rfl,rfl⟩))
  go_ret;exact⟨D,H.out,Bt.refl _ _⟩
 ·obtain⟨n,o⟩:∃ n:Nat,a%32=n:=⟨(a%32).toNat,by omega⟩
  have c:n<32:=by omega
  have r:bl a 32=n:=by rw[ak d.1,o]
  have p:=hid (hp n c W h);have b:=hid f;have l:portNo a=n:=by unfold portNo;omega
  rw[l];obtain⟨c0,c1⟩:=h.pA n c;have s:=h.bx.z;have q:(n:Int)<32:=by omega
  clear h f hp l;generalize F.rdA n=t at *;generalize F.wrA n=vw at *;go_enter func132,ntmps132;go_wp2_with (first
   | (go_at_call 212;refine(ry a _ d).mono ?_;rw[b.out];rintro e w1 ⟨rfl,rfl⟩)
   | (go_at_call 213;refine p.out.mono ?_;rintro e w1 ⟨rfl,j,k⟩))
  go_ret;exact⟨D,j,k⟩
theorem zro(h:Bd F W M tk)(a n:Int)(d:0<=a/\a<=65535)(o:0<=n/\n<=255)(hp:∀ i,i<32->Bg F M tk i n):Δ ω 133 #[pt F.g 77,J Y a,J au n] W λe w'=>e=μ (Ψ #[])/\Bd F w' (M.wrM a n) (tk.add (kt a n))/\Bt F W w':=by
 unfold Mach.wrM kt;cases j:dP a
 ·have c:=hid (zpX h a d)
  have q:=h.at 78 (ik 107 F.g 0) D;have b:=hid j;have H:=hid h;have r:=h.bx.z;clear h j hp;simp only[cD,fj,Tk.add_zero];unfold Mach.memM;unfold Fx.memM at c;by_cases h1:a<32768
  ·rw[am h1]
   rw[am h1] at c;go_enter func133,ntmps133;go_wp2_with (first
    | (go_at_call 212;refine(ry a _ d).mono ?_;rw[b.out];rintro e w1 ⟨rfl,rfl⟩)
    | (go_at_call 107;refine c.out.mono ?_;rintro e w1 ⟨rfl,rfl⟩))
   go_end0;exact⟨D,H.out,Bt.refl _ _⟩
  ·rw[ae h1]
   rw[ae h1] at c;by_cases h2:a<49152
   ·rw[am h2]
    rw[am h2] at c;obtain⟨s,t,v⟩:=H.out.ramAt ((a-32768)%128) (by omega) (by omega);go_enter func133,ntmps133;go_wp2_with (first
     | (go_at_call 212;refine(ry a _ d).mono ?_;rw[b.out];rintro e w1 ⟨rfl,rfl⟩)
     | (go_at_call 107;refine c.out.mono ?_;rintro e w1 ⟨rfl,rfl⟩))
    go_end0;exact⟨D,H.out.putRam _ n (by omega) (by omega) o,(Bt.refl _ _).setR H.out.nd _ _⟩
   ·rw[ae h2]
    rw[ae h2] at c;by_cases h3:a<53248
    ·rw[am h3]
     rw[am h3] at c;obtain⟨s,t,v⟩:=H.out.viAt ((a-49152)%256) (by omega) (by omega);go_enter func133,ntmps133;go_wp2_with (first
      | (go_at_call 212;refine(ry a _ d).mono ?_;rw[b.out];rintro e w1 ⟨rfl,rfl⟩)
      | (go_at_call 107;refine c.out.mono ?_;rintro e w1 ⟨rfl,rfl⟩))
     go_end0;exact⟨D,H.out.putVideo _ n (by omega) (by omega) o,(Bt.refl _ _).setV H.out.nd _ _⟩
    ·rw[ae h3]
     rw[ae h3] at c;go_enter func133,ntmps133;go_wp2_with (first
      | (go_at_call 212;refine(ry a _ d).mono ?_;rw[b.out];rintro e w1 ⟨rfl,rfl⟩)
      | (go_at_call 107;refine c.out.mono ?_;rintro e w1 ⟨rfl,rfl⟩))
     go_end0;exact⟨D,H.out,Bt.refl _ _⟩
 ·obtain⟨k,w⟩:∃ k:Nat,a%32=k:=⟨(a%32).toNat,by omega⟩
  have f:k<32:=by omega
  have c:bl a 32=k:=by rw[ak d.1,w]
  have x:=hid (hp k f W h);have b:=hid j;have p:portNo a=k:=by unfold portNo;omega
  simp only[fO];rw[p];obtain⟨c0,c1⟩:=h.pM k f;have r:=h.bx.z;have y:(k:Int)<32:=by omega
  clear h j hp p;generalize F.rdM k=B at *;generalize F.wrM k=vw at *;go_enter func133,ntmps133;go_wp2_with (first
   | (go_at_call 212;refine(ry a _ d).mono ?_;rw[b.out];rintro e w1 ⟨rfl,rfl⟩)
   | (go_at_call 215;refine x.out.mono ?_;rintro e w1 ⟨rfl,l,m⟩))
  go_end0;exact⟨D,l,m⟩
end
section
variable {F : Fx} {W : u} {M : Mach} {tk : Tk}
theorem zx1(a b:Bool):bits .or au (ir a 1 0) (ir b 2 0)=two a b:=by cases a <;> cases b <;> rfl
theorem zrj(h:Bd F W M tk):Δ ω 186 #[pt F.g 0] W λe w'=>e=μ (J au (two M.t.on M.t.g))/\Bd F w' M tk/\Bt F W w':=by
 have c1:=h.at 43 (ν M.t.on) D;have c2:=h.at 44 (ν M.t.g) D;have a:=h.bx.z;have H:=hid h;clear h;rw[<- zx1];generalize M.t.on=x at *;generalize M.t.g=y at *;go_enter func186,ntmps186;go_wp2;go_region_held3 (λw'=>w'.cell? ⟨F.g,43,G⟩=some (ν x)/\w'.cell? ⟨F.g,44,G⟩=some (ν y))
  ((go_keep;done))
  ((go_at_call 244;refine(zd2 _ _ _).mono ?_;rintro e w1 ⟨rfl,rfl⟩))
 go_wp2;go_ret;exact⟨D,H.out.drew,(Bt.refl _ _).drew⟩
theorem zwg(h:Bd F W M tk):Δ ω 193 #[pt F.g 0] W λe w'=>e=μ (J au (two M.granted M.held))/\Bd F w' M tk/\Bt F W w':=by
 have c1:=h.at 67 (ν M.granted) D;have c2:=h.at 68 (ν M.held) D;have a:=h.bx.z;have H:=hid h;clear h;rw[<- zx1];generalize M.granted=x at *;generalize M.held=y at *;go_enter func193,ntmps193;go_wp2;go_region_with (go_at_call 244;refine(zd2 _ _ _).mono ?_;rintro e w1 ⟨rfl,rfl⟩)
 all_goals
  go_wp2;go_ret;exact⟨D,H.out.drew,(Bt.refl _ _).drew⟩
theorem ztu(h:Bd F W M tk):Δ ω 190 #[pt F.g 0] W λe w'=>e=μ (J au (two M.b.g ξ))/\Bd F w' M tk/\Bt F W w':=by
 have c1:=h.at 63 (ν M.b.g) D;have a:=h.bx.z;have H:=hid h;clear h;rw[show two M.b.g ξ=ir M.b.g 1 0 by cases M.b.g <;> rfl];generalize M.b.g=x at *;go_enter func190,ntmps190;go_wp2_with (go_at_call 244;refine(zd2 _ _ _).mono ?_;rintro e w1 ⟨rfl,rfl⟩)
 go_ret;exact⟨D,H.out,Bt.refl _ _⟩
theorem ztv(h:Bd F W M tk):Δ ω 188 #[pt F.E.mb 0] W λe w'=>e=μ (J au M.b.l)/\Bd F w' M tk/\Bt F W w':=by
 have c1:=h.at 61 (J Q M.b.l) D;have a:=h.bx.z;obtain⟨c,e1⟩:=h.env _ _ .mb;have b0:=h.fit.b.l0;have b1:=h.fit.b.l1;have H:=hid h;clear h;go_enter func188,ntmps188;go_wp2;go_ret;exact⟨D,H.out,Bt.refl _ _⟩
theorem zy0(h:Bd F W M tk):Δ ω 189 #[pt F.E.mb 0] W λe w'=>e=μ (J au M.b.a)/\Bd F w' M tk/\Bt F W w':=by
 have c1:=h.at 62 (J Q M.b.a) D;have c:=h.bx.z;obtain⟨d,e1⟩:=h.env _ _ .mb;have b0:=h.fit.b.a0;have b1:=h.fit.b.a1;have H:=hid h;clear h;go_enter func189,ntmps189;go_wp2;go_ret;exact⟨D,H.out,Bt.refl _ _⟩
theorem ztw(h:Bd F W M tk):Δ ω 195 #[pt F.E.mb 0] W λe w'=>e=μ (J au M.m1)/\Bd F w' M tk/\Bt F W w':=by
 have c1:=h.at 70 (J au M.m1) D;have a:=h.bx.z;obtain⟨b,e1⟩:=h.env _ _ .mb;have H:=hid h;clear h;go_enter func195,ntmps195;go_wp2;go_ret;exact⟨D,H.out,Bt.refl _ _⟩
theorem ztx(h:Bd F W M tk):Δ ω 197 #[pt F.g 0] W λe w'=>e=μ (J au M.m0)/\Bd F w' { M with rung:=ξ } tk/\Bt F W w':=by
 have c1:=h.at 69 (J au M.m0) D;have c2:=h.at 71 (ν M.rung) D;have c3:=h.bx.f 71;have a:=h.bx.z;have H:=hid h;clear h;go_enter func197,ntmps197;go_wp2;go_ret;exact⟨D,H.out.put 71 _ (by omega) D ⟨D,D,D,D,D⟩ { H.out.fit with main:=H.out.fit.main },(Bt.refl _ _).set H.out.nd _ _⟩
end
section
variable {F : Fx} {W : u} {M : Mach} {tk : Tk}
theorem zrz(h:Bd F W M tk)(a n:Int)(d:0<=a/\a<=65535)(o:0<=n/\n<=255)(hp:∀ i,i<32->Bh F M tk i n):Δ ω 133 #[pt F.g 143,J Y a,J au n] W λe w'=>e=μ (Ψ #[])/\vd F W w' (M.wrA a n) tk (M.shA a n):=by
 unfold Mach.wrA Mach.shA;cases l:dP a
 ·have b:=hid (zpY h a d)
  have r:=h.at2 1 (ik 109 F.g 0) D;have c:=hid l;have H:=hid h;have s:=h.bx.z;clear h l hp;simp only[cD,fj];unfold Mach.memA;unfold Fx.memA at b;by_cases h1:a<32768
  ·rw[am h1]
   rw[am h1] at b;go_enter func133,ntmps133;go_wp2_with (first
    | (go_at_call 212;refine(ry a _ d).mono ?_;rw[c.out];rintro e w1 ⟨rfl,rfl⟩)
    | (go_at_call 109;refine b.out.mono ?_;rintro e w1 ⟨rfl,rfl⟩))
   go_end0;exact⟨D,tq H.out D (Bt.refl _ _)⟩
  ·rw[ae h1]
   rw[ae h1] at b;by_cases h2:a<49152
   ·rw[am h2]
    rw[am h2] at b;obtain⟨t,v,w⟩:=H.out.ownAt ((a-32768)%64) (by omega) (by omega);go_enter func133,ntmps133;go_wp2_with (first
     | (go_at_call 212;refine(ry a _ d).mono ?_;rw[c.out];rintro e w1 ⟨rfl,rfl⟩)
     | (go_at_call 109;refine b.out.mono ?_;rintro e w1 ⟨rfl,rfl⟩))
    go_end0;exact⟨D,tq (H.out.putOwn _ n (by omega) (by omega) o) D ((Bt.refl _ _).setO H.out.nd _ _)⟩
   ·rw[ae h2]
    rw[ae h2] at b;by_cases h3:a<53248
    ·rw[am h3]
     rw[am h3] at b;obtain⟨t,v,w⟩:=H.out.ramAt ((a-49152)%128) (by omega) (by omega);cases f:M.granted
     ·rw[f] at b
      go_enter func133,ntmps133;go_wp2_with (first
       | (go_at_call 212;refine(ry a _ d).mono ?_;rw[c.out];rintro e w1 ⟨rfl,rfl⟩)
       | (go_at_call 109;refine b.out.mono ?_;rintro e w1 ⟨rfl,rfl⟩))
      go_end0;exact⟨D,tq H.out D (Bt.refl _ _)⟩
     ·rw[f] at b
      go_enter func133,ntmps133;go_wp2_with (first
       | (go_at_call 212;refine(ry a _ d).mono ?_;rw[c.out];rintro e w1 ⟨rfl,rfl⟩)
       | (go_at_call 109;refine b.out.mono ?_;rintro e w1 ⟨rfl,rfl⟩))
      go_end0;have p:=H.out.putRam ((a-49152)%128) n (by omega) (by omega) o;rw[f] at p;exact⟨D,tq p D ((Bt.refl _ _).setR H.out.nd _ _)⟩
    ·rw[ae h3]
     rw[ae h3] at b;go_enter func133,ntmps133;go_wp2_with (first
      | (go_at_call 212;refine(ry a _ d).mono ?_;rw[c.out];rintro e w1 ⟨rfl,rfl⟩)
      | (go_at_call 109;refine b.out.mono ?_;rintro e w1 ⟨rfl,rfl⟩))
     go_end0;exact⟨D,tq H.out D (Bt.refl _ _)⟩
 ·obtain⟨k,x⟩:∃ k:Nat,a%32=k:=⟨(a%32).toNat,by omega⟩
  have j:k<32:=by omega
  have b:bl a 32=k:=by rw[ak d.1,x]
  have y:=hid (hp k j W h);have c:=hid l;have q:portNo a=k:=by unfold portNo;omega
  simp only[fO];rw[q];obtain⟨c0,c1⟩:=h.pA k j;have s:=h.bx.z;have B:(k:Int)<32:=by omega
  clear h l hp q;generalize F.rdA k=E at *;generalize F.wrA k=vw at *;go_enter func133,ntmps133;go_wp2_with (first
   | (go_at_call 212;refine(ry a _ d).mono ?_;rw[c.out];rintro e w1 ⟨rfl,rfl⟩)
   | (go_at_call 215;refine y.out.mono ?_;rintro e w1 ⟨rfl,m⟩))
  go_end0;exact⟨D,m⟩
end
structure RunB (w : u) (B : Nat) (l a : Int) (g : Bool) (f : Int) (W : u) : Prop where
 low:Below w.heap.size w W
 t:Bat W w.heap.size l a g f
 r:Bat W (w.heap.size+1) 0 0 ξ 0
 q:W.cell? ⟨B,0,G⟩=some (J Q 640)
 z:B<W.heap.size
 ne:w.heap.size<B
theorem zuu{w w1:u}{l a f:Int}{g x:Bool}
 (b:Below ((w.alloc (χ #[J Q l,J Q a,ν g,J Q f] 38)).alloc (χ #[J Q 0,J Q 0,ν ξ,J Q 0] 38)).heap.size ((w.alloc (χ #[J Q l,J Q a,ν g,J Q f] 38)).alloc (χ #[J Q 0,J Q 0,ν ξ,J Q 0] 38)) w1) :
 RunB w (w1.heap.size+1) l a x f (((w1.setCell ⟨w.heap.size,2,G⟩ (ν x)).alloc (χ #[J Q 512] 3)).alloc (χ #[J Q 640] 3)):=by
 have hB:=bw (stA (stA (aR w) _) _) b;have d:=((Bat.new w l a g f).over (χ #[J Q 0,J Q 0,ν ξ,J Q 0] 38)).kept b;have c:=Bat.new (w.alloc (χ #[J Q l,J Q a,ν g,J Q f] 38)) 0 0 ξ 0;have e:(w.alloc (χ #[J Q l,J Q a,ν g,J Q f] 38)).heap.size=w.heap.size+1:=by simp
 rw[e] at c;have h:=c.kept b;refine⟨stA (stA (hB.setCell (ψ _) _) _) _,((d.put2 x).over _).over _,((h.far (by omega) _).over _).over _,Pl.new _ _ _ _ (by simp),by simp,?_⟩;have:=d.z;omega
theorem Bm.resB{w w1:u}{l a f:Int}{g:Bool}
 (b:Below ((w.alloc (χ #[J Q l,J Q a,ν g,J Q f] 38)).alloc (χ #[J Q 0,J Q 0,ν ξ,J Q 0] 38)).heap.size ((w.alloc (χ #[J Q l,J Q a,ν g,J Q f] 38)).alloc (χ #[J Q 0,J Q 0,ν ξ,J Q 0] 38)) w1) :
 Below w.heap.size w ((((w1.setCell ⟨w.heap.size+1,0,G⟩ (J Q 0)).setCell ⟨w.heap.size+1,1,G⟩ (J Q 0)).setCell ⟨w.heap.size+1,2,G⟩ (ν ξ)).setCell ⟨w.heap.size+1,3,G⟩ (J Q 0))/\((((w1.setCell ⟨w.heap.size+1,0,G⟩ (J Q 0)).setCell ⟨w.heap.size+1,1,G⟩ (J Q 0)).setCell ⟨w.heap.size+1,2,G⟩ (ν ξ)).setCell ⟨w.heap.size+1,3,G⟩ (J Q 0)).rangeAt (w.heap.size+1) 0 [J Q 0,J Q 0,ν ξ,J Q 0]:=by
 have hB:=bw (stA (stA (aR w) _) _) b;have c:=Bat.new (w.alloc (χ #[J Q l,J Q a,ν g,J Q f] 38)) 0 0 ξ 0;have e:(w.alloc (χ #[J Q l,J Q a,ν g,J Q f] 38)).heap.size=w.heap.size+1:=by simp
 rw[e] at c;have d:=c.kept b;exact⟨d.below hB (by omega) 0 0 ξ 0,(d.puts 0 0 ξ 0).range⟩
theorem RunB.fin{w W:u}{B:Nat}{l a f:Int}{x:Bool}(h:RunB w B l a x f W)(b c d:Int):Below w.heap.size w (((((((W.setCell ⟨w.heap.size,3,G⟩ (J Q d)).setCell ⟨w.heap.size,0,G⟩ (J Q b)).setCell ⟨w.heap.size,1,G⟩ (J Q c)).setCell ⟨w.heap.size+1,0,G⟩ (J Q b)).setCell ⟨w.heap.size+1,1,G⟩ (J Q c)).setCell ⟨w.heap.size+1,2,G⟩ (ν x)).setCell ⟨w.heap.size+1,3,G⟩ (J Q d)).drew/\(((((((W.setCell ⟨w.heap.size,3,G⟩ (J Q d)).setCell ⟨w.heap.size,0,G⟩ (J Q b)).setCell ⟨w.heap.size,1,G⟩ (J Q c)).setCell ⟨w.heap.size+1,0,G⟩ (J Q b)).setCell ⟨w.heap.size+1,1,G⟩ (J Q c)).setCell ⟨w.heap.size+1,2,G⟩ (ν x)).setCell ⟨w.heap.size+1,3,G⟩ (J Q d)).drew.rangeAt (w.heap.size+1) 0 [J Q b,J Q c,ν x,J Q d]:=by
 have hb:=((h.low.setCell (p:=⟨w.heap.size,3,G⟩) (ψ _) (J Q d)).setCell (p:=⟨w.heap.size,0,G⟩) (ψ _) (J Q b)).setCell (p:=⟨w.heap.size,1,G⟩) (ψ _) (J Q c);have e:=((h.r.far (by omega) (J Q d) (o':=3) (b':=w.heap.size)).far (by omega) (J Q b) (o':=0) (b':=w.heap.size)).far (by omega) (J Q c) (o':=1) (b':=w.heap.size);exact⟨(e.below hb (by omega) b c x d).drew,(e.puts b c x d).drew.range⟩
theorem ziC(l a f n:Int)(g:Bool)(w:u)(h:BOk l a f)(k:0<=n/\n<=20000):Δ ω 65 #[ac #[J Q l,J Q a,ν g,J Q f],J Q n] w λe w'=>e=μ (Ψ #[ac #[J Q (lC l a n),J Q (kA l a n),ν (pd l a g n),J Q (lS l a f n)],J Q 0])/\Below w.heap.size w w':=by
 have H:=hid h;have M:=ze k.1 k.2;obtain⟨l0,l1,a0,a1,f0,f1⟩:=h;obtain⟨N,P⟩:=k;have p0:0<=l*64+a:=by omega
 have p1:l*64+a<=639:=by omega
 have m1:bl (l*64+a+n) 640=(l*64+a+n)%640:=ak (by omega);have R:bl (l*64+a+n) 64=(l*64+a+n)%64:=ak (by omega);have T:Int.tdiv ((l*64+a+n)%640) 64=(l*64+a+n)%640/64:=aF (by omega);cases g
 ·go_enter func65,ntmps65
  go_wp2_with (first
   | (go_at_call 121;refine(At l a f _ _ H.out).mono ?_;rintro e w1 ⟨rfl,c⟩;obtain⟨k1,f1⟩:=cj c;have d:w.heap.size+1<w1.heap.size:=Θ (by simp) c.size;have z0:w.heap.size<w1.heap.size:=cX d)
   | (go_at_call 122;refine(yd _ _ _).mono ?_;rintro e w0 ⟨rfl,rfl⟩)
   | (go_at_call 123;refine(zga _ _).mono ?_;rintro e w0 ⟨rfl,rfl⟩)
   | (go_at_call 205;refine(zcs 512 _ w1.heap.size _ (by omega) (by omega) (by simp) (by simp;omega)).mono ?_;rintro e w0 ⟨rfl,rfl⟩))
  have i:pd l a ξ n=decide ((l*64+a+640-512)/640<(l*64+a+n+640-512)/640):=by
   unfold pd;rw[lY,dW];omega
  have m:=hid i;clear i;refine Pl.cutW (λW=>RunB w (w1.heap.size+1) l a (pd l a ξ n) f W) (by rw[m.out];exact zuu c) ?_;rintro W j;have b:=hid j;clear j;generalize hB:w1.heap.size+1=B at *;clear c k1 f1 d z0;have y:=b.out.t.z;obtain⟨_,t0,E,t2,t3,_⟩:=b.out.t;have F:IntKind.i64.wrap (f+(l*64+a+n)/640)=f+(l*64+a+n)/640:=by rw[aH];omega
  obtain⟨_,r0,r1,r2,r3,_⟩:=b.out.r;have tf:=b.out.t.f;have I:=b.out.r.z;have L:=b.out.r.f;go_region_with ((go_at_call 205;refine(zcs 640 _ B _ (by omega) (by omega) (by first|exact b.out.q|exact b.out.drew.q) (by first|exact b.out.z|exact b.out.drew.z)).mono ?_;rintro e w0 ⟨rfl,rfl⟩))
  all_goals go_wp2
  all_goals
   have o:=b.out.fin ((l*64+a+n)%640/64) ((l*64+a+n)%64) (f+(l*64+a+n)/640);refine Pl.cutB (λι=>Below w.heap.size w ι/\ι.rangeAt (w.heap.size+1) 0 [J Q (lC l a n),J Q (kA l a n),ν (pd l a ξ n),J Q (lS l a f n)]) o ?_;rintro ι ⟨p,s⟩;have x:=zes ι _ _ _ _ _ s;refine Ξ (v:=Ψ #[ac #[J Q (lC l a n),J Q (kA l a n),ν (pd l a ξ n),J Q (lS l a f n)],J Q 0]) ?_ D ⟨D,p⟩;simp only[results,results65];simp;show (aE (bL ω (bC 38 ⟨w.heap.size+1,0,G⟩) ι) _)=_;rw[x];rfl
 ·go_enter func65,ntmps65
  go_wp2_with (first
   | (go_at_call 121;refine(At l a f _ _ H.out).mono ?_;rintro e w1 ⟨rfl,c⟩;obtain⟨k1,f1⟩:=cj c;have d:w.heap.size+1<w1.heap.size:=Θ (by simp) c.size;have z0:w.heap.size<w1.heap.size:=cX d)
   | (go_at_call 122;refine(yd _ _ _).mono ?_;rintro e w0 ⟨rfl,rfl⟩)
   | (go_at_call 123;refine(zga _ _).mono ?_;rintro e w0 ⟨rfl,rfl⟩)
   | (go_at_call 205;refine(zcs 512 _ w1.heap.size _ (by omega) (by omega) (by simp) (by simp;omega)).mono ?_;rintro e w0 ⟨rfl,rfl⟩))
  have i:pd l a Γ n=Γ:=by unfold pd;rw[oI]
  have m:=hid i;clear i;refine Pl.cutW (λW=>RunB w (w1.heap.size+1) l a (pd l a Γ n) f W) (by rw[m.out];exact zuu c) ?_;rintro W j;have b:=hid j;clear j;generalize hB:w1.heap.size+1=B at *;clear c k1 f1 d z0;have y:=b.out.t.z;obtain⟨_,t0,E,t2,t3,_⟩:=b.out.t;have F:IntKind.i64.wrap (f+(l*64+a+n)/640)=f+(l*64+a+n)/640:=by rw[aH];omega
  obtain⟨_,r0,r1,r2,r3,_⟩:=b.out.r;have tf:=b.out.t.f;have I:=b.out.r.z;have L:=b.out.r.f;go_region_with ((go_at_call 205;refine(zcs 640 _ B _ (by omega) (by omega) (by first|exact b.out.q|exact b.out.drew.q) (by first|exact b.out.z|exact b.out.drew.z)).mono ?_;rintro e w0 ⟨rfl,rfl⟩))
  all_goals go_wp2
  all_goals
   have o:=b.out.fin ((l*64+a+n)%640/64) ((l*64+a+n)%64) (f+(l*64+a+n)/640);refine Pl.cutB (λι=>Below w.heap.size w ι/\ι.rangeAt (w.heap.size+1) 0 [J Q (lC l a n),J Q (kA l a n),ν (pd l a Γ n),J Q (lS l a f n)]) o ?_;rintro ι ⟨p,s⟩;have x:=zes ι _ _ _ _ _ s;refine Ξ (v:=Ψ #[ac #[J Q (lC l a n),J Q (kA l a n),ν (pd l a Γ n),J Q (lS l a f n)],J Q 0]) ?_ D ⟨D,p⟩;simp only[results,results65];simp;show (aE (bL ω (bC 38 ⟨w.heap.size+1,0,G⟩) ι) _)=_;rw[x];rfl
theorem ziD(l a f n:Int)(g:Bool)(w:u)(h:¬ BOk l a f \/ (BOk l a f /\ ¬ (0<=n/\n<=20000))):Δ ω 65 #[ac #[J Q l,J Q a,ν g,J Q f],J Q n] w λe w'=>e=μ (Ψ #[ac #[J Q 0,J Q 0,ν ξ,J Q 0],J Q 3])/\Below w.heap.size w w':=by
 rcases h with h|⟨h,k⟩
 ·have H:=hid h
  clear h;go_enter func65,ntmps65;go_wp2_with (go_at_call 121;refine(zd1 l a f _ _ H.out).mono ?_;rintro e w1 ⟨rfl,b⟩;obtain⟨k1,f1⟩:=cj b;have c:w.heap.size+1<w1.heap.size:=Θ (by simp) b.size;have z0:w.heap.size<w1.heap.size:=cX c)
  refine Pl.cutB (λι=>Below w.heap.size w ι/\ι.rangeAt (w.heap.size+1) 0 [J Q 0,J Q 0,ν ξ,J Q 0]) (Bm.resB b) ?_;rintro ι ⟨d,i⟩;have j:=zes ι _ _ _ _ _ i;refine Ξ (v:=Ψ #[ac #[J Q 0,J Q 0,ν ξ,J Q 0],J Q 3]) ?_ D ⟨D,d⟩;simp only[results,results65];simp;show (aE (bL ω (bC 38 ⟨w.heap.size+1,0,G⟩) ι) _)=_;rw[j];rfl
 ·have H:=hid h
  have m:=zjv k;clear h k;go_enter func65,ntmps65;go_wp2_with (first
   | (go_at_call 121;refine(At l a f _ _ H.out).mono ?_;rintro e w1 ⟨rfl,b⟩;obtain⟨k1,f1⟩:=cj b;have c:w.heap.size+1<w1.heap.size:=Θ (by simp) b.size;have z0:w.heap.size<w1.heap.size:=cX c)
   | (go_at_call 122;refine(yd _ _ _).mono ?_;rintro e w0 ⟨rfl,rfl⟩))
  refine Pl.cutB (λι=>Below w.heap.size w ι/\ι.rangeAt (w.heap.size+1) 0 [J Q 0,J Q 0,ν ξ,J Q 0]) (Bm.resB b) ?_;rintro ι ⟨d,i⟩;have j:=zes ι _ _ _ _ _ i;refine Ξ (v:=Ψ #[ac #[J Q 0,J Q 0,ν ξ,J Q 0],J Q 3]) ?_ D ⟨D,d⟩;simp only[results,results65];simp;show (aE (bL ω (bC 38 ⟨w.heap.size+1,0,G⟩) ι) _)=_;rw[j];rfl
end Go.Proofs.YthghjlinhokimaaGreatDoor
