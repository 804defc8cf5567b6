/-
  Parts of a proof, joined.
-/
import Derived.Test.YthghjlinhokimaaGreatDoorZcA
import Derived.Test.YthghjlinhokimaaGreatDoorZc10
set_option linter.all false
set_option maxRecDepth 100000
set_option maxHeartbeats 1600000
namespace Go.Proofs.YthghjlinhokimaaGreatDoor
open Go.ChangeShapes Go.WideShapes Go.ChangeAt Go.RowKit Go.Proofs.Tryz
section
variable {F : Fx} {W : World} {M : Mach} {tk : Tk}
theorem zq7(h:Bd F W M tk)(a:Int)(d:0<=a/\a<=65535)(hp:∀ i,i<32->vF F M tk i):Calls prog 132 #[pt F.g 143,.int .u16 a] W λe w'=>e=.returned (.int .u8 (M.rdA a).1)/\Bd F w' (M.rdA a).2 tk/\Bt F W w':=by
 unfold Mach.rdA;cases f:cu a
 ·have m:=hid (zjJ h a d)
  have b:=hid f;have H:=hid h;clear h f hp;go_enter func132,ntmps132;go_wp2_with (first
   | (go_at_call 212;refine(mH a _ d).mono ?_;rw[b.out];rintro e w1 ⟨rfl,rfl⟩)
   | (go_at_call 214;refine m.out.mono ?_;rintro e w1 ⟨rfl,rfl⟩))
  go_ret;exact⟨U,H.out,Bt.refl _ _⟩
 ·obtain⟨n,o⟩:∃ n:Nat,a%32=n:=⟨(a%32).toNat,by omega⟩
  have c:n<32:=by omega
  have r:Int.tmod a 32=n:=by rw[aq d.1,o]
  have p:=hid (hp n c W h);have b:=hid f;have l:portNo a=n:=by unfold portNo;omega
  rw[l];obtain⟨c0,c1⟩:=h.pA n c;have s:=h.bx.z;have q:(n:Int)<32:=by omega
  clear h f hp l;generalize F.rdA n=t at *;generalize F.wrA n=vw at *;go_enter func132,ntmps132;go_wp2_with (first
   | (go_at_call 212;refine(mH a _ d).mono ?_;rw[b.out];rintro e w1 ⟨rfl,rfl⟩)
   | (go_at_call 213;refine p.out.mono ?_;rintro e w1 ⟨rfl,j,k⟩))
  go_ret;exact⟨U,j,k⟩
theorem zoH(h:Bd F W M tk)(a n:Int)(d:0<=a/\a<=65535)(o:0<=n/\n<=255)(hp:∀ i,i<32->vG F M tk i n):Calls prog 133 #[pt F.g 77,.int .u16 a,.int .u8 n] W λe w'=>e=.returned (.tuple #[])/\Bd F w' (M.wrM a n) (tk.add (ia a n))/\Bt F W w':=by
 unfold Mach.wrM ia;cases j:cu a
 ·have c:=hid (znt h a d)
  have q:=h.at 78 (dX 107 F.g 0) U;have b:=hid j;have H:=hid h;have r:=h.bx.z;clear h j hp;simp only[bK,dt,Tk.add_zero];unfold Mach.memM;unfold Fx.memM at c;by_cases h1:a<32768
  ·rw[Q h1]
   rw[Q h1] at c;go_enter func133,ntmps133;go_wp2_with (first
    | (go_at_call 212;refine(mH a _ d).mono ?_;rw[b.out];rintro e w1 ⟨rfl,rfl⟩)
    | (go_at_call 107;refine c.out.mono ?_;rintro e w1 ⟨rfl,rfl⟩))
   go_end0;exact⟨U,H.out,Bt.refl _ _⟩
  ·rw[G h1]
   rw[G h1] at c;by_cases h2:a<49152
   ·rw[Q h2]
    rw[Q h2] at c;obtain⟨s,t,u⟩:=H.out.ramAt ((a-32768)%128) (by omega) (by omega);go_enter func133,ntmps133;go_wp2_with (first
     | (go_at_call 212;refine(mH a _ d).mono ?_;rw[b.out];rintro e w1 ⟨rfl,rfl⟩)
     | (go_at_call 107;refine c.out.mono ?_;rintro e w1 ⟨rfl,rfl⟩))
    go_end0;exact⟨U,H.out.putRam _ n (by omega) (by omega) o,(Bt.refl _ _).setR H.out.nd _ _⟩
   ·rw[G h2]
    rw[G h2] at c;by_cases h3:a<53248
    ·rw[Q h3]
     rw[Q h3] at c;obtain⟨s,t,u⟩:=H.out.viAt ((a-49152)%256) (by omega) (by omega);go_enter func133,ntmps133;go_wp2_with (first
      | (go_at_call 212;refine(mH a _ d).mono ?_;rw[b.out];rintro e w1 ⟨rfl,rfl⟩)
      | (go_at_call 107;refine c.out.mono ?_;rintro e w1 ⟨rfl,rfl⟩))
     go_end0;exact⟨U,H.out.putVideo _ n (by omega) (by omega) o,(Bt.refl _ _).setV H.out.nd _ _⟩
    ·rw[G h3]
     rw[G h3] at c;go_enter func133,ntmps133;go_wp2_with (first
      | (go_at_call 212;refine(mH a _ d).mono ?_;rw[b.out];rintro e w1 ⟨rfl,rfl⟩)
      | (go_at_call 107;refine c.out.mono ?_;rintro e w1 ⟨rfl,rfl⟩))
     go_end0;exact⟨U,H.out,Bt.refl _ _⟩
 ·obtain⟨k,v⟩:∃ k:Nat,a%32=k:=⟨(a%32).toNat,by omega⟩
  have f:k<32:=by omega
  have c:Int.tmod a 32=k:=by rw[aq d.1,v]
  have w:=hid (hp k f W h);have b:=hid j;have p:portNo a=k:=by unfold portNo;omega
  simp only[dL];rw[p];obtain⟨c0,c1⟩:=h.pM k f;have r:=h.bx.z;have x:(k:Int)<32:=by omega
  clear h j hp p;generalize F.rdM k=y at *;generalize F.wrM k=vw at *;go_enter func133,ntmps133;go_wp2_with (first
   | (go_at_call 212;refine(mH a _ d).mono ?_;rw[b.out];rintro e w1 ⟨rfl,rfl⟩)
   | (go_at_call 215;refine w.out.mono ?_;rintro e w1 ⟨rfl,l,m⟩))
  go_end0;exact⟨U,l,m⟩
end
section
variable {F : Fx} {W : World} {M : Mach} {tk : Tk}
theorem zu5(a b:Bool):bits .or .u8 (et a 1 0) (et b 2 0)=two a b:=by cases a <;> cases b <;> rfl
theorem zoF(h:Bd F W M tk):Calls prog 186 #[pt F.g 0] W λe w'=>e=.returned (.int .u8 (two M.t.on M.t.g))/\Bd F w' M tk/\Bt F W w':=by
 have c1:=h.at 43 (.bool M.t.on) U;have c2:=h.at 44 (.bool M.t.g) U;have a:=h.bx.z;have H:=hid h;clear h;rw[<- zu5];generalize M.t.on=x at *;generalize M.t.g=y at *;go_enter func186,ntmps186;go_wp2;go_region_held3 (λw'=>w'.cell? ⟨F.g,43,none⟩=some (.bool x)/\w'.cell? ⟨F.g,44,none⟩=some (.bool y))
  ((go_keep;done))
  ((go_at_call 244;refine(zdz _ _ _).mono ?_;rintro e w1 ⟨rfl,rfl⟩))
 go_wp2;go_ret;exact⟨U,H.out.drew,(Bt.refl _ _).drew⟩
theorem ztr(h:Bd F W M tk):Calls prog 193 #[pt F.g 0] W λe w'=>e=.returned (.int .u8 (two M.granted M.held))/\Bd F w' M tk/\Bt F W w':=by
 have c1:=h.at 67 (.bool M.granted) U;have c2:=h.at 68 (.bool M.held) U;have a:=h.bx.z;have H:=hid h;clear h;rw[<- zu5];generalize M.granted=x at *;generalize M.held=y at *;go_enter func193,ntmps193;go_wp2;go_region_with (go_at_call 244;refine(zdz _ _ _).mono ?_;rintro e w1 ⟨rfl,rfl⟩)
 all_goals
  go_wp2;go_ret;exact⟨U,H.out.drew,(Bt.refl _ _).drew⟩
theorem zqT(h:Bd F W M tk):Calls prog 190 #[pt F.g 0] W λe w'=>e=.returned (.int .u8 (two M.b.g false))/\Bd F w' M tk/\Bt F W w':=by
 have c1:=h.at 63 (.bool M.b.g) U;have a:=h.bx.z;have H:=hid h;clear h;rw[show two M.b.g false=et M.b.g 1 0 by cases M.b.g <;> rfl];generalize M.b.g=x at *;go_enter func190,ntmps190;go_wp2_with (go_at_call 244;refine(zdz _ _ _).mono ?_;rintro e w1 ⟨rfl,rfl⟩)
 go_ret;exact⟨U,H.out,Bt.refl _ _⟩
theorem zqU(h:Bd F W M tk):Calls prog 188 #[pt F.E.mb 0] W λe w'=>e=.returned (.int .u8 M.b.l)/\Bd F w' M tk/\Bt F W w':=by
 have c1:=h.at 61 (.int .i64 M.b.l) U;have a:=h.bx.z;obtain⟨c,e1⟩:=h.env _ _ .mb;have b0:=h.fit.b.l0;have b1:=h.fit.b.l1;have H:=hid h;clear h;go_enter func188,ntmps188;go_wp2;go_ret;exact⟨U,H.out,Bt.refl _ _⟩
theorem zv6(h:Bd F W M tk):Calls prog 189 #[pt F.E.mb 0] W λe w'=>e=.returned (.int .u8 M.b.a)/\Bd F w' M tk/\Bt F W w':=by
 have c1:=h.at 62 (.int .i64 M.b.a) U;have c:=h.bx.z;obtain⟨d,e1⟩:=h.env _ _ .mb;have b0:=h.fit.b.a0;have b1:=h.fit.b.a1;have H:=hid h;clear h;go_enter func189,ntmps189;go_wp2;go_ret;exact⟨U,H.out,Bt.refl _ _⟩
theorem zqV(h:Bd F W M tk):Calls prog 195 #[pt F.E.mb 0] W λe w'=>e=.returned (.int .u8 M.m1)/\Bd F w' M tk/\Bt F W w':=by
 have c1:=h.at 70 (.int .u8 M.m1) U;have a:=h.bx.z;obtain⟨b,e1⟩:=h.env _ _ .mb;have H:=hid h;clear h;go_enter func195,ntmps195;go_wp2;go_ret;exact⟨U,H.out,Bt.refl _ _⟩
theorem zqW(h:Bd F W M tk):Calls prog 197 #[pt F.g 0] W λe w'=>e=.returned (.int .u8 M.m0)/\Bd F w' { M with rung:=false } tk/\Bt F W w':=by
 have c1:=h.at 69 (.int .u8 M.m0) U;have c2:=h.at 71 (.bool M.rung) U;have c3:=h.bx.f 71;have a:=h.bx.z;have H:=hid h;clear h;go_enter func197,ntmps197;go_wp2;go_ret;exact⟨U,H.out.put 71 _ (by omega) U ⟨U,U,U,U,U⟩ { H.out.fit with main:=H.out.fit.main },(Bt.refl _ _).set H.out.nd _ _⟩
end
section
variable {F : Fx} {W : World} {M : Mach} {tk : Tk}
theorem zoT(h:Bd F W M tk)(a n:Int)(d:0<=a/\a<=65535)(o:0<=n/\n<=255)(hp:∀ i,i<32->vH F M tk i n):Calls prog 133 #[pt F.g 143,.int .u16 a,.int .u8 n] W λe w'=>e=.returned (.tuple #[])/\oQ F W w' (M.wrA a n) tk (M.shA a n):=by
 unfold Mach.wrA Mach.shA;cases l:cu a
 ·have b:=hid (znu h a d)
  have r:=h.at2 1 (dX 109 F.g 0) U;have c:=hid l;have H:=hid h;have s:=h.bx.z;clear h l hp;simp only[bK,dt];unfold Mach.memA;unfold Fx.memA at b;by_cases h1:a<32768
  ·rw[Q h1]
   rw[Q h1] at b;go_enter func133,ntmps133;go_wp2_with (first
    | (go_at_call 212;refine(mH a _ d).mono ?_;rw[c.out];rintro e w1 ⟨rfl,rfl⟩)
    | (go_at_call 109;refine b.out.mono ?_;rintro e w1 ⟨rfl,rfl⟩))
   go_end0;exact⟨U,oe H.out U (Bt.refl _ _)⟩
  ·rw[G h1]
   rw[G h1] at b;by_cases h2:a<49152
   ·rw[Q h2]
    rw[Q h2] at b;obtain⟨t,u,v⟩:=H.out.ownAt ((a-32768)%64) (by omega) (by omega);go_enter func133,ntmps133;go_wp2_with (first
     | (go_at_call 212;refine(mH a _ d).mono ?_;rw[c.out];rintro e w1 ⟨rfl,rfl⟩)
     | (go_at_call 109;refine b.out.mono ?_;rintro e w1 ⟨rfl,rfl⟩))
    go_end0;exact⟨U,oe (H.out.putOwn _ n (by omega) (by omega) o) U ((Bt.refl _ _).setO H.out.nd _ _)⟩
   ·rw[G h2]
    rw[G h2] at b;by_cases h3:a<53248
    ·rw[Q h3]
     rw[Q h3] at b;obtain⟨t,u,v⟩:=H.out.ramAt ((a-49152)%128) (by omega) (by omega);cases f:M.granted
     ·rw[f] at b
      go_enter func133,ntmps133;go_wp2_with (first
       | (go_at_call 212;refine(mH a _ d).mono ?_;rw[c.out];rintro e w1 ⟨rfl,rfl⟩)
       | (go_at_call 109;refine b.out.mono ?_;rintro e w1 ⟨rfl,rfl⟩))
      go_end0;exact⟨U,oe H.out U (Bt.refl _ _)⟩
     ·rw[f] at b
      go_enter func133,ntmps133;go_wp2_with (first
       | (go_at_call 212;refine(mH a _ d).mono ?_;rw[c.out];rintro e w1 ⟨rfl,rfl⟩)
       | (go_at_call 109;refine b.out.mono ?_;rintro e w1 ⟨rfl,rfl⟩))
      go_end0;have p:=H.out.putRam ((a-49152)%128) n (by omega) (by omega) o;rw[f] at p;exact⟨U,oe p U ((Bt.refl _ _).setR H.out.nd _ _)⟩
    ·rw[G h3]
     rw[G h3] at b;go_enter func133,ntmps133;go_wp2_with (first
      | (go_at_call 212;refine(mH a _ d).mono ?_;rw[c.out];rintro e w1 ⟨rfl,rfl⟩)
      | (go_at_call 109;refine b.out.mono ?_;rintro e w1 ⟨rfl,rfl⟩))
     go_end0;exact⟨U,oe H.out U (Bt.refl _ _)⟩
 ·obtain⟨k,w⟩:∃ k:Nat,a%32=k:=⟨(a%32).toNat,by omega⟩
  have j:k<32:=by omega
  have b:Int.tmod a 32=k:=by rw[aq d.1,w]
  have x:=hid (hp k j W h);have c:=hid l;have q:portNo a=k:=by unfold portNo;omega
  simp only[dL];rw[q];obtain⟨c0,c1⟩:=h.pA k j;have s:=h.bx.z;have y:(k:Int)<32:=by omega
  clear h l hp q;generalize F.rdA k=B at *;generalize F.wrA k=vw at *;go_enter func133,ntmps133;go_wp2_with (first
   | (go_at_call 212;refine(mH a _ d).mono ?_;rw[c.out];rintro e w1 ⟨rfl,rfl⟩)
   | (go_at_call 215;refine x.out.mono ?_;rintro e w1 ⟨rfl,m⟩))
  go_end0;exact⟨U,m⟩
end
structure RunB (w : World) (B : Nat) (l a : Int) (g : Bool) (f : Int) (W : World) : Prop where
 low:Below w.heap.size w W
 t:Bat W w.heap.size l a g f
 r:Bat W (w.heap.size+1) 0 0 false 0
 q:W.cell? ⟨B,0,none⟩=some (.int .i64 640)
 z:B<W.heap.size
 ne:w.heap.size<B
theorem zrS{w w1:World}{l a f:Int}{g x:Bool}
 (b:Below ((w.alloc (.cells #[.int .i64 l,.int .i64 a,.bool g,.int .i64 f] 38)).alloc (.cells #[.int .i64 0,.int .i64 0,.bool false,.int .i64 0] 38)).heap.size ((w.alloc (.cells #[.int .i64 l,.int .i64 a,.bool g,.int .i64 f] 38)).alloc (.cells #[.int .i64 0,.int .i64 0,.bool false,.int .i64 0] 38)) w1) :
 RunB w (w1.heap.size+1) l a x f (((w1.setCell ⟨w.heap.size,2,none⟩ (.bool x)).alloc (.cells #[.int .i64 512] 3)).alloc (.cells #[.int .i64 640] 3)):=by
 have hB:=bn (stA (stA (J w) _) _) b;have d:=((Bat.new w l a g f).over (.cells #[.int .i64 0,.int .i64 0,.bool false,.int .i64 0] 38)).kept b;have c:=Bat.new (w.alloc (.cells #[.int .i64 l,.int .i64 a,.bool g,.int .i64 f] 38)) 0 0 false 0;have e:(w.alloc (.cells #[.int .i64 l,.int .i64 a,.bool g,.int .i64 f] 38)).heap.size=w.heap.size+1:=by simp
 rw[e] at c;have h:=c.kept b;refine⟨stA (stA (hB.setCell (ak _) _) _) _,((d.put2 x).over _).over _,((h.far (by omega) _).over _).over _,Pl.new _ _ _ _ (by simp),by simp,?_⟩;have:=d.z;omega
theorem Bm.resB{w w1:World}{l a f:Int}{g:Bool}
 (b:Below ((w.alloc (.cells #[.int .i64 l,.int .i64 a,.bool g,.int .i64 f] 38)).alloc (.cells #[.int .i64 0,.int .i64 0,.bool false,.int .i64 0] 38)).heap.size ((w.alloc (.cells #[.int .i64 l,.int .i64 a,.bool g,.int .i64 f] 38)).alloc (.cells #[.int .i64 0,.int .i64 0,.bool false,.int .i64 0] 38)) w1) :
 Below w.heap.size w ((((w1.setCell ⟨w.heap.size+1,0,none⟩ (.int .i64 0)).setCell ⟨w.heap.size+1,1,none⟩ (.int .i64 0)).setCell ⟨w.heap.size+1,2,none⟩ (.bool false)).setCell ⟨w.heap.size+1,3,none⟩ (.int .i64 0))/\((((w1.setCell ⟨w.heap.size+1,0,none⟩ (.int .i64 0)).setCell ⟨w.heap.size+1,1,none⟩ (.int .i64 0)).setCell ⟨w.heap.size+1,2,none⟩ (.bool false)).setCell ⟨w.heap.size+1,3,none⟩ (.int .i64 0)).rangeAt (w.heap.size+1) 0 [.int .i64 0,.int .i64 0,.bool false,.int .i64 0]:=by
 have hB:=bn (stA (stA (J w) _) _) b;have c:=Bat.new (w.alloc (.cells #[.int .i64 l,.int .i64 a,.bool g,.int .i64 f] 38)) 0 0 false 0;have e:(w.alloc (.cells #[.int .i64 l,.int .i64 a,.bool g,.int .i64 f] 38)).heap.size=w.heap.size+1:=by simp
 rw[e] at c;have d:=c.kept b;exact⟨d.below hB (by omega) 0 0 false 0,(d.puts 0 0 false 0).range⟩
theorem RunB.fin{w W:World}{B:Nat}{l a f:Int}{x:Bool}(h:RunB w B l a x f W)(b c d:Int):Below w.heap.size w (((((((W.setCell ⟨w.heap.size,3,none⟩ (.int .i64 d)).setCell ⟨w.heap.size,0,none⟩ (.int .i64 b)).setCell ⟨w.heap.size,1,none⟩ (.int .i64 c)).setCell ⟨w.heap.size+1,0,none⟩ (.int .i64 b)).setCell ⟨w.heap.size+1,1,none⟩ (.int .i64 c)).setCell ⟨w.heap.size+1,2,none⟩ (.bool x)).setCell ⟨w.heap.size+1,3,none⟩ (.int .i64 d)).drew/\(((((((W.setCell ⟨w.heap.size,3,none⟩ (.int .i64 d)).setCell ⟨w.heap.size,0,none⟩ (.int .i64 b)).setCell ⟨w.heap.size,1,none⟩ (.int .i64 c)).setCell ⟨w.heap.size+1,0,none⟩ (.int .i64 b)).setCell ⟨w.heap.size+1,1,none⟩ (.int .i64 c)).setCell ⟨w.heap.size+1,2,none⟩ (.bool x)).setCell ⟨w.heap.size+1,3,none⟩ (.int .i64 d)).drew.rangeAt (w.heap.size+1) 0 [.int .i64 b,.int .i64 c,.bool x,.int .i64 d]:=by
 have hb:=((h.low.setCell (p:=⟨w.heap.size,3,none⟩) (ak _) (.int .i64 d)).setCell (p:=⟨w.heap.size,0,none⟩) (ak _) (.int .i64 b)).setCell (p:=⟨w.heap.size,1,none⟩) (ak _) (.int .i64 c);have e:=((h.r.far (by omega) (.int .i64 d) (o':=3) (b':=w.heap.size)).far (by omega) (.int .i64 b) (o':=0) (b':=w.heap.size)).far (by omega) (.int .i64 c) (o':=1) (b':=w.heap.size);exact⟨(e.below hb (by omega) b c x d).drew,(e.puts b c x d).drew.range⟩
theorem zpd(l a f n:Int)(g:Bool)(w:World)(h:BOk l a f)(k:0<=n/\n<=20000):Calls prog 65 #[.agg #[.int .i64 l,.int .i64 a,.bool g,.int .i64 f],.int .i64 n] w λe w'=>e=.returned (.tuple #[.agg #[.int .i64 (jI l a n),.int .i64 (i6 l a n),.bool (lK l a g n),.int .i64 (j3 l a f n)],.int .i64 0])/\Below w.heap.size w w':=by
 have H:=hid h;have M:=sn k.1 k.2;obtain⟨l0,l1,a0,a1,f0,f1⟩:=h;obtain⟨N,P⟩:=k;have p0:0<=l*64+a:=by omega
 have p1:l*64+a<=639:=by omega
 have m1:Int.tmod (l*64+a+n) 640=(l*64+a+n)%640:=aq (by omega);have R:Int.tmod (l*64+a+n) 64=(l*64+a+n)%64:=aq (by omega);have T:Int.tdiv ((l*64+a+n)%640) 64=(l*64+a+n)%640/64:=aD (by omega);cases g
 ·go_enter func65,ntmps65
  go_wp2_with (first
   | (go_at_call 121;refine(zca l a f _ _ H.out).mono ?_;rintro e w1 ⟨rfl,c⟩;obtain⟨m,f1⟩:=bQ c;have d:w.heap.size+1<w1.heap.size:=ap (by simp) c.size;have z0:w.heap.size<w1.heap.size:=cV d)
   | (go_at_call 122;refine(rj _ _ _).mono ?_;rintro e w0 ⟨rfl,rfl⟩)
   | (go_at_call 123;refine(zfu _ _).mono ?_;rintro e w0 ⟨rfl,rfl⟩)
   | (go_at_call 205;refine(zb9 512 _ w1.heap.size _ (by omega) (by omega) (by simp) (by simp;omega)).mono ?_;rintro e w0 ⟨rfl,rfl⟩))
  have i:lK l a false n=decide ((l*64+a+640-512)/640<(l*64+a+n+640-512)/640):=by
   unfold lK;rw[lN,cC];omega
  have o:=hid i;clear i;refine Pl.cutW (λW=>RunB w (w1.heap.size+1) l a (lK l a false n) f W) (by rw[o.out];exact zrS c) ?_;rintro W j;have b:=hid j;clear j;generalize hB:w1.heap.size+1=B at *;clear c m f1 d z0;have y:=b.out.t.z;obtain⟨_,t0,E,t2,t3,_⟩:=b.out.t;have F:IntKind.i64.wrap (f+(l*64+a+n)/640)=f+(l*64+a+n)/640:=by rw[aI];omega
  obtain⟨_,r0,r1,r2,r3,_⟩:=b.out.r;have tf:=b.out.t.f;have I:=b.out.r.z;have L:=b.out.r.f;go_region_with ((go_at_call 205;refine(zb9 640 _ B _ (by omega) (by omega) (by first|exact b.out.q|exact b.out.drew.q) (by first|exact b.out.z|exact b.out.drew.z)).mono ?_;rintro e w0 ⟨rfl,rfl⟩))
  all_goals go_wp2
  all_goals
   have p:=b.out.fin ((l*64+a+n)%640/64) ((l*64+a+n)%64) (f+(l*64+a+n)/640);refine Pl.cutB (λY=>Below w.heap.size w Y/\Y.rangeAt (w.heap.size+1) 0 [.int .i64 (jI l a n),.int .i64 (i6 l a n),.bool (lK l a false n),.int .i64 (j3 l a f n)]) p ?_;rintro Y ⟨s,u⟩;have x:=zdY Y _ _ _ _ _ u;refine ao (v:=.tuple #[.agg #[.int .i64 (jI l a n),.int .i64 (i6 l a n),.bool (lK l a false n),.int .i64 (j3 l a f n)],.int .i64 0]) ?_ U ⟨U,s⟩;simp only[results,results65];simp;show (Result.andThen (Sem.run prog (loadVar 38 ⟨w.heap.size+1,0,none⟩) Y) _)=_;rw[x];rfl
 ·go_enter func65,ntmps65
  go_wp2_with (first
   | (go_at_call 121;refine(zca l a f _ _ H.out).mono ?_;rintro e w1 ⟨rfl,c⟩;obtain⟨m,f1⟩:=bQ c;have d:w.heap.size+1<w1.heap.size:=ap (by simp) c.size;have z0:w.heap.size<w1.heap.size:=cV d)
   | (go_at_call 122;refine(rj _ _ _).mono ?_;rintro e w0 ⟨rfl,rfl⟩)
   | (go_at_call 123;refine(zfu _ _).mono ?_;rintro e w0 ⟨rfl,rfl⟩)
   | (go_at_call 205;refine(zb9 512 _ w1.heap.size _ (by omega) (by omega) (by simp) (by simp;omega)).mono ?_;rintro e w0 ⟨rfl,rfl⟩))
  have i:lK l a true n=true:=by unfold lK;rw[mA]
  have o:=hid i;clear i;refine Pl.cutW (λW=>RunB w (w1.heap.size+1) l a (lK l a true n) f W) (by rw[o.out];exact zrS c) ?_;rintro W j;have b:=hid j;clear j;generalize hB:w1.heap.size+1=B at *;clear c m f1 d z0;have y:=b.out.t.z;obtain⟨_,t0,E,t2,t3,_⟩:=b.out.t;have F:IntKind.i64.wrap (f+(l*64+a+n)/640)=f+(l*64+a+n)/640:=by rw[aI];omega
  obtain⟨_,r0,r1,r2,r3,_⟩:=b.out.r;have tf:=b.out.t.f;have I:=b.out.r.z;have L:=b.out.r.f;go_region_with ((go_at_call 205;refine(zb9 640 _ B _ (by omega) (by omega) (by first|exact b.out.q|exact b.out.drew.q) (by first|exact b.out.z|exact b.out.drew.z)).mono ?_;rintro e w0 ⟨rfl,rfl⟩))
  all_goals go_wp2
  all_goals
   have p:=b.out.fin ((l*64+a+n)%640/64) ((l*64+a+n)%64) (f+(l*64+a+n)/640);refine Pl.cutB (λY=>Below w.heap.size w Y/\Y.rangeAt (w.heap.size+1) 0 [.int .i64 (jI l a n),.int .i64 (i6 l a n),.bool (lK l a true n),.int .i64 (j3 l a f n)]) p ?_;rintro Y ⟨s,u⟩;have x:=zdY Y _ _ _ _ _ u;refine ao (v:=.tuple #[.agg #[.int .i64 (jI l a n),.int .i64 (i6 l a n),.bool (lK l a true n),.int .i64 (j3 l a f n)],.int .i64 0]) ?_ U ⟨U,s⟩;simp only[results,results65];simp;show (Result.andThen (Sem.run prog (loadVar 38 ⟨w.heap.size+1,0,none⟩) Y) _)=_;rw[x];rfl
theorem zpe(l a f n:Int)(g:Bool)(w:World)(h:¬ BOk l a f \/ (BOk l a f /\ ¬ (0<=n/\n<=20000))):Calls prog 65 #[.agg #[.int .i64 l,.int .i64 a,.bool g,.int .i64 f],.int .i64 n] w λe w'=>e=.returned (.tuple #[.agg #[.int .i64 0,.int .i64 0,.bool false,.int .i64 0],.int .i64 3])/\Below w.heap.size w w':=by
 rcases h with h|⟨h,k⟩
 ·have H:=hid h
  clear h;go_enter func65,ntmps65;go_wp2_with (go_at_call 121;refine(zfv l a f _ _ H.out).mono ?_;rintro e w1 ⟨rfl,b⟩;obtain⟨m,f1⟩:=bQ b;have c:w.heap.size+1<w1.heap.size:=ap (by simp) b.size;have z0:w.heap.size<w1.heap.size:=cV c)
  refine Pl.cutB (λY=>Below w.heap.size w Y/\Y.rangeAt (w.heap.size+1) 0 [.int .i64 0,.int .i64 0,.bool false,.int .i64 0]) (Bm.resB b) ?_;rintro Y ⟨d,i⟩;have j:=zdY Y _ _ _ _ _ i;refine ao (v:=.tuple #[.agg #[.int .i64 0,.int .i64 0,.bool false,.int .i64 0],.int .i64 3]) ?_ U ⟨U,d⟩;simp only[results,results65];simp;show (Result.andThen (Sem.run prog (loadVar 38 ⟨w.heap.size+1,0,none⟩) Y) _)=_;rw[j];rfl
 ·have H:=hid h
  have o:=zh6 k;clear h k;go_enter func65,ntmps65;go_wp2_with (first
   | (go_at_call 121;refine(zca l a f _ _ H.out).mono ?_;rintro e w1 ⟨rfl,b⟩;obtain⟨m,f1⟩:=bQ b;have c:w.heap.size+1<w1.heap.size:=ap (by simp) b.size;have z0:w.heap.size<w1.heap.size:=cV c)
   | (go_at_call 122;refine(rj _ _ _).mono ?_;rintro e w0 ⟨rfl,rfl⟩))
  refine Pl.cutB (λY=>Below w.heap.size w Y/\Y.rangeAt (w.heap.size+1) 0 [.int .i64 0,.int .i64 0,.bool false,.int .i64 0]) (Bm.resB b) ?_;rintro Y ⟨d,i⟩;have j:=zdY Y _ _ _ _ _ i;refine ao (v:=.tuple #[.agg #[.int .i64 0,.int .i64 0,.bool false,.int .i64 0],.int .i64 3]) ?_ U ⟨U,d⟩;simp only[results,results65];simp;show (Result.andThen (Sem.run prog (loadVar 38 ⟨w.heap.size+1,0,none⟩) Y) _)=_;rw[j];rfl
end Go.Proofs.YthghjlinhokimaaGreatDoor
