/-
  Parts of a proof, joined.
-/
import Derived.Test.YthghjlinhokimaaGreatDoorZcA
import Derived.Test.YthghjlinhokimaaGreatDoorZc17
import Derived.Test.YthghjlinhokimaaGreatDoorZc19
import Derived.Test.YthghjlinhokimaaGreatDoorZc18
set_option linter.all false
set_option maxRecDepth 100000
set_option maxHeartbeats 12800000
namespace Go.Proofs.YthghjlinhokimaaGreatDoor
open Go.ChangeShapes Go.WideShapes Go.ChangeAt Go.RowKit Go.Proofs.Tryz
theorem zrZ(a0 a1 a2 a3 a4 a5 a b:Int)(d:Nat)(w:World):(Op.equalIn (d+2) 23 (.agg #[.int .u16 a0,.int .u16 a1,.int .u16 a2,.int .u16 a3,.int .u16 a4,.int .u16 a5,.int .u16 a,.int .u16 b]) (.agg #[.int .u16 a0,.int .u16 a1,.int .u16 a2,.int .u16 a3,.int .u16 a4,.int .u16 a5,.int .u16 a,.int .u16 b])).run prog w=.ok true w:=by
 have u3:=underlying22;have x3:=isAgg22;have z3:=sizeOf22;have c:Tryz.prog.cellsOf 22=1:=by kernel_rfl
 have e:(Tryz.prog.info? 22).isSome=true:=by kernel_rfl
 obtain⟨i,hi⟩:=cL.1 e;rw[dT w (d+1) _ _ underlying23 hi,c];simp only[List.range,List.range.loop,Op.eqItems];go_simp
theorem zr0(c:C.Cpu)(w:World):(binOp .eql 25 (.agg #[.int .u16 (c.r 0),.int .u16 (c.r 1),.int .u16 (c.r 2),.int .u16 (c.r 3),.int .u16 (c.r 4),.int .u16 (c.r 5),.int .u16 (c.r 6),.int .u16 (c.r 7),.int .u16 c.PC,.bool c.Z,.bool c.N,.bool c.C,.bool c.V,.bool c.May,.bool c.Waits]) (.agg #[.int .u16 (c.r 0),.int .u16 (c.r 1),.int .u16 (c.r 2),.int .u16 (c.r 3),.int .u16 (c.r 4),.int .u16 (c.r 5),.int .u16 (c.r 6),.int .u16 (c.r 7),.int .u16 c.PC,.bool c.Z,.bool c.N,.bool c.C,.bool c.V,.bool c.May,.bool c.Waits])).run prog w=.ok (.bool true) w:=by
 have u3:=underlying22;have x3:=isAgg22;have z3:=sizeOf22;have u4:=underlying4;have b:=isAgg4;have z4:=sizeOf4;have d:=isAgg23;have z5:=sizeOf23;have e:=zrZ (c.r 0) (c.r 1) (c.r 2) (c.r 3) (c.r 4) (c.r 5) (c.r 6) (c.r 7) 9997;have a:Tryz.prog.underlying 25=some (.struct (Tryz.prog.fieldsOf 25)):=by kernel_rfl
 have hp:Tryz.prog.stoodInHeld 25=false:=by kernel_rfl
 rw[cn,show (10000:Nat)=9999+1 from U,cO w 9999 25 _ _ a hp];simp only[Program.fieldsOf,underlying25];go_simp
theorem zhn(c:C.Cpu)(w:World):(binOp .eql 25 (.agg (bG c).toArray) (.agg (bG c).toArray)).run prog w=.ok (.bool true) w:=zr0 c w
theorem zpg(s:Sd)(w:World):(binOp .eql 36 (.agg (dA s).toArray) (.agg (dA s).toArray)).run prog w=.ok (.bool true) w:=zty s w
theorem zj3(d s:Int)(l:Bool)(n:Nat)(w:World):(Op.equalIn (n+2) 28 (.agg #[.int .u8 d,.bool l,.int .u8 s]) (.agg #[.int .u8 d,.bool l,.int .u8 s])).run prog w=.ok true w:=by
 have u4:=underlying4;have a4:=isAgg4;have z4:=sizeOf4;have b:=underlying5;have a5:=isAgg5;have z5:=sizeOf5;have a:Tryz.prog.underlying 28=some (.struct (Tryz.prog.fieldsOf 28)):=by kernel_rfl
 have hp:Tryz.prog.stoodInHeld 28=false:=by kernel_rfl
 rw[cO w (n+1) 28 _ _ a hp];simp only[Program.fieldsOf,underlying28];go_simp
theorem zmb(r c:Int)(on g:Bool)(w:World):(binOp .eql 31 (.agg #[.int .u16 r,.int .u16 c,.bool on,.bool g]) (.agg #[.int .u16 r,.int .u16 c,.bool on,.bool g])).run prog w=.ok (.bool true) w:=by
 have u3:=underlying22;have a3:=isAgg22;have z3:=sizeOf22;have u4:=underlying4;have a4:=isAgg4;have z4:=sizeOf4;have a:Tryz.prog.underlying 31=some (.struct (Tryz.prog.fieldsOf 31)):=by kernel_rfl
 have hp:Tryz.prog.stoodInHeld 31=false:=by kernel_rfl
 rw[cn,show (10000:Nat)=9999+1 from U,cO w 9999 31 _ _ a hp];simp only[Program.fieldsOf,underlying31];go_simp
theorem zph(l a f:Int)(g:Bool)(w:World):(binOp .eql 38 (.agg #[.int .i64 l,.int .i64 a,.bool g,.int .i64 f]) (.agg #[.int .i64 l,.int .i64 a,.bool g,.int .i64 f])).run prog w=.ok (.bool true) w:=by
 have u3:=underlying3;have a3:=isAgg3;have z3:=sizeOf3;have u4:=underlying4;have a4:=isAgg4;have z4:=sizeOf4;have b:Tryz.prog.underlying 38=some (.struct (Tryz.prog.fieldsOf 38)):=by kernel_rfl
 have hp:Tryz.prog.stoodInHeld 38=false:=by kernel_rfl
 rw[cn,show (10000:Nat)=9999+1 from U,cO w 9999 38 _ _ b hp];simp only[Program.fieldsOf,underlying38];go_simp
theorem zpi(d s a s':Int)(l b:Bool)(w:World):(binOp .eql 29 (.agg #[.int .u8 d,.bool l,.int .u8 s,.int .u8 a,.bool b,.int .u8 s']) (.agg #[.int .u8 d,.bool l,.int .u8 s,.int .u8 a,.bool b,.int .u8 s'])).run prog w=.ok (.bool true) w:=by
 have f:=zj3 d s l 9997;have h1:=zj3 a s' b 9997;have a3:=isAgg28;have z3:=sizeOf28;have c:Tryz.prog.cellsOf 28=3:=by kernel_rfl
 have e:(Tryz.prog.info? 28).isSome=true:=by kernel_rfl
 obtain⟨i,hi⟩:=cL.1 e;rw[cn,show (10000:Nat)=9999+1 from U,dT w 9999 _ _ underlying29 hi,c];simp only[List.range,List.range.loop,Op.eqItems];go_simp
theorem zpj(x y:Int)(w:World):(binOp .eql 39 (.agg #[.int .u8 x,.int .u8 y]) (.agg #[.int .u8 x,.int .u8 y])).run prog w=.ok (.bool true) w:=by
 have u3:=underlying5;have a3:=isAgg5;have z3:=sizeOf5;have a:Tryz.prog.cellsOf 5=1:=by kernel_rfl
 have b:(Tryz.prog.info? 5).isSome=true:=by kernel_rfl
 obtain⟨i,hi⟩:=cL.1 b;rw[cn,show (10000:Nat)=9999+1 from U,dT w 9999 _ _ underlying39 hi,a];simp only[List.range,List.range.loop,Op.eqItems];go_simp
section
variable {F : Gx} {W : World} {M : Mach} {tk : Tk} {mb hb lb gb : Nat}
theorem Gm.putP400(h:Gd F W M tk)(b:Pu F W mb hb lb gb)(a n:Int)(h1:53248<=a)(h2:a<=57343)(d:0<=n/\n<=255)(x:Int.tmod a 32=4)(o1:cH n=false)(o2:cH (n/2)=false):Calls prog 94 #[.int .u16 a,.int .u8 n,pt mb 0,pt hb 0,pt lb 0,pt gb 0] W λe w'=>e=.returned (.tuple #[])/\Gd F w' (M.putM 4 n) tk/\Gt F W w':=by
 obtain⟨y,e1,x1⟩:=b.m;have k:mb≠F.g:=b.m.ne;have l:Hid (mb≠F.g):=hid b.m.ne;have o:=h.at 41 (.int .u16 M.t.r) U;have p:=h.at 42 (.int .u16 M.t.c) U;have q:=h.at 43 (.bool M.t.on) U;have s:=h.at 44 (.bool M.t.g) U;have B:=h.bx.f;have E:=h.bx.z;have q1:Int.tmod n 2=0:=by rw[aq d.1];unfold cH at o1;simp at o1;omega
 obtain⟨m,i,u,v⟩:∃ m,Int.tdiv n 2=m/\0<=m/\m<=127:=⟨_,U,by rw[aD d.1];omega⟩
 have I:Int.tmod m 2=0:=by rw[<- i,aD d.1,aq (by omega)];unfold cH at o2;simp at o2;omega
 have j:M.putM 4 n={ M with t:=⟨M.t.r,M.t.c,false,M.t.g⟩ }:=by
  show { M with t:=M.t.put n }=_;unfold TM.put;rw[o1,o2];rfl
 have w:=hid j;have H:=hid h;clear h b j o1 o2;go_enter func94,ntmps94;go_wp2_with (go_at_call 88;refine(Gm.reg3 a _ h1 h2).mono ?_;rintro e w1 ⟨rfl,rfl⟩)
 go_end0;rw[w.out];exact⟨U,H.out.put (tk':=tk) 43 _ (by omega) U ⟨U,U,U,U,U⟩ { H.out.fit with main:=H.out.fit.main },Gt.set H.out.nd (Gt.refl F W) _ _⟩
theorem Gm.putP401(h:Gd F W M tk)(b:Pu F W mb hb lb gb)(a n:Int)(h1:53248<=a)(h2:a<=57343)(d:0<=n/\n<=255)(x:Int.tmod a 32=4)(o1:cH n=false)(o2:cH (n/2)=true):Calls prog 94 #[.int .u16 a,.int .u8 n,pt mb 0,pt hb 0,pt lb 0,pt gb 0] W λe w'=>e=.returned (.tuple #[])/\Gd F w' (M.putM 4 n) tk/\Gt F W w':=by
 obtain⟨y,e1,x1⟩:=b.m;have k:mb≠F.g:=b.m.ne;have l:Hid (mb≠F.g):=hid b.m.ne;have o:=h.at 41 (.int .u16 M.t.r) U;have p:=h.at 42 (.int .u16 M.t.c) U;have q:=h.at 43 (.bool M.t.on) U;have s:=h.at 44 (.bool M.t.g) U;have B:=h.bx.f;have E:=h.bx.z;have q1:Int.tmod n 2=0:=by rw[aq d.1];unfold cH at o1;simp at o1;omega
 obtain⟨m,i,u,v⟩:∃ m,Int.tdiv n 2=m/\0<=m/\m<=127:=⟨_,U,by rw[aD d.1];omega⟩
 have I:Int.tmod m 2=1:=by rw[<- i,aD d.1,aq (by omega)];unfold cH at o2;simp at o2;omega
 have j:M.putM 4 n={ M with t:=⟨M.t.r,M.t.c,false,false⟩ }:=by
  show { M with t:=M.t.put n }=_;unfold TM.put;rw[o1,o2];rfl
 have w:=hid j;have H:=hid h;clear h b j o1 o2;go_enter func94,ntmps94;go_wp2_with (go_at_call 88;refine(Gm.reg3 a _ h1 h2).mono ?_;rintro e w1 ⟨rfl,rfl⟩)
 go_end0;rw[w.out];exact⟨U,(H.out.put (M':={ M with t:={ M.t with on:=false } }) (tk':=tk) 43 _ (by omega) U ⟨U,U,U,U,U⟩ { H.out.fit with main:=H.out.fit.main }).put (tk':=tk) 44 _ (by omega) U ⟨U,U,U,U,U⟩ { H.out.fit with main:=H.out.fit.main },Gt.set H.out.nd (Gt.set H.out.nd (Gt.refl F W) _ _) _ _⟩
theorem Gm.putP410(h:Gd F W M tk)(p:Pu F W mb hb lb gb)(a n:Int)(h1:53248<=a)(h2:a<=57343)(q:0<=n/\n<=255)(hk:Int.tmod a 32=4)(o1:cH n=true)(o2:cH (n/2)=false):Calls prog 94 #[.int .u16 a,.int .u8 n,pt mb 0,pt hb 0,pt lb 0,pt gb 0] W λe w'=>e=.returned (.tuple #[])/\Gd F w' (M.putM 4 n) tk/\Gt F W w':=by
 obtain⟨y1,e1,x1⟩:=p.m;have L:mb≠F.g:=p.m.ne;have j:Hid (mb≠F.g):=hid p.m.ne;have N:=h.at 41 (.int .u16 M.t.r) U;have P:=h.at 42 (.int .u16 M.t.c) U;have R:=h.at 43 (.bool M.t.on) U;have T:=h.at 44 (.bool M.t.g) U;have ff:=h.bx.f;have hg:=h.bx.z;have q1:Int.tmod n 2=1:=by rw[aq q.1];unfold cH at o1;simp at o1;omega
 obtain⟨m,s,X,Z⟩:∃ m,Int.tdiv n 2=m/\0<=m/\m<=127:=⟨_,U,by rw[aD q.1];omega⟩
 have q2:Int.tmod m 2=0:=by rw[<- s,aD q.1,aq (by omega)];unfold cH at o2;simp at o2;omega
 have y:M.putM 4 n={ M with t:=⟨M.t.r,M.t.r,true,M.t.g⟩ }:=by
  show { M with t:=M.t.put n }=_;unfold TM.put;rw[o1,o2];rfl
 have E0:=hid y;have H:=hid h;clear h p y o1 o2;go_enter func94,ntmps94;go_wp2_with (go_at_call 88;refine(Gm.reg3 a _ h1 h2).mono ?_;rintro e w1 ⟨rfl,rfl⟩)
 have i:Hid (Gd F (W.setCell ⟨F.g,43,none⟩ (.bool true)) { M with t:={ M.t with on:=true } } tk):=hid (H.out.put (M':={ M with t:={ M.t with on:=true } }) (tk':=tk) 43 _ (by omega) U ⟨U,U,U,U,U⟩ { H.out.fit with main:=H.out.fit.main });have B:(W.setCell ⟨F.g,43,none⟩ (.bool true)).cell? ⟨mb,0,none⟩=some (pt F.g 0):=(am (dy j.out)).trans e1;have E:Hid (Gt F W (W.setCell ⟨F.g,43,none⟩ (.bool true))):=hid (Gt.set H.out.nd (Gt.refl F W) 43 (.bool true));have u:=i.out.at 41 (.int .u16 M.t.r) U;have v:=i.out.at 42 (.int .u16 M.t.c) U;have gX:=i.out.bx.z;have fX:=i.out.bx.f;generalize W.setCell ⟨F.g,43,none⟩ (.bool true)=Y at *;refine wp_region_held_drew (S:=λw'=>w'.cell? ⟨mb,0,none⟩=some (pt F.g 0)) (by kernel_rfl) (B) ?_;intro b;refine A 0 b ?_;refine A 1 b ?_;refine A 2 b ?_;refine A 3 b ?_;refine A 4 b ?_;refine dQ 5 (λK k=>?_);go_simp;refine eP k (b) (λ_=>?_);clear k K;refine A 6 b ?_;refine A 7 b ?_
 refine A 8 b ?_;refine dQ 9 (λK k=>?_);go_simp;refine eP k ((am (dy j.out)).trans b) (λ_=>?_);clear k K;refine wpAnyH_done (by kernel_rfl) ?_ _;have I:Hid (Gd F (Y.drew.setCell ⟨F.g,42,none⟩ (.int .u16 M.t.r)) { M with t:=⟨M.t.r,M.t.r,true,M.t.g⟩ } tk):=hid (i.out.drew.put (M':={ M with t:=⟨M.t.r,M.t.r,true,M.t.g⟩ }) (tk':=tk) 42 _ (by omega) U ⟨U,U,U,U,U⟩ { i.out.fit with main:=i.out.fit.main,tr:=H.out.fit.tr,tc:=H.out.fit.tr });have l:Hid (Gt F W (Y.drew.setCell ⟨F.g,42,none⟩ (.int .u16 M.t.r))):=hid (Gt.set H.out.nd (Mv.drew E.out) 42 (.int .u16 M.t.r));refine Pl.cutE (λV=>Gd F V { M with t:=⟨M.t.r,M.t.r,true,M.t.g⟩ } tk/\Gt F W V/\V.cell? ⟨mb,0,none⟩=some (pt F.g 0)) ⟨I.out,l.out,(am (dy j.out)).trans b⟩ ?_;rintro V ⟨d,o,eV⟩;have w:=hid d;have x:=hid o;have v44:=d.at 44 (.bool M.t.g) U;have vf:=d.bx.f;have vg:=d.bx.z;clear d o i E I l u v gX fX B b;go_wp2;go_end0;rw[E0.out];exact⟨U,w.out,x.out⟩
theorem Gm.putP411(h:Gd F W M tk)(q:Pu F W mb hb lb gb)(a n:Int)(h1:53248<=a)(h2:a<=57343)(s:0<=n/\n<=255)(hk:Int.tmod a 32=4)(o1:cH n=true)(o2:cH (n/2)=true):Calls prog 94 #[.int .u16 a,.int .u8 n,pt mb 0,pt hb 0,pt lb 0,pt gb 0] W λe w'=>e=.returned (.tuple #[])/\Gd F w' (M.putM 4 n) tk/\Gt F W w':=by
 obtain⟨y1,e1,x1⟩:=q.m;have L:mb≠F.g:=q.m.ne;have j:Hid (mb≠F.g):=hid q.m.ne;have N:=h.at 41 (.int .u16 M.t.r) U;have P:=h.at 42 (.int .u16 M.t.c) U;have R:=h.at 43 (.bool M.t.on) U;have T:=h.at 44 (.bool M.t.g) U;have ff:=h.bx.f;have hg:=h.bx.z;have q1:Int.tmod n 2=1:=by rw[aq s.1];unfold cH at o1;simp at o1;omega
 obtain⟨m,u,X,Z⟩:∃ m,Int.tdiv n 2=m/\0<=m/\m<=127:=⟨_,U,by rw[aD s.1];omega⟩
 have q2:Int.tmod m 2=1:=by rw[<- u,aD s.1,aq (by omega)];unfold cH at o2;simp at o2;omega
 have y:M.putM 4 n={ M with t:=⟨M.t.r,M.t.r,true,false⟩ }:=by
  show { M with t:=M.t.put n }=_;unfold TM.put;rw[o1,o2];rfl
 have E0:=hid y;have H:=hid h;clear h q y o1 o2;go_enter func94,ntmps94;go_wp2_with (go_at_call 88;refine(Gm.reg3 a _ h1 h2).mono ?_;rintro e w1 ⟨rfl,rfl⟩)
 have i:Hid (Gd F (W.setCell ⟨F.g,43,none⟩ (.bool true)) { M with t:={ M.t with on:=true } } tk):=hid (H.out.put (M':={ M with t:={ M.t with on:=true } }) (tk':=tk) 43 _ (by omega) U ⟨U,U,U,U,U⟩ { H.out.fit with main:=H.out.fit.main });have B:(W.setCell ⟨F.g,43,none⟩ (.bool true)).cell? ⟨mb,0,none⟩=some (pt F.g 0):=(am (dy j.out)).trans e1;have E:Hid (Gt F W (W.setCell ⟨F.g,43,none⟩ (.bool true))):=hid (Gt.set H.out.nd (Gt.refl F W) 43 (.bool true));have v:=i.out.at 41 (.int .u16 M.t.r) U;have w:=i.out.at 42 (.int .u16 M.t.c) U;have gX:=i.out.bx.z;have fX:=i.out.bx.f;generalize W.setCell ⟨F.g,43,none⟩ (.bool true)=Y at *;refine wp_region_held_drew (S:=λw'=>w'.cell? ⟨mb,0,none⟩=some (pt F.g 0)) (by kernel_rfl) (B) ?_;intro b;refine A 0 b ?_;refine A 1 b ?_;refine A 2 b ?_;refine A 3 b ?_;refine A 4 b ?_;refine dQ 5 (λK l=>?_);go_simp;refine eP l (b) (λ_=>?_);clear l K;refine A 6 b ?_;refine A 7 b ?_
 refine A 8 b ?_;refine dQ 9 (λK l=>?_);go_simp;refine eP l ((am (dy j.out)).trans b) (λ_=>?_);clear l K;refine wpAnyH_done (by kernel_rfl) ?_ _;have I:Hid (Gd F (Y.drew.setCell ⟨F.g,42,none⟩ (.int .u16 M.t.r)) { M with t:=⟨M.t.r,M.t.r,true,M.t.g⟩ } tk):=hid (i.out.drew.put (M':={ M with t:=⟨M.t.r,M.t.r,true,M.t.g⟩ }) (tk':=tk) 42 _ (by omega) U ⟨U,U,U,U,U⟩ { i.out.fit with main:=i.out.fit.main,tr:=H.out.fit.tr,tc:=H.out.fit.tr });have o:Hid (Gt F W (Y.drew.setCell ⟨F.g,42,none⟩ (.int .u16 M.t.r))):=hid (Gt.set H.out.nd (Mv.drew E.out) 42 (.int .u16 M.t.r));refine Pl.cutE (λV=>Gd F V { M with t:=⟨M.t.r,M.t.r,true,M.t.g⟩ } tk/\Gt F W V/\V.cell? ⟨mb,0,none⟩=some (pt F.g 0)) ⟨I.out,o.out,(am (dy j.out)).trans b⟩ ?_;rintro V ⟨d,p,eV⟩;have k:=hid d;have x:=hid p;have v44:=d.at 44 (.bool M.t.g) U;have vf:=d.bx.f;have vg:=d.bx.z;clear d p i E I o v w gX fX B b;go_wp2;go_end0;rw[E0.out];exact⟨U,k.out.put (tk':=tk) 44 _ (by omega) U ⟨U,U,U,U,U⟩ { k.out.fit with main:=k.out.fit.main },Gt.set H.out.nd x.out _ _⟩
theorem Gm.putP4(h:Gd F W M tk)(b:Pu F W mb hb lb gb)(a n:Int)(h1:53248<=a)(h2:a<=57343)(c:0<=n/\n<=255)(d:Int.tmod a 32=4):Calls prog 94 #[.int .u16 a,.int .u8 n,pt mb 0,pt hb 0,pt lb 0,pt gb 0] W λe w'=>e=.returned (.tuple #[])/\Gd F w' (M.putM 4 n) tk/\Gt F W w':=by
 cases o1:cH n <;> cases o2:cH (n/2)
 ·exact Gm.putP400 h b a n h1 h2 c d o1 o2
 ·exact Gm.putP401 h b a n h1 h2 c d o1 o2
 ·exact Gm.putP410 h b a n h1 h2 c d o1 o2
 ·exact Gm.putP411 h b a n h1 h2 c d o1 o2
end
theorem zwL{W:World}{B:Nat}{v:Value}{L:List Nat}(h:W.ownsRow B 3 1 v L.length (ics L)):∃ sa a gl,v=.slice sa L.length a/\L.length<=a/\(L≠[]->sa=some ⟨gl,0,none⟩/\B<=gl/\Lst W gl L):=by
 by_cases b:L=[]
 ·obtain⟨sa,a,rfl⟩:=ziE h
  exact⟨sa,a,0,U,by rw[b];exact aU _,λd=>absurd b d⟩
 ·obtain⟨gl,c,rfl,hb,e⟩:=Lst.of h b
  refine⟨_,c,gl,U,?_,λ_=>⟨U,hb,e⟩⟩;rcases h.2 with⟨h1,_⟩|⟨g,f,i,h1,_,_,d,_⟩
  ·cases h1
  ·simp only[fd] at h1
   rw[h1.2.2];exact d
theorem zwM{m:List UInt8}{y:Nat}{ks:List Nat}{j k x:Nat}(a:ks[j]?=some k)(h:kr m y (ks.take j) x=false)(b:sxS m y k x≠0):kh m y ks x=if 128<=hwS m k/\gd m y x≠0 then gb m (160+gd m y x) else gb m (164+sxS m y k x):=by
 have c:=(aA.1 a).1;have d:=(aA.1 a).2;have e:ks=ks.take j++k::ks.drop (j+1):=by
  conv=>lhs;rw[<- jC j ks,cf c,d]
 unfold kr at h;have f:(ks.take j).find? (λk=>sxS m y k x != 0)=none:=by
  rw[dJ];intro k a;rw[iR] at h;exact h k a
 have h1:(k::ks.drop (j+1)).find? (λk=>sxS m y k x != 0)=some k:=by simp[b]
 unfold kh;rw[e,gn,f,h1];rfl
theorem zmi{m:List UInt8}{y:Nat}{ks:List Nat}{j k x:Nat}(a:ks[j]?=some k)(h:kr m y (ks.take j) x=false)(b:sxS m y k x=0):kr m y (ks.take (j+1)) x=false:=by
 rw[dw,a];show kr m y (ks.take j++[k]) x=false;rw[sQ,h,b];rfl
theorem vn(m:List UInt8)(t x y:Nat):td m (t%16) x y=td m t x y:=by
 unfold td;rw[Nat.mod_mod]
structure LnW (w : World) (fo : Nat -> Nat) (gl : Nat) (L : List Nat) (W : World) : Prop where
 low:Below w.heap.size w W
 o:Bx W w.heap.size (bf fo)
 l:L≠[]->Lst W gl L
section
variable {w W w1 : World} {fo fo' : Nat -> Nat} {gl : Nat} {L : List Nat}
theorem LnW.kept(h:LnW w fo gl L W)(hb:Below W.heap.size W w1):LnW w fo gl L w1:=⟨bn h.low hb,h.o.kept hb,λa=>(h.l a).kept hb⟩
theorem LnW.congr(h:LnW w fo gl L W)(e:∀ x,x<16->fo x=fo' x):LnW w fo' gl L W:=⟨h.low,sR e ▸ h.o,h.l⟩
theorem LnW.put(h:LnW w fo gl L W)(c:L≠[]->w.heap.size<gl)(x n:Nat)(a:x<16):LnW w (λi=>if i=x then n else fo i) gl L (W.setCell ⟨w.heap.size,x,none⟩ (.int .u8 n)) :=
 ⟨Bl.set h.low (ak _) _,ry fo x n a ▸ h.o.set x (.int .u8 n) (by rw[lh];exact a),λb=>(h.l b).far (gc (c b)) _⟩
end
def qC(m:List UInt8)(y x n:Nat)(i:Nat):Nat:=if i=x then n else if i<x then px m y i else 0
theorem zfh(m:List UInt8)(y x n:Nat)(h:px m y x=n):∀ i,i<16->qC m y x n i=(λi=>if i<x+1 then px m y i else 0) i:=λi hi=>by
 unfold qC;by_cases e:i=x
 ·subst e;simp[h]
 ·simp only[G e]
  by_cases a:i<x
  ·rw[Q a,Q (by omega)]
  ·rw[G a,G (by omega)]
theorem zsc(m:List UInt8)(y x n a:Nat):∀ i,i<16->(λi=>if i=x then a else qC m y x n i) i=qC m y x a i:=λi hi=>by
 unfold qC;by_cases e:i=x
 ·simp[e]
 ·simp[e]
theorem zpm(m:List UInt8)(v:Value)(g o c:Nat)(y:Nat)(w:World)(h:Mm w m v g o c)(hc256:256<=c)(hy:y<8):Calls prog 71 #[v,.int .i64 y] w λe w'=>e=.returned (.agg (bf (px m y)).toArray)/\Below w.heap.size w w':=by
 have H:=hid h;obtain⟨rfl,hl,hz,hc⟩:=h;clear hc;obtain⟨L,hL⟩:∃ L,L=gM m y 8:=⟨_,U⟩
 obtain⟨ks,t⟩:∃ ks,ks=L.take 2:=⟨_,U⟩
 have HKs:Hid (∀ k∈ks,k<8/\mG m y k=true):=λk hk=>by rw[t,hL] at hk;exact⟨zvd (dU hk),zve (dU hk)⟩
 have P:Hid (∀ x,px m y x=kh m y ks x):=λx=>by rw[t,hL];rfl
 have klen:ks.length<=2:=by rw[t,bu];omega
 have kle:ks.length<=L.length:=by rw[t,bu];omega
 have u:min (2:Int) (L.length:Int)=(ks.length:Int):=by rw[t,bu];omega
 have HAt:Hid (∀ j k,ks[j]?=some k->L[j]?=some k):=λj k hj=>by
  rw[t,dI] at hj;split at hj
  ·exact hj
  ·cases hj
 have HL:=hid hL;have HMin:=hid u;clear hL t u;go_enter func71,ntmps71;go_upto_block 0 with(first
  | (go_at_call 134;refine(zmh m _ g o c y _ (H.out.kept (stA (J w) _)) hy).mono ?_;rw[<- HL.out];rintro e w1 ⟨s,rfl,B,hb1⟩;have HO:=hid B;have HB:=hid hb1;obtain⟨sa,sc,gl,rfl,hsc,T⟩:=zwL B;have V:=hid T;have u:=HMin.out;have m1:(0:Int)<=ks.length:=Int.natCast_nonneg _;have m2:(ks.length:Int)<=sc:=Int.ofNat_le.2 (ax kle hsc);clear B hb1 T))
 have HD:Hid (L≠[]->w.heap.size<gl):=λhn=>ap (by simp) (V.out hn).2.1
 have HS:Hid (L≠[]->sa=some ⟨gl,0,none⟩):=λhn=>(V.out hn).1
 have p:Hid (LnW w (λi=>if i<0 then px m y i else 0) gl L w1):=⟨bn (stA (J w) _) HB.out,((Bx.new w (bf λ_=>0) _ U).kept HB.out),λhn=>(V.out hn).2.2⟩
 clear V HO HB u;go_cut [24] (λ_ W=>LnW w (λi=>if i<16 then px m y i else 0) gl L W)
 case first =>
  go_wp2_with fail
  go_loopw [24] (λi W=>∃ x:Nat,x<=16/\i=.int .i64 x/\LnW w (λi=>if i<x then px m y i else 0) gl L W) (λi _=>16-(intOf i).toNat)
  case atStart=>exact⟨0,aU _,U,p.out⟩
  case round =>
   clear p;obtain⟨x,hx,rfl,hW⟩:=hrel;have p:=hid hW;clear hW;by_cases r:x<16
   ·have h16':(x:Int)<16:=by omega
    go_upto_block 1 with fail
    go_cut [6] (λ_ W=>LnW w (λi=>if i<x+1 then px m y i else 0) gl L W)
    case first =>
     have HM:=hid (H.out.kept p.out.low);have c0:=HM.out.c 168 (by omega);have c1:=HM.out.c 169 (by omega);have b0:=f8 m 168;have b1:=f8 m 169;have w0:=tZ m 168;have w1':=tZ m 169;have w2:IntKind.i64.wrap ((x:Int)+(gb m 168:Nat))=(x:Int)+(gb m 168:Nat):=by rw[aI];omega
     have w3:IntKind.i64.wrap ((y:Int)+(gb m 169:Nat))=(y:Int)+(gb m 169:Nat):=by rw[aI];omega
     obtain⟨X,hX⟩:∃ X,X=(x+gb m 168)%16:=⟨_,U⟩
     obtain⟨Y,hY⟩:∃ Y,Y=(y+gb m 169)%16:=⟨_,U⟩
     have hXl:X<16:=by omega
     have hYl:Y<16:=by omega
     have HT:Hid (td m (gb m (Y/4*4+X/4)%16) (X%4) (Y%4)=gd m y x):=by rw[vn,hX,hY];rfl
     have HX:=hid hX;have HY:=hid hY;clear hX hY;go_upto_region 6 with fail
     go_cut [7,8] (λvX vY W=>vX=.int .i64 (X:Nat)/\vY=.int .i64 (Y:Nat)/\LnW w (λi=>if i<x then px m y i else 0) gl L W)
     case first =>
      go_quiet (fail)
      rename_i hM;refine hM _ _ ?_;go_meet;exact⟨congrArg (Value.int .i64) (by rw[HX.out];omega),congrArg (Value.int .i64) (by rw[HY.out];omega),p.out.kept (Bl.drewN (J _) _)⟩
     case rest =>
     obtain⟨rfl,rfl,hW⟩:=hcut;clear p HM c0 c1 b0 b1 w0 w1' w2 w3 HX HY;have p:=hid hW;clear hW;have hgd:=qQ m y x;have c0:=(H.out.kept p.out.low).c (Y/4*4+X/4) (by omega);have b0:=f8 m (Y/4*4+X/4);have xm:X%4<4:=gE _ (by decide);have ym:Y%4<4:=gE _ (by decide);have tm:gb m (Y/4*4+X/4)%16<16:=gE _ (by decide);go_upto_block 2 with(go_at_call 135;refine(vm m _ g o c (gb m (Y/4*4+X/4)%16) (X%4) (Y%4) _ (H.out.kept p.out.low) tm xm ym).mono ?_;rw[HT.out];rintro e w2 ⟨rfl,hb2⟩;have E:=hid (p.out.kept hb2);have co:=E.out.o.at x _ (oy _ r);have fo:=E.out.o.f x;have cm:=(H.out.kept E.out.low).c (160+gd m y x) (by omega);clear hb2)
     have HW4:Hid (LnW w (qC m y x (gb m (160+gd m y x))) gl L (w2.setCell ⟨w.heap.size,x,none⟩ (.int .u8 (gb m (160+gd m y x))))):=E.out.put HD.out x _ r;clear p E co fo cm c0 b0 xm ym tm;go_wp2_with fail
     go_loopw [67] (λi W=>∃ j:Nat,j<=ks.length/\i=.int .i64 j/\Hid (kr m y (ks.take j) x=false)/\LnW w (qC m y x (gb m (160+gd m y x))) gl L W) (λi _=>ks.length-(intOf i).toNat)
     case atStart=>exact⟨0,aU _,U,(U:kr m y (ks.take 0) x=false),HW4.out⟩
     case round =>
      clear HW4;obtain⟨j,hj,rfl,z,hW⟩:=hrel;have p:=hid hW;clear hW;by_cases Z:j<ks.length
      ·have hjl':(j:Int)<ks.length:=by omega
       have hLn:L≠[]:=λh=>by rw[h] at kle;have:ks.length<=0:=kle;omega
       have T:=HS.out hLn;have HDl:=hid (HD.out hLn);subst T;obtain⟨k,hk⟩:∃ k,ks[j]?=some k:=⟨ks[j],au Z⟩
       have HK:=hid hk;have HK8:=hid (HKs.out k (bh hk));have hk8:=HK8.out.1;have cl:=(p.out.l hLn).c j k (HAt.out j k hk);clear hk;have cne:¬ (c=128+4*k):=by omega
       have HL1:=hid (λq=>znN m _ g o c k y (wr.drewN q) ((H.out.kept p.out.low).kept (Bl.drewN (J wr) q)) hk8 hy);have HLi:Hid (∀ q,Calls prog 136 #[.slice (some ⟨g,o,none⟩) 256 c,.int .i64 k,.int .i64 y] (wr.drewN q) λe w'=>e=.returned (.int .i64 (nZ m k y))/\w'=wr.drewN q):=λq=>(HL1.out q).mono λe w' hh=>⟨hh.1,hh.2.symm⟩
       have d1:=(H.out.kept p.out.low).c (128+4*k+1) (by omega);have hcl0:clS m k=gb m (128+4*k+1):=by unfold clS;rw[show 129+4*k=128+4*k+1 by omega]
       rw[<- hcl0,<- cA] at d1;have hclb:clS m k<256:=f8 ..;have l1:(1:Int)<((256-(128+4*k):Nat):Int):=by omega
       have w1':IntKind.i64.wrap (clS m k:Int)=(clS m k:Int):=by rw[aI];omega
       have w2':IntKind.i64.wrap ((x:Int)-(clS m k:Nat))=(x:Int)-(clS m k:Nat):=by rw[aI];omega
       clear hcl0;go_upto_region 13 with fail
       go_cut [13,14] (λvc vr W=>vc=.int .i64 ((x:Int)-(clS m k:Nat))/\vr=.int .i64 (nZ m k y)/\LnW w (qC m y x (gb m (160+gd m y x))) gl L W)
       case first =>
        go_quiet ((go_at_call 136;exact Calls.quiet_of_same (HLi.out _)))
        rename_i hM;refine hM _ _ ?_;go_meet;exact⟨U,U,p.out.kept (Bl.drewN (J _) _)⟩
       case rest =>
       obtain⟨rfl,rfl,hWc⟩:=hcut;have b:=hid hWc;clear hWc p d1 cl l1 w1' w2' HL1 HLi;by_cases hlo:x<clS m k
       ·have t1:(x:Int)-(clS m k:Nat)<0:=by omega
        have F:=hid (zmi HK.out z.out (znH (by omega)));go_wp2;exact⟨⟨j+1,Z,by go_num,F,b.out⟩,by simp[intOf];omega⟩
       ·have t1:¬ (x:Int)-(clS m k:Nat)<0:=by omega
        by_cases hhi:clS m k+4<=x
        ·have t2:(3:Int)<(x:Int)-(clS m k:Nat):=by omega
         have F:=hid (zmi HK.out z.out (znH (by omega)));go_wp2;exact⟨⟨j+1,Z,by go_num,F,b.out⟩,by simp[intOf];omega⟩
        ·obtain⟨C,hC⟩:∃ C,C=x-clS m k:=⟨_,U⟩
         obtain⟨R,hR⟩:∃ R,R=y-lnS m k:=⟨_,U⟩
         have hon:=HK8.out.2;have hon':lnS m k<=y/\y<lnS m k+4:=by unfold mG at hon;exact cF hon
         have HSxe:Hid (sxS m y k x=sdS m y k C):=by unfold sxS;rw[Q (by omega),hC];rfl
         have HR:Hid (y-lnS m k=R):=hR.symm;have eC:(x:Int)-(clS m k:Nat)=(C:Int):=by omega
         have eR:nZ m k y=(R:Int):=by unfold nZ;rw[Q hon];omega
         have hC4:C<4:=by omega
         have hR4:R<4:=by omega
         rw[eC,eR];have HC3:Hid (((3-C:Nat):Int)=3-(C:Int)):=by unfold Hid;omega
         have HR3:Hid (((3-R:Nat):Int)=3-(R:Int)):=by unfold Hid;omega
         have t3:¬ (C:Int)<0:=by omega
         have t4:¬ (3:Int)<(C:Int):=by omega
         have I:Hid (gb m (128+4*k+3)=hwS m k):=by unfold hwS;rw[show 131+4*k=128+4*k+3 by omega];rfl
         have ti2:Hid (gb m (128+4*k+2)=ir m k):=by unfold ir;rw[show 130+4*k=128+4*k+2 by omega];rfl
         have d3:=(H.out.kept b.out.low).c (128+4*k+3) (by omega);have d2:=(H.out.kept b.out.low).c (128+4*k+2) (by omega);rw[I.out,<- cA] at d3;rw[ti2.out,<- cA] at d2;have hwb:hwS m k<256:=f8 ..;have tib:ir m k<256:=f8 ..;have tm:ir m k%16<16:=gE _ (by decide);have hsl:=zyd m y k x;clear hC hR hon hon' eC eR hlo hhi t1;have hq:∃(p1 p2:Bool) (C' R':Nat),((hwS m k:Int)%2 == 1)=p1/\((hwS m k:Int)/2%2 == 1)=p2/\C'<4/\R'<4/\(C':Int)=cond p1 (3-(C:Int)) C/\(R':Int)=cond p2 (3-(R:Int)) R/\td m (ir m k%16) C' R'=sxS m y k x:=by
          rw[HSxe.out];unfold sdS rwS;rw[HR.out];by_cases hcl:hwS m k%2=1 <;> by_cases hrw:hwS m k/2%2=1
          ·exact⟨true,true,3-C,3-R,by simp;omega,by simp;omega,by omega,by omega,HC3.out,HR3.out,by rw[vn,Q hcl,Q hrw]⟩
          ·exact⟨true,false,3-C,R,by simp;omega,by simp;omega,by omega,hR4,HC3.out,U,by rw[vn,Q hcl,G hrw]⟩
          ·exact⟨false,true,C,3-R,by simp;omega,by simp;omega,hC4,by omega,U,HR3.out,by rw[vn,G hcl,Q hrw]⟩
          ·exact⟨false,false,C,R,by simp;omega,by simp;omega,hC4,hR4,U,U,by rw[vn,G hcl,G hrw]⟩
         obtain⟨p1,p2,C',R',q1,q2,hC',hR',eC,eR,hSx⟩:=hq;have HSx:=hid hSx;clear hSx;cases p1 <;> cases p2
         all_goals
          dsimp only[cond] at eC eR;have HEC:=hid eC;have HER:=hid eR;clear eC eR;by_cases M:sxS m y k x=0
          ·have s0:((sxS m y k x:Int) == 0)=true:=by rw[M];rfl
           have F:=hid (zmi HK.out z.out M);clear M;go_wp2_with (go_at_call 135;rw[<- HEC.out];rw[<- HER.out];refine(vm m _ g o c (ir m k%16) C' R' _ (H.out.kept b.out.low) tm hC' hR').mono ?_;rw[HSx.out];rintro e w5 ⟨rfl,d⟩;have a:=hid (b.out.kept d);have co:=a.out.o.at x _ (oy _ r);have fo:=a.out.o.f x;have n:=((H.out.kept a.out.low).c (128+4*k+3) (by omega));have cm:=(H.out.kept a.out.low).c (164+sxS m y k x) (by omega);rw[<- cA] at n;rw[I.out] at n;clear d)
           exact⟨⟨j+1,Z,by go_num,F,a.out⟩,by simp[intOf];omega⟩
          ·have s0:((sxS m y k x:Int) == 0)=false:=by simp;omega
           have HHit:=hid (zwM HK.out z.out M);clear M;by_cases hbh:128<=hwS m k
           ·have s1:¬ (hwS m k:Int)<128:=by omega
            by_cases N:gd m y x=0
            ·have s2:((gd m y x:Int) == 0)=true:=by rw[N];rfl
             have HFin:Hid (px m y x=gb m (164+sxS m y k x)):=by rw[P.out,HHit.out,G (λhh=>hh.2 N)];rfl
             clear N;go_wp2_with (go_at_call 135;rw[<- HEC.out];rw[<- HER.out];refine(vm m _ g o c (ir m k%16) C' R' _ (H.out.kept b.out.low) tm hC' hR').mono ?_;rw[HSx.out];rintro e w5 ⟨rfl,d⟩;have a:=hid (b.out.kept d);have co:=a.out.o.at x _ (oy _ r);have fo:=a.out.o.f x;have n:=((H.out.kept a.out.low).c (128+4*k+3) (by omega));have cm:=(H.out.kept a.out.low).c (164+sxS m y k x) (by omega);rw[<- cA] at n;rw[I.out] at n;clear d)
             go_meet;exact((a.out.put HD.out x _ r).congr (zsc m y x _ _)).congr (zfh m y x _ HFin.out)
            ·have s2:((gd m y x:Int) == 0)=false:=by simp;omega
             have HFin:Hid (px m y x=gb m (160+gd m y x)):=by rw[P.out,HHit.out,Q ⟨hbh,N⟩];rfl
             clear N;go_wp2_with (go_at_call 135;rw[<- HEC.out];rw[<- HER.out];refine(vm m _ g o c (ir m k%16) C' R' _ (H.out.kept b.out.low) tm hC' hR').mono ?_;rw[HSx.out];rintro e w5 ⟨rfl,d⟩;have a:=hid (b.out.kept d);have co:=a.out.o.at x _ (oy _ r);have fo:=a.out.o.f x;have n:=((H.out.kept a.out.low).c (128+4*k+3) (by omega));have cm:=(H.out.kept a.out.low).c (164+sxS m y k x) (by omega);rw[<- cA] at n;rw[I.out] at n;clear d)
             go_meet;exact a.out.congr (zfh m y x _ HFin.out)
           ·have s1:(hwS m k:Int)<128:=by omega
            have HFin:Hid (px m y x=gb m (164+sxS m y k x)):=by rw[P.out,HHit.out,G (λhh=>hbh hh.1)];rfl
            go_wp2_with (go_at_call 135;rw[<- HEC.out];rw[<- HER.out];refine(vm m _ g o c (ir m k%16) C' R' _ (H.out.kept b.out.low) tm hC' hR').mono ?_;rw[HSx.out];rintro e w5 ⟨rfl,d⟩;have a:=hid (b.out.kept d);have co:=a.out.o.at x _ (oy _ r);have fo:=a.out.o.f x;have n:=((H.out.kept a.out.low).c (128+4*k+3) (by omega));have cm:=(H.out.kept a.out.low).c (164+sxS m y k x) (by omega);rw[<- cA] at n;rw[I.out] at n;clear d)
            go_meet;exact((a.out.put HD.out x _ r).congr (zsc m y x _ _)).congr (zfh m y x _ HFin.out)
      ·have hj9:¬ (j:Int)<ks.length:=by omega
       have ej:ks.take j=ks:=cD (by omega);rw[ej] at z;clear ej;go_wp2;go_meet;exact p.out.congr (zfh m y x _ (by rw[P.out,znF z.out]))
    case rest =>
    have HWr:=hid hcut;clear hcut p;go_wp2;exact⟨⟨x+1,r,by go_num,HWr.out⟩,by simp[intOf];omega⟩
   ·have h17:¬ (x:Int)<16:=by omega
    have e16:x=16:=by omega
    subst e16;go_wp2;go_meet;exact p.out
 case rest =>
 have HF:=hid (hcut.congr (fo':=px m y) (λx hx=>Q hx));clear hcut p;go_wp2_with (first
  | (refine oT U _ U _ _ U HF.out.o ?_)
  | (refine ol U _ _ U w.heap.size (px m y) _ U U HF.out.o ?_;rintro w' hw' hB';have HB':=hid hB';have HW':=hid hw';clear hB' hw'))
 have hl:=oU HB'.out;refine ao (v:=.agg (bf (px m y)).toArray) ?_ U ⟨U,?_⟩
 ·simp only[results,results71]
  simp;exact hl
 ·rw[HW'.out];exact Bl.puts HF.out.low (ak _) _
end Go.Proofs.YthghjlinhokimaaGreatDoor
