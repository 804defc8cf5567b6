/-
  Parts of a proof, joined.
-/
import Derived.Test.YtbennamieealbaaGreatDoorZg18
import Derived.Test.YtbennamieealbaaGreatDoorZg12
import Derived.Test.YtbennamieealbaaGreatDoorZg07
import Derived.Test.YtbennamieealbaaGreatDoorZg13
set_option linter.unusedVariables false
set_option maxRecDepth 100000
set_option maxHeartbeats 3200000
namespace Go.Proofs.YtbennamieealbaaGreatDoor
open Go.ChangeShapes Go.WideShapes Go.ChangeAt Go.RowKit
section
variable {F : Fx} {W : World} {M M' : Mach} {tk : Tk}
theorem Bd.auxC (h:Bd F W M tk):W.cell? ⟨F.g,15,none⟩=some (.int .u16 (M.aux.r 0))/\W.cell? ⟨F.g,16,none⟩=some (.int .u16 (M.aux.r 1))/\W.cell? ⟨F.g,17,none⟩=some (.int .u16 (M.aux.r 2))/\W.cell? ⟨F.g,18,none⟩=some (.int .u16 (M.aux.r 3))/\W.cell? ⟨F.g,19,none⟩=some (.int .u16 (M.aux.r 4))/\W.cell? ⟨F.g,20,none⟩=some (.int .u16 (M.aux.r 5))/\W.cell? ⟨F.g,21,none⟩=some (.int .u16 (M.aux.r 6))/\W.cell? ⟨F.g,22,none⟩=some (.int .u16 (M.aux.r 7))/\W.cell? ⟨F.g,23,none⟩=some (.int .u16 M.aux.PC)/\W.cell? ⟨F.g,24,none⟩=some (.bool M.aux.Z)/\W.cell? ⟨F.g,25,none⟩=some (.bool M.aux.N)/\W.cell? ⟨F.g,26,none⟩=some (.bool M.aux.C)/\W.cell? ⟨F.g,27,none⟩=some (.bool M.aux.V)/\W.cell? ⟨F.g,28,none⟩=some (.bool M.aux.May)/\W.cell? ⟨F.g,29,none⟩=some (.bool M.aux.Waits)/\W.cell? ⟨F.g,72,none⟩=some (.int .i64 M.clock)/\W.cell? ⟨F.g,74,none⟩=some (.int .i64 M.aready)/\(∀ o,W.frozen? ⟨F.g,o,none⟩=false)/\F.g<W.heap.size :=
 ⟨h.at 15 _ rfl,h.at 16 _ rfl,h.at 17 _ rfl,h.at 18 _ rfl,h.at 19 _ rfl,h.at 20 _ rfl,h.at 21 _ rfl,h.at 22 _ rfl,h.at 23 _ rfl,h.at 24 _ rfl,h.at 25 _ rfl,h.at 26 _ rfl,h.at 27 _ rfl,h.at 28 _ rfl,h.at 29 _ rfl,h.at 72 _ rfl,h.at 74 _ rfl,h.bx.f,h.bx.z⟩
theorem zfW (h:Bd F W M tk) (o:Nat) (x0 x1:Int) (h0:ReadsAt F M tk o 0 x0) (h1:ReadsAt F M tk o 1 x1) (b0:0<=x0/\x0<=255) (b1:0<=x1/\x1<=255) :
 Calls Tryz.prog 52 #[reachV F.g o] W λe w'=>e = .returned (.agg #[.int .u16 0,.int .u16 0,.int .u16 0,.int .u16 0,.int .u16 0,.int .u16 0,.int .u16 0,.int .u16 0,.int .u16 (x0*256+x1),.bool false,.bool false,.bool false,.bool false,.bool false,.bool false])/\Bd F w' M tk/\Bt F W w':=zcT h o x0 x1 h0 h1 b0 b1
theorem zfX {b i:Nat} {v:Value}:∀ (vs:List Value) (o:Nat) (w:World),o+vs.length<=i->w.cell? ⟨b,i,none⟩=some v->(w.setCells b o vs).cell? ⟨b,i,none⟩=some v
 | [],o,w,hl,h=>h
 | x::vs,o,w,hl,h=>by
  simp only [List.length_cons] at hl
  exact zfX vs (o+1) _ (by omega) ((World.cell?_setCell_other _ _ _ _ (by intro e;have:=congrArg Addr.off e;simp at this;omega)).trans h)
theorem znz {w:World} {b i j:Nat} {v u:Value} (hij:i≠j) (h:w.cell? ⟨b,j,none⟩=some u):(w.setCell ⟨b,i,none⟩ v).drew.cell? ⟨b,j,none⟩=some u :=
 (World.cell?_setCell_other _ _ _ _ (by intro e;exact hij (congrArg Addr.off e))).trans h
theorem nest15 (w:World) (b:Nat) (v0 v1 v2 v3 v4 v5 v6 v7 v8 v9 v10 v11 v12 v13 v14:Value):w.setCells b 15 [v0,v1,v2,v3,v4,v5,v6,v7,v8,v9,v10,v11,v12,v13,v14]=(((((((((((((((w.setCell ⟨b,15,none⟩ v0).setCell ⟨b,16,none⟩ v1).setCell ⟨b,17,none⟩ v2).setCell ⟨b,18,none⟩ v3).setCell ⟨b,19,none⟩ v4).setCell ⟨b,20,none⟩ v5).setCell ⟨b,21,none⟩ v6).setCell ⟨b,22,none⟩ v7).setCell ⟨b,23,none⟩ v8).setCell ⟨b,24,none⟩ v9).setCell ⟨b,25,none⟩ v10).setCell ⟨b,26,none⟩ v11).setCell ⟨b,27,none⟩ v12).setCell ⟨b,28,none⟩ v13).setCell ⟨b,29,none⟩ v14):=by simp only [World.setCells,Nat.reduceAdd]
theorem keep15 {w:World} {b:Nat} {u v0 v1 v2 v3 v4 v5 v6 v7 v8 v9 v10 v11 v12 v13 v14:Value} (h:w.cell? ⟨b,72,none⟩=some u):(((((((((((((((w.setCell ⟨b,15,none⟩ v0).setCell ⟨b,16,none⟩ v1).setCell ⟨b,17,none⟩ v2).setCell ⟨b,18,none⟩ v3).setCell ⟨b,19,none⟩ v4).setCell ⟨b,20,none⟩ v5).setCell ⟨b,21,none⟩ v6).setCell ⟨b,22,none⟩ v7).setCell ⟨b,23,none⟩ v8).setCell ⟨b,24,none⟩ v9).setCell ⟨b,25,none⟩ v10).setCell ⟨b,26,none⟩ v11).setCell ⟨b,27,none⟩ v12).setCell ⟨b,28,none⟩ v13).setCell ⟨b,29,none⟩ v14).cell? ⟨b,72,none⟩=some u:=by
 rw [<- nest15];exact zfX _ 15 w (by simp) h
theorem keep15d {w:World} {b:Nat} {u x v0 v1 v2 v3 v4 v5 v6 v7 v8 v9 v10 v11 v12 v13 v14:Value} (h:w.cell? ⟨b,72,none⟩=some u):((((((((((((((((w.setCell ⟨b,15,none⟩ v0).setCell ⟨b,16,none⟩ v1).setCell ⟨b,17,none⟩ v2).setCell ⟨b,18,none⟩ v3).setCell ⟨b,19,none⟩ v4).setCell ⟨b,20,none⟩ v5).setCell ⟨b,21,none⟩ v6).setCell ⟨b,22,none⟩ v7).setCell ⟨b,23,none⟩ v8).setCell ⟨b,24,none⟩ v9).setCell ⟨b,25,none⟩ v10).setCell ⟨b,26,none⟩ v11).setCell ⟨b,27,none⟩ v12).setCell ⟨b,28,none⟩ v13).setCell ⟨b,29,none⟩ v14).setCell ⟨b,74,none⟩ x).drew.cell? ⟨b,72,none⟩=some u:=znz (by omega) (keep15 h)
theorem keep15e {w:World} {b:Nat} {u x v0 v1 v2 v3 v4 v5 v6 v7 v8 v9 v10 v11 v12 v13 v14:Value} (h:w.cell? ⟨b,72,none⟩=some u):((((((((((((((((w.setCell ⟨b,15,none⟩ v0).setCell ⟨b,16,none⟩ v1).setCell ⟨b,17,none⟩ v2).setCell ⟨b,18,none⟩ v3).setCell ⟨b,19,none⟩ v4).setCell ⟨b,20,none⟩ v5).setCell ⟨b,21,none⟩ v6).setCell ⟨b,22,none⟩ v7).setCell ⟨b,23,none⟩ v8).setCell ⟨b,24,none⟩ v9).setCell ⟨b,25,none⟩ v10).setCell ⟨b,26,none⟩ v11).setCell ⟨b,27,none⟩ v12).setCell ⟨b,28,none⟩ v13).setCell ⟨b,29,none⟩ v14).setCell ⟨b,74,none⟩ x).cell? ⟨b,72,none⟩=some u:=(World.cell?_setCell_other _ _ _ _ (by intro e;have:=congrArg Addr.off e;simp at this)).trans (keep15 h)
theorem zjJ (h:Bd F W M tk) (n:Int) (hn:0<=n/\n<=255) (hh:(M.held && !(odd (n/2)))=true):Calls Tryz.prog 174 #[pt F.g 0,.int .u8 n] W λe w'=>e = .returned (.tuple #[])/\Bd F w' (M.putM 16 n) tk/\Bt F W w':=by
 have c0:=h.at 67 (.bool M.granted) rfl
 have c1:=h.at 68 (.bool M.held) rfl
 have ff:=h.bx.f
 have hg:=h.bx.z
 have H:=hid h
 have a1:=zc2 n hn
 have a2:=zfd n hn
 have e0:M.putM 16 n={ M.grant n with aux:=beginC ((M.grant n).lookA 0) ((M.grant n).lookA 1),aready:=M.clock }:=by show M.letGo n=_;unfold Mach.letGo;rw [if_pos hh]
 rw [e0]
 have hp:Bd F ((W.setCell ⟨F.g,67,none⟩ (.bool (odd n))).setCell ⟨F.g,68,none⟩ (.bool (odd (n/2)))) (M.grant n) tk :=
  (h.put (M':={ M with granted:=odd n }) (tk':=tk) 67 _ (by omega) rfl ⟨rfl,rfl,rfl,rfl,rfl⟩ { h.fit with main:=h.fit.main }).put 68 _ (by omega) rfl ⟨rfl,rfl,rfl,rfl,rfl⟩ (zfM h.fit n)
 have HP:=hid hp
 have hcl:(M.grant n).clock=M.clock:=rfl
 rw [<- hcl]
 have HF:=hid h.fit
 clear h e0 hp hcl
 generalize hG:M.grant n=G at *
 have HG:=hid hG
 clear hG
 have hd:M.held=true:=by revert hh;cases M.held <;> simp
 have ho:odd (n/2)=false:=by revert hh;cases M.held <;> cases odd (n/2) <;> simp
 rw [hd] at c1
 have r:n/2%2=0:=by rcases zby (n/2) with ⟨p,q⟩|⟨p,q⟩;exact p;rw [ho] at q;cases q
 rw [r] at a2
 rw [ho] at HP
 clear hh hd ho r
 rcases zby n with ⟨p,q⟩|⟨p,q⟩
 all_goals
  rw [p] at a1
  rw [q] at HP
  clear p q
  go_enter Tryz.func174,Tryz.ntmps174
  go_wp2
  refine Pl.cutW (λY=>Bd F Y G tk/\Bt F W Y) ⟨HP.out,((Bt.refl _ _).set H.out.nd _ _).set H.out.nd _ _⟩ ?_
  rintro Y ⟨hY1,hY2⟩
  have HY1:=hid hY1
  have HY2:=hid hY2
  obtain ⟨_,_,_,_,_,_,_,_,_,_,_,_,_,_,_,cl,ar,yf,yg⟩:=hY1.auxC
  clear hY1 hY2 ff c0 c1 hg
  go_region_held3 (λw'=>w'.cell? ⟨F.g,72,none⟩=some (.int .i64 G.clock))
   ((first|(with_reducible exact zcl)|(with_reducible exact ycl)|(with_reducible exact cl)|(with_reducible exact keep15 zcl)|(with_reducible exact keep15d zcl)|(with_reducible exact keep15e zcl)|(go_keep;done)))
   ((first
   | (go_at_call 52;refine (zfW HB1.out 143 _ _ (zer 0 (by omega)) (zer 1 (by omega)) (zco _ _) (zco _ _)).mono ?_;rintro e w2 ⟨rfl,hB2,hT2⟩;have HB2:=hid hB2;have HT2:=hid hT2;obtain ⟨z0,z1,z2,z3,z4,z5,z6,z7,z8,z9,z10,z11,z12,z13,z14,zcl,zar,zf,zg⟩:=hB2.auxC;clear hB2 hT2)
   | (go_at_call 113;refine (zek F.g _).mono ?_;rintro e w1 ⟨rfl,hb1⟩;have HB1:=hid (HY1.out.drew.kept hb1);have ycl:=HB1.out.at 72 _ rfl;have yg1:=HB1.out.bx.z)))
  all_goals go_wp2
  all_goals go_end0
  all_goals
   have hf:Mach.fit { G with aux:=beginC (G.lookA 0) (G.lookA 1) }:=Mach.fit.of HB2.out.fit { HB2.out.fit with aux:=zmB _ _ (zco _ _) (zco _ _) } ⟨rfl,rfl,rfl,rfl,rfl⟩ rfl ⟨rfl,rfl,rfl⟩ ⟨rfl,rfl⟩ (Or.inl rfl)
   have hf2:Mach.fit { G with aux:=beginC (G.lookA 0) (G.lookA 1),aready:=G.clock }:=Mach.fit.of hf { hf with main:=hf.main } ⟨rfl,rfl,rfl,rfl,rfl⟩ rfl ⟨rfl,rfl,rfl⟩ ⟨rfl,rfl⟩ (Or.inr rfl)
   have hp:=(HB2.out.puts (M':={ G with aux:=beginC (G.lookA 0) (G.lookA 1) }) (tk':=tk) 15 (cpuL (beginC (G.lookA 0) (G.lookA 1))) (by simp [cpuL]) (F.putAux G tk _) ⟨rfl,rfl,rfl,rfl,rfl⟩ hf).put (M':={ G with aux:=beginC (G.lookA 0) (G.lookA 1),aready:=G.clock }) (tk':=tk) 74 (.int .i64 G.clock) (by omega) rfl ⟨rfl,rfl,rfl,rfl,rfl⟩ hf2
   have ht:=Bt.set HB2.out.nd (Bt.sets HB2.out.nd (cpuL (beginC (G.lookA 0) (G.lookA 1))) 15 _ (Mv.trans HY2.out (Mv.trans (Bt.below HY1.out (stp (st0 Y).drew hb1)) HT2.out))) 74 (.int .i64 G.clock)
   rw [<- ziu] at hp ht
   unfold begL at hp ht
   rw [nest15] at hp ht
   exact ⟨rfl,hp,ht⟩
theorem zlH (h:Bd F W M tk) (n:Int) (hn:0<=n/\n<=255):Calls Tryz.prog 174 #[pt F.g 0,.int .u8 n] W λe w'=>e = .returned (.tuple #[])/\Bd F w' (M.putM 16 n) tk/\Bt F W w':=by
 cases hh:(M.held && !(odd (n/2)))
 ·exact ziP h n hn hh
 ·exact zjJ h n hn hh
end
section
variable {F : Fx} {W : World} {M M' : Mach} {tk : Tk}
theorem two_0 (a b c d e f:Value) (w:World):(Instr.index 29 (.agg #[a,b,c,d,e,f]) (.int .i64 0)).run Tryz.prog w = .ok (.agg #[a,b,c]) w:=by kernel_rfl
theorem two_1 (a b c d e f:Value) (w:World):(Instr.index 29 (.agg #[a,b,c,d,e,f]) (.int .i64 1)).run Tryz.prog w = .ok (.agg #[d,e,f]) w:=by kernel_rfl
theorem Bd.padC (h:Bd F W M tk):W.cell? ⟨F.g,35,none⟩=some (.int .u8 M.p0.d)/\W.cell? ⟨F.g,36,none⟩=some (.bool M.p0.l)/\W.cell? ⟨F.g,37,none⟩=some (.int .u8 M.p0.s)/\W.cell? ⟨F.g,38,none⟩=some (.int .u8 M.p1.d)/\W.cell? ⟨F.g,39,none⟩=some (.bool M.p1.l)/\W.cell? ⟨F.g,40,none⟩=some (.int .u8 M.p1.s)/\(∀ o,W.frozen? ⟨F.g,o,none⟩=false)/\F.g<W.heap.size :=
 ⟨h.at 35 _ rfl,h.at 36 _ rfl,h.at 37 _ rfl,h.at 38 _ rfl,h.at 39 _ rfl,h.at 40 _ rfl,h.bx.f,h.bx.z⟩
theorem zjK (h:Bd F W M tk) (n:Int) (hn:0<=n/\n<=255):Calls Tryz.prog 163 #[pt F.g 0,.int .u8 n] W λe w'=>e = .returned (.tuple #[])/\Bd F w' (M.putM 0 n) tk/\Bt F W w':=by
 have i0:=two_0 (.int .u8 M.p0.d) (.bool M.p0.l) (.int .u8 M.p0.s) (.int .u8 M.p1.d) (.bool M.p1.l) (.int .u8 M.p1.s)
 have i1:=two_1 (.int .u8 M.p0.d) (.bool M.p0.l) (.int .u8 M.p0.s) (.int .u8 M.p1.d) (.bool M.p1.l) (.int .u8 M.p1.s)
 have H:=hid h
 obtain ⟨c0,c1,c2,c3,c4,c5,ff,hg⟩:=h.padC
 clear h
 go_enter Tryz.func163,Tryz.ntmps163
 go_wp2
 go_loopw [11] (λi wr=>Bt F W wr/\((i = .int .i64 0/\Bd F wr M tk) \/ (i = .int .i64 1/\Bd F wr { M with p0:=M.p0.wr n } tk) \/ (i = .int .i64 2/\Bd F wr (M.putM 0 n) tk))) (λi _=>2-(intOf i).toNat)
 case atStart=>exact ⟨Bt.refl _ _,Or.inl ⟨rfl,H.out⟩⟩
 case round =>
  obtain ⟨hT,hrel⟩:=hrel
  have HT:=hid hT
  clear hT c0 c1 c2 c3 c4 c5 ff hg
  rcases hrel with ⟨rfl,hB⟩|⟨rfl,hB⟩|⟨rfl,hB⟩
  ·obtain ⟨c0,c1,c2,c3,c4,c5,ff,hg⟩:=hB.padC
   have HB:=hid hB
   clear hB
   go_wp2
   go_region_with (go_at_call 217;refine (zfA _ _ n _ _ hn).mono ?_;rintro e w1 ⟨rfl,hb1⟩;obtain ⟨x0,x1,x2,x3,x4,x5,xf,xg⟩:=((HB.out.over _).drew.kept hb1).padC)
   all_goals go_wp2
   all_goals
    refine ⟨⟨?_,Or.inr (Or.inl ⟨rfl,?_⟩)⟩,by decide⟩
    ·exact Bt.sets HB.out.nd [.int .u8 M.p0.d,.bool (odd n),.int .u8 (sel (odd n) M.p0.d M.p0.s)] 35 _ (Mv.trans HT.out (Bt.below HB.out (stp (stA (st0 _) _).drew hb1)))
    ·exact ((HB.out.over _).drew.kept hb1).puts (M':={ M with p0:=M.p0.wr n }) (tk':=tk) 35 [.int .u8 M.p0.d,.bool (odd n),.int .u8 (sel (odd n) M.p0.d M.p0.s)] (by simp) rfl ⟨rfl,rfl,rfl,rfl,rfl⟩ { HB.out.fit with main:=HB.out.fit.main,p0:=Pd.wr_ok HB.out.fit.p0 n }
  ·obtain ⟨c0,c1,c2,c3,c4,c5,ff,hg⟩:=hB.padC
   have HB:=hid hB
   clear hB
   go_wp2
   go_region_with (go_at_call 217;refine (zfA _ _ n _ _ hn).mono ?_;rintro e w1 ⟨rfl,hb1⟩;obtain ⟨x0,x1,x2,x3,x4,x5,xf,xg⟩:=((HB.out.over _).drew.kept hb1).padC)
   all_goals go_wp2
   all_goals
    refine ⟨⟨?_,Or.inr (Or.inr ⟨rfl,?_⟩)⟩,by decide⟩
    ·exact Bt.sets HB.out.nd [.int .u8 M.p1.d,.bool (odd n),.int .u8 (sel (odd n) M.p1.d M.p1.s)] 38 _ (Mv.trans HT.out (Bt.below HB.out (stp (stA (st0 _) _).drew hb1)))
    ·exact ((HB.out.over _).drew.kept hb1).puts (M':=M.putM 0 n) (tk':=tk) 38 [.int .u8 M.p1.d,.bool (odd n),.int .u8 (sel (odd n) M.p1.d M.p1.s)] (by simp) rfl ⟨rfl,rfl,rfl,rfl,rfl⟩ (show Mach.fit { M with p0:=M.p0.wr n,p1:=M.p1.wr n } from { HB.out.fit with main:=HB.out.fit.main,p1:=Pd.wr_ok HB.out.fit.p1 n })
  ·have HB:=hid hB
   clear hB
   go_wp2
   go_end0
   exact ⟨rfl,HB.out,HT.out⟩
end
section
variable {F : Fx} {W : World} {M M' : Mach} {tk tk' : Tk}
theorem ne_g (n:Nat) (a b:Array Value) (w:World):(binOp .neq 127 (.func (.func n) a b) .nilFunc).run Tryz.prog w = .ok (.bool true) w:=by kernel_rfl
theorem ne_gn (w:World):(binOp .neq 127 .nilFunc .nilFunc).run Tryz.prog w = .ok (.bool false) w:=by kernel_rfl
theorem zan (vr:Value) (n:Int) (h:Bd F W M tk):Calls Tryz.prog 185 #[.agg #[vr,.nilFunc],.int .u8 n] W λe w'=>e = .returned (.tuple #[])/\Bd F w' M tk/\Bt F W w':=by
 have hn:=ne_gn
 have H:=hid h
 clear h
 go_enter Tryz.func185,Tryz.ntmps185
 go_wp2
 go_end0
 exact ⟨rfl,H.out.over _,Mv.of_below H.out.big (stA (st0 _) _)⟩
theorem zjL (vr:Value) (n:Int) (h:Bd F W M tk) (hc:∀ W,Bd F W M tk->Calls Tryz.prog 163 #[pt F.g 0,.int .u8 n] W λe w'=>e = .returned (.tuple #[])/\Bd F w' M' tk'/\Bt F W w') :
 Calls Tryz.prog 185 #[.agg #[vr,mval 163 F.g 0],.int .u8 n] W λe w'=>e = .returned (.tuple #[])/\Bd F w' M' tk'/\Bt F W w':=by
 have hn:∀ w:World,(binOp .neq 127 (mval 163 F.g 0) .nilFunc).run Tryz.prog w = .ok (.bool true) w:=λw=>ne_g _ _ _ w
 have H:=hid h
 have HC:=hid hc
 clear h hc
 go_enter Tryz.func185,Tryz.ntmps185
 go_wp2_with (go_at_call 163;refine (HC.out _ (H.out.over _)).mono ?_;rintro e w1 ⟨rfl,hB,hT⟩)
 go_end0
 exact ⟨rfl,hB,Mv.trans (Mv.of_below H.out.big (stA (st0 _) _)) hT⟩
theorem zjM (vr:Value) (n:Int) (h:Bd F W M tk) (hc:∀ W,Bd F W M tk->Calls Tryz.prog 167 #[pt F.g 0,.int .u8 n] W λe w'=>e = .returned (.tuple #[])/\Bd F w' M' tk'/\Bt F W w') :
 Calls Tryz.prog 185 #[.agg #[vr,mval 167 F.g 0],.int .u8 n] W λe w'=>e = .returned (.tuple #[])/\Bd F w' M' tk'/\Bt F W w':=by
 have hn:∀ w:World,(binOp .neq 127 (mval 167 F.g 0) .nilFunc).run Tryz.prog w = .ok (.bool true) w:=λw=>ne_g _ _ _ w
 have H:=hid h
 have HC:=hid hc
 clear h hc
 go_enter Tryz.func185,Tryz.ntmps185
 go_wp2_with (go_at_call 167;refine (HC.out _ (H.out.over _)).mono ?_;rintro e w1 ⟨rfl,hB,hT⟩)
 go_end0
 exact ⟨rfl,hB,Mv.trans (Mv.of_below H.out.big (stA (st0 _) _)) hT⟩
theorem zjN (vr:Value) (n:Int) (h:Bd F W M tk) (hc:∀ W,Bd F W M tk->Calls Tryz.prog 171 #[pt F.g 0,.int .u8 n] W λe w'=>e = .returned (.tuple #[])/\Bd F w' M' tk'/\Bt F W w') :
 Calls Tryz.prog 185 #[.agg #[vr,mval 171 F.g 0],.int .u8 n] W λe w'=>e = .returned (.tuple #[])/\Bd F w' M' tk'/\Bt F W w':=by
 have hn:∀ w:World,(binOp .neq 127 (mval 171 F.g 0) .nilFunc).run Tryz.prog w = .ok (.bool true) w:=λw=>ne_g _ _ _ w
 have H:=hid h
 have HC:=hid hc
 clear h hc
 go_enter Tryz.func185,Tryz.ntmps185
 go_wp2_with (go_at_call 171;refine (HC.out _ (H.out.over _)).mono ?_;rintro e w1 ⟨rfl,hB,hT⟩)
 go_end0
 exact ⟨rfl,hB,Mv.trans (Mv.of_below H.out.big (stA (st0 _) _)) hT⟩
theorem zjO (vr:Value) (n:Int) (h:Bd F W M tk) (hc:∀ W,Bd F W M tk->Calls Tryz.prog 172 #[pt F.g 0,.int .u8 n] W λe w'=>e = .returned (.tuple #[])/\Bd F w' M' tk'/\Bt F W w') :
 Calls Tryz.prog 185 #[.agg #[vr,mval 172 F.g 0],.int .u8 n] W λe w'=>e = .returned (.tuple #[])/\Bd F w' M' tk'/\Bt F W w':=by
 have hn:∀ w:World,(binOp .neq 127 (mval 172 F.g 0) .nilFunc).run Tryz.prog w = .ok (.bool true) w:=λw=>ne_g _ _ _ w
 have H:=hid h
 have HC:=hid hc
 clear h hc
 go_enter Tryz.func185,Tryz.ntmps185
 go_wp2_with (go_at_call 172;refine (HC.out _ (H.out.over _)).mono ?_;rintro e w1 ⟨rfl,hB,hT⟩)
 go_end0
 exact ⟨rfl,hB,Mv.trans (Mv.of_below H.out.big (stA (st0 _) _)) hT⟩
theorem zjP (vr:Value) (n:Int) (h:Bd F W M tk) (hc:∀ W,Bd F W M tk->Calls Tryz.prog 174 #[pt F.g 0,.int .u8 n] W λe w'=>e = .returned (.tuple #[])/\Bd F w' M' tk'/\Bt F W w') :
 Calls Tryz.prog 185 #[.agg #[vr,mval 174 F.g 0],.int .u8 n] W λe w'=>e = .returned (.tuple #[])/\Bd F w' M' tk'/\Bt F W w':=by
 have hn:∀ w:World,(binOp .neq 127 (mval 174 F.g 0) .nilFunc).run Tryz.prog w = .ok (.bool true) w:=λw=>ne_g _ _ _ w
 have H:=hid h
 have HC:=hid hc
 clear h hc
 go_enter Tryz.func185,Tryz.ntmps185
 go_wp2_with (go_at_call 174;refine (HC.out _ (H.out.over _)).mono ?_;rintro e w1 ⟨rfl,hB,hT⟩)
 go_end0
 exact ⟨rfl,hB,Mv.trans (Mv.of_below H.out.big (stA (st0 _) _)) hT⟩
theorem zjQ (vr:Value) (n:Int) (h:Bd F W M tk) (hc:∀ W,Bd F W M tk->Calls Tryz.prog 176 #[pt F.g 0,.int .u8 n] W λe w'=>e = .returned (.tuple #[])/\Bd F w' M' tk'/\Bt F W w') :
 Calls Tryz.prog 185 #[.agg #[vr,mval 176 F.g 0],.int .u8 n] W λe w'=>e = .returned (.tuple #[])/\Bd F w' M' tk'/\Bt F W w':=by
 have hn:∀ w:World,(binOp .neq 127 (mval 176 F.g 0) .nilFunc).run Tryz.prog w = .ok (.bool true) w:=λw=>ne_g _ _ _ w
 have H:=hid h
 have HC:=hid hc
 clear h hc
 go_enter Tryz.func185,Tryz.ntmps185
 go_wp2_with (go_at_call 176;refine (HC.out _ (H.out.over _)).mono ?_;rintro e w1 ⟨rfl,hB,hT⟩)
 go_end0
 exact ⟨rfl,hB,Mv.trans (Mv.of_below H.out.big (stA (st0 _) _)) hT⟩
theorem zdt (vr:Value) (n:Int) (q:Nat) (h:Bd F W M tk) (hc:∀ W,Bd F W M tk->Calls Tryz.prog 218 #[.int .u8 n,pt q 0] W λe w'=>e = .returned (.tuple #[])/\Bd F w' M' tk'/\Bt F W w') :
 Calls Tryz.prog 185 #[.agg #[vr,fval 218 #[pt q 0]],.int .u8 n] W λe w'=>e = .returned (.tuple #[])/\Bd F w' M' tk'/\Bt F W w':=by
 have hn:∀ w:World,(binOp .neq 127 (fval 218 #[pt q 0]) .nilFunc).run Tryz.prog w = .ok (.bool true) w:=λw=>ne_g _ _ _ w
 have H:=hid h
 have HC:=hid hc
 clear h hc
 go_enter Tryz.func185,Tryz.ntmps185
 go_wp2_with (go_at_call 218;refine (HC.out _ (H.out.over _)).mono ?_;rintro e w1 ⟨rfl,hB,hT⟩)
 go_end0
 exact ⟨rfl,hB,Mv.trans (Mv.of_below H.out.big (stA (st0 _) _)) hT⟩
theorem zdu (vr:Value) (n:Int) (q:Nat) (h:Bd F W M tk) (hc:∀ W,Bd F W M tk->Calls Tryz.prog 219 #[.int .u8 n,pt q 0] W λe w'=>e = .returned (.tuple #[])/\Bd F w' M' tk'/\Bt F W w') :
 Calls Tryz.prog 185 #[.agg #[vr,fval 219 #[pt q 0]],.int .u8 n] W λe w'=>e = .returned (.tuple #[])/\Bd F w' M' tk'/\Bt F W w':=by
 have hn:∀ w:World,(binOp .neq 127 (fval 219 #[pt q 0]) .nilFunc).run Tryz.prog w = .ok (.bool true) w:=λw=>ne_g _ _ _ w
 have H:=hid h
 have HC:=hid hc
 clear h hc
 go_enter Tryz.func185,Tryz.ntmps185
 go_wp2_with (go_at_call 219;refine (HC.out _ (H.out.over _)).mono ?_;rintro e w1 ⟨rfl,hB,hT⟩)
 go_end0
 exact ⟨rfl,hB,Mv.trans (Mv.of_below H.out.big (stA (st0 _) _)) hT⟩
theorem zjR (vr:Value) (n:Int) (q:Nat) (h:Bd F W M tk) (hc:∀ W,Bd F W M tk->Calls Tryz.prog 178 #[.int .u8 n,pt q 0] W λe w'=>e = .returned (.tuple #[])/\Bd F w' M' tk'/\Bt F W w') :
 Calls Tryz.prog 185 #[.agg #[vr,fval 178 #[pt q 0]],.int .u8 n] W λe w'=>e = .returned (.tuple #[])/\Bd F w' M' tk'/\Bt F W w':=by
 have hn:∀ w:World,(binOp .neq 127 (fval 178 #[pt q 0]) .nilFunc).run Tryz.prog w = .ok (.bool true) w:=λw=>ne_g _ _ _ w
 have H:=hid h
 have HC:=hid hc
 clear h hc
 go_enter Tryz.func185,Tryz.ntmps185
 go_wp2_with (go_at_call 178;refine (HC.out _ (H.out.over _)).mono ?_;rintro e w1 ⟨rfl,hB,hT⟩)
 go_end0
 exact ⟨rfl,hB,Mv.trans (Mv.of_below H.out.big (stA (st0 _) _)) hT⟩
theorem zjS (vr:Value) (n:Int) (q v:Nat) {l:List Wt} (h:Bd F W M tk) (hc:∀ W,Bd F W M tk->Calls Tryz.prog 222 #[.int .u8 n,pt q 0,pt v 0] W λe w'=>e = .returned (.tuple #[])/\EndA F W w' M' tk l) :
 Calls Tryz.prog 185 #[.agg #[vr,fval 222 #[pt q 0,pt v 0]],.int .u8 n] W λe w'=>e = .returned (.tuple #[])/\EndA F W w' M' tk l:=by
 have hn:∀ w:World,(binOp .neq 127 (fval 222 #[pt q 0,pt v 0]) .nilFunc).run Tryz.prog w = .ok (.bool true) w:=λw=>ne_g _ _ _ w
 have H:=hid h
 have HC:=hid hc
 clear h hc
 go_enter Tryz.func185,Tryz.ntmps185
 go_wp2_with (go_at_call 222;refine (HC.out _ (H.out.over _)).mono ?_;rintro e w1 ⟨rfl,hB⟩)
 go_end0
 exact ⟨rfl,hB.1,(Bw.of_below H.out.big (stA (st0 _) _)).trans hB.2⟩
theorem zb1 {k:Nat} {n:Int} (h:M.fit) (hn:0<=n/\n<=255) (hk:k=2 \/ k=3 \/ k=10 \/ k=11 \/ k=12 \/ k=13):(M.putM k n).fit:=by
 rcases hk with rfl|rfl|rfl|rfl|rfl|rfl
 ·exact (show Mach.fit { M with t:={ M.t with r:=hiB M.t.r n } } from { h with tr:=zin h.tr hn,tc:=h.tc,main:=h.main })
 ·exact (show Mach.fit { M with t:={ M.t with r:=loB M.t.r n } } from { h with tr:=zio h.tr hn,tc:=h.tc,main:=h.main })
 ·exact (show Mach.fit { M with fr:=hiB M.fr n } from { h with fr:=zin h.fr hn,main:=h.main })
 ·exact (show Mach.fit { M with fr:=loB M.fr n } from { h with fr:=zio h.fr hn,main:=h.main })
 ·exact Mach.fit.of h ⟨h.main,h.aux,h.p0,h.p1,h.tr,h.tc,h.s,h.fr,zin h.to hn,h.m0,h.m1⟩ ⟨rfl,rfl,rfl,rfl,rfl⟩ rfl ⟨rfl,rfl,rfl⟩ ⟨rfl,rfl⟩ (Or.inl rfl)
 ·exact Mach.fit.of h ⟨h.main,h.aux,h.p0,h.p1,h.tr,h.tc,h.s,h.fr,zio h.to hn,h.m0,h.m1⟩ ⟨rfl,rfl,rfl,rfl,rfl⟩ rfl ⟨rfl,rfl,rfl⟩ ⟨rfl,rfl⟩ (Or.inl rfl)
theorem zlI (i:Nat) (n:Int) (h:i≠14):tk.add (takes i n)=tk:=by unfold takes;rw [if_neg h,Tk.add_zero]
theorem zlJ (n:Int) (hn:0<=n/\n<=255) (htk:0<=tk.n/\tk.n<=1000000000000) (i:Nat) (hi:i<32):PutM F M tk i n:=by
 intro W h
 by_cases e14:i=14
 ·subst e14
  rw [show tk.add (takes 14 n)=tk.add (2*n) from rfl]
  exact zjO _ _ h (λW h=>ziR h n hn htk)
 rw [zlI i n e14]
 have hc:i=0 \/ i=1 \/ i=2 \/ i=3 \/ i=4 \/ i=5 \/ i=6 \/ i=7 \/ i=8 \/ i=9 \/ i=10 \/ i=11 \/ i=12 \/ i=13 \/ i=15 \/ i=16 \/ i=17 \/ i=18 \/ i=19 \/ i=20 \/ i=21 \/ i=22 \/ i=23 \/ i=24 \/ i=25 \/ i=26 \/ i=27 \/ i=28 \/ i=29 \/ i=30 \/ i=31:=by omega
 clear e14 hi
 rcases hc with rfl|rfl|rfl|rfl|rfl|rfl|rfl|rfl|rfl|rfl|rfl|rfl|rfl|rfl|rfl|rfl|rfl|rfl|rfl|rfl|rfl|rfl|rfl|rfl|rfl|rfl|rfl|rfl|rfl|rfl|rfl
 ·exact zjL _ _ h (λW h=>zjK h n hn)
 ·exact zan _ _ h
 ·exact zdt _ _ _ h (λW h=>zdi h _ 41 M.t.r n .h2 rfl h.fit.tr hn (by omega) rfl ⟨rfl,rfl,rfl,rfl,rfl⟩ (zb1 h.fit hn (by omega)))
 ·exact zdu _ _ _ h (λW h=>ze3 h _ 41 M.t.r n .h3 rfl h.fit.tr hn (by omega) rfl ⟨rfl,rfl,rfl,rfl,rfl⟩ (zb1 h.fit hn (by omega)))
 ·exact zjM _ _ h (λW h=>zhA h n hn)
 ·exact zan _ _ h
 ·exact zan _ _ h
 ·exact zan _ _ h
 ·exact zjN _ _ h (λW h=>zip h n)
 ·exact zan _ _ h
 ·exact zdt _ _ _ h (λW h=>zdi h _ 65 M.fr n .h10 rfl h.fit.fr hn (by omega) rfl ⟨rfl,rfl,rfl,rfl,rfl⟩ (zb1 h.fit hn (by omega)))
 ·exact zdu _ _ _ h (λW h=>ze3 h _ 65 M.fr n .h11 rfl h.fit.fr hn (by omega) rfl ⟨rfl,rfl,rfl,rfl,rfl⟩ (zb1 h.fit hn (by omega)))
 ·exact zdt _ _ _ h (λW h=>zdi h _ 66 M.to n .h12 rfl h.fit.to hn (by omega) rfl ⟨rfl,rfl,rfl,rfl,rfl⟩ (zb1 h.fit hn (by omega)))
 ·exact zdu _ _ _ h (λW h=>ze3 h _ 66 M.to n .h13 rfl h.fit.to hn (by omega) rfl ⟨rfl,rfl,rfl,rfl,rfl⟩ (zb1 h.fit hn (by omega)))
 ·exact zan _ _ h
 ·exact zjP _ _ h (λW h=>zlH h n hn)
 ·exact zjQ _ _ h (λW h=>ziq h n hn)
 ·exact zan _ _ h
 ·exact zan _ _ h
 ·exact zan _ _ h
 ·exact zan _ _ h
 ·exact zan _ _ h
 ·exact zan _ _ h
 ·exact zan _ _ h
 ·exact zan _ _ h
 ·exact zan _ _ h
 ·exact zan _ _ h
 ·exact zan _ _ h
 ·exact zan _ _ h
 ·exact zan _ _ h
 ·exact zan _ _ h
theorem endC {e:Ending} {w':World} (h:e = .returned (.tuple #[])/\Bd F w' M' tk/\Bt F W w') {l:List Wt} (hl:l=[]):e = .returned (.tuple #[])/\(∃ v,Bd F w' M' (tk.app l v))/\Bw F W w':=⟨h.1,endA h.2.1 hl h.2.2⟩
theorem zlK (n:Int) (hn:0<=n/\n<=255) (hl:tk.l.length<=1000000000) (i:Nat) (hi:i<32):PutA F M tk i n:=by
 intro W h
 unfold Fx.wrA Mach.putA shown
 by_cases e:i<24
 ·rw [if_pos e,if_pos e,if_pos e]
  exact zjS _ _ _ _ h (λW h=>zhn h i e n hn hl)
 ·rw [if_neg e,if_neg e,if_neg e]
  by_cases e2:i=24
  ·rw [if_pos e2,if_pos e2]
   exact (zjR _ _ _ h (λW h=>zir h n hn)).mono (λ_ _ hx=>endC hx rfl)
  ·rw [if_neg e2,if_neg e2]
   exact (zan _ _ h).mono (λ_ _ hx=>endC hx rfl)
end
section
variable {F : Fx} {W : World} {M : Mach} {tk : Tk}
theorem zhR (h:Bd F W M tk) (a n:Int) (ha:0<=a/\a<=65535) (hn:0<=n/\n<=255) (hp:∀ i,i<32->PutA F M tk i n) :
 Calls Tryz.prog 93 #[pt F.g 143,.int .u16 a,.int .u8 n] W λe w'=>e = .returned (.tuple #[])/\EndA F W w' (M.wrA a n) tk (M.shA a n):=by
 unfold Mach.wrA Mach.shA
 cases hP:isPort a
 ·have hm:=hid (zgT h a ha)
  have e77:=h.at2 1 (mval 89 F.g 0) rfl
  have hP':=hid hP
  have H:=hid h
  have hg:=h.bx.z
  clear h hP hp
  simp only [Bool.false_eq_true,if_false]
  unfold Mach.memA
  unfold Fx.memA at hm
  by_cases h1:a<32768
  ·rw [if_pos h1]
   rw [if_pos h1] at hm
   go_enter Tryz.func93,Tryz.ntmps93
   go_wp2_with (first
    | (go_at_call 182;refine (zal a _ ha).mono ?_;rw [hP'.out];rintro e w1 ⟨rfl,rfl⟩)
    | (go_at_call 89;refine hm.out.mono ?_;rintro e w1 ⟨rfl,rfl⟩))
   go_end0
   exact ⟨rfl,endA H.out rfl (Bt.refl _ _)⟩
  ·rw [if_neg h1]
   rw [if_neg h1] at hm
   by_cases h2:a<49152
   ·rw [if_pos h2]
    rw [if_pos h2] at hm
    obtain ⟨ec,ez,ef⟩:=H.out.ownAt ((a-32768)%64) (by omega) (by omega)
    go_enter Tryz.func93,Tryz.ntmps93
    go_wp2_with (first
     | (go_at_call 182;refine (zal a _ ha).mono ?_;rw [hP'.out];rintro e w1 ⟨rfl,rfl⟩)
     | (go_at_call 89;refine hm.out.mono ?_;rintro e w1 ⟨rfl,rfl⟩))
    go_end0
    exact ⟨rfl,endA (H.out.putOwn _ n (by omega) (by omega) hn) rfl ((Bt.refl _ _).setO H.out.nd _ _)⟩
   ·rw [if_neg h2]
    rw [if_neg h2] at hm
    by_cases h3:a<53248
    ·rw [if_pos h3]
     rw [if_pos h3] at hm
     obtain ⟨ec,ez,ef⟩:=H.out.ramAt ((a-49152)%128) (by omega) (by omega)
     cases hgr:M.granted
     ·rw [hgr] at hm
      go_enter Tryz.func93,Tryz.ntmps93
      go_wp2_with (first
       | (go_at_call 182;refine (zal a _ ha).mono ?_;rw [hP'.out];rintro e w1 ⟨rfl,rfl⟩)
       | (go_at_call 89;refine hm.out.mono ?_;rintro e w1 ⟨rfl,rfl⟩))
      go_end0
      exact ⟨rfl,endA H.out rfl (Bt.refl _ _)⟩
     ·rw [hgr] at hm
      go_enter Tryz.func93,Tryz.ntmps93
      go_wp2_with (first
       | (go_at_call 182;refine (zal a _ ha).mono ?_;rw [hP'.out];rintro e w1 ⟨rfl,rfl⟩)
       | (go_at_call 89;refine hm.out.mono ?_;rintro e w1 ⟨rfl,rfl⟩))
      go_end0
      have hX:=H.out.putRam ((a-49152)%128) n (by omega) (by omega) hn
      rw [hgr] at hX
      exact ⟨rfl,endA hX rfl ((Bt.refl _ _).setR H.out.nd _ _)⟩
    ·rw [if_neg h3]
     rw [if_neg h3] at hm
     go_enter Tryz.func93,Tryz.ntmps93
     go_wp2_with (first
      | (go_at_call 182;refine (zal a _ ha).mono ?_;rw [hP'.out];rintro e w1 ⟨rfl,rfl⟩)
      | (go_at_call 89;refine hm.out.mono ?_;rintro e w1 ⟨rfl,rfl⟩))
     go_end0
     exact ⟨rfl,endA H.out rfl (Bt.refl _ _)⟩
 ·obtain ⟨k,hk⟩:∃ k:Nat,a%32=k:=⟨(a%32).toNat,by omega⟩
  have hk2:k<32:=by omega
  have hm:Int.tmod a 32=k:=by rw [Int.tmod_eq_emod_of_nonneg ha.1,hk]
  have hq:=hid (hp k hk2 W h)
  have hP':=hid hP
  have e0:portNo a=k:=by unfold portNo;omega
  simp only [if_true]
  rw [e0]
  obtain ⟨c0,c1⟩:=h.pA k hk2
  have hg:=h.bx.z
  have hk3:(k:Int)<32:=by omega
  clear h hP hp e0
  generalize F.rdA k=vr at *
  generalize F.wrA k=vw at *
  go_enter Tryz.func93,Tryz.ntmps93
  go_wp2_with (first
   | (go_at_call 182;refine (zal a _ ha).mono ?_;rw [hP'.out];rintro e w1 ⟨rfl,rfl⟩)
   | (go_at_call 185;refine hq.out.mono ?_;rintro e w1 ⟨rfl,hB1⟩))
  go_end0
  exact ⟨rfl,hB1⟩
end
end Go.Proofs.YtbennamieealbaaGreatDoor
