/-
  Parts of a proof, joined.
-/
import Derived.Test.YthghjlinhokimaaGreatDoorZcA
import Derived.Test.YthghjlinhokimaaGreatDoorZc10
set_option linter.all false
set_option maxRecDepth 100000
set_option maxHeartbeats 1600000
namespace Go.Proofs.YthghjlinhokimaaGreatDoor
open Go.ChangeShapes Go.WideShapes Go.ChangeAt Go.RowKit Go.Proofs.Tryz
section
variable {F : Fx} {W : World} {M M' : Mach} {tk : Tk}
theorem Pd.next_ok{p:Pd}(h:p.ok):p.next.ok:=by
 obtain⟨a,b⟩:=h;refine⟨a,?_⟩;unfold Pd.next;refine zlD (P:=λx=>0<=x/\x<=255) p.l b ?_;omega
theorem Pd.wr_ok{p:Pd}(h:p.ok)(x:Int):(p.wr x).ok:=by
 obtain⟨a,b⟩:=h;refine⟨a,?_⟩;unfold Pd.wr;exact zlD (P:=λx=>0<=x/\x<=255) _ a b
theorem zu6{W w1:World}{o:Obj}(hb:Below ((W.alloc o).drew).heap.size (W.alloc o).drew w1):W.heap.size<w1.heap.size:=ap (by simp) hb.size
theorem pB{W w0 w1:World}{g:Nat}(a:g<W.heap.size)(hb:Below w0.heap.size w0 w1)(h:W.heap.size<=w0.heap.size):g<w1.heap.size:=ap a (ax h hb.size)
structure PdC (F : Fx) (W : World) (M : Mach) (tk : Tk) (b : Nat) (p : Pd) (wx : World) : Prop where
 bd:Bd F wx M tk
 bt:Bt F W wx
 bx:Bx wx b [.int .u8 p.d,.bool p.l,.int .u8 p.s]
 ne:b≠F.g
theorem PdC.mkA{w1:World}{p:Pd}(h:Bd F W M tk)(hb:Below W.drew.heap.size W.drew w1):PdC F W M tk w1.heap.size p (w1.alloc (.cells #[.int .u8 p.d,.bool p.l,.int .u8 p.s] 28)):=by
 have hB:Below W.heap.size W w1:=bn (J W).drew hb;have a:=ap h.bx.z hB.size;exact⟨(h.kept hB).over _,Bt.kept (Bt.refl F W) h.big (stA hB _),Bx.new w1 [.int .u8 p.d,.bool p.l,.int .u8 p.s] _ U,by omega⟩
theorem PdC.mkB{w1:World}{p:Pd}(h:Bd F W M tk){x y z:Value}(hb:Below ((W.alloc (.cells #[x,y,z] 28)).drew).heap.size (W.alloc (.cells #[x,y,z] 28)).drew w1):PdC F W M tk W.heap.size p (((w1.setCell ⟨W.heap.size,0,none⟩ (.int .u8 p.d)).setCell ⟨W.heap.size,1,none⟩ (.bool p.l)).setCell ⟨W.heap.size,2,none⟩ (.int .u8 p.s)):=by
 have hB:Below W.heap.size W w1:=bn (stA (J W) _).drew hb;have a:Below W.heap.size W (((w1.setCell ⟨W.heap.size,0,none⟩ (.int .u8 p.d)).setCell ⟨W.heap.size,1,none⟩ (.bool p.l)).setCell ⟨W.heap.size,2,none⟩ (.int .u8 p.s)):=((hB.setCell (ak _) _).setCell (ak _) _).setCell (ak _) _;have b:=((Bx.new W [x,y,z] 28 U).drew.kept hb).puts 0 [.int .u8 p.d,.bool p.l,.int .u8 p.s] (by simp);have:=h.bx.z;exact⟨h.kept a,Bt.kept (Bt.refl F W) h.big a,b,by omega⟩
theorem PdC.all{a:World}{b:Nat}{p:Pd}(h:PdC F W M tk b p a):a.cell? ⟨b,0,none⟩=some (.int .u8 p.d)/\a.cell? ⟨b,1,none⟩=some (.bool p.l)/\a.cell? ⟨b,2,none⟩=some (.int .u8 p.s):=⟨h.bx.at 0 _ rfl,h.bx.at 1 _ rfl,h.bx.at 2 _ rfl⟩
theorem zq0(h:Bd F W M tk):Calls prog 239 #[pt F.E.q0 0,pt F.E.w0 0] W λe w'=>e=.returned (.int .u8 (M.portM 0).1)/\Bd F w' (M.portM 0).2 tk/\Bt F W w':=by
 have c0:=h.at 35 (.int .u8 M.p0.d) U;have c1:=h.at 36 (.bool M.p0.l) U;have c2:=h.at 37 (.int .u8 M.p0.s) U;have j:=h.bx.z;obtain⟨k,e1⟩:=h.env _ _ .q0;obtain⟨m,e2⟩:=h.env _ _ .w0;have hp:=h.fit.p0;have H:=hid h;clear h;go_enter func239,ntmps239;go_upto_region 1 with fail
 go_cut [0,1,3,4] (λv0 n v3 v4 o=>v0=pt F.E.q0 0/\n=pt F.E.w0 0/\v3=.int .u8 M.p0.rd /\ ∃ b,v4=pt b 0/\PdC F W M tk b M.p0.next o)
 case first =>
  go_region_with (go_at_call 240;refine(znm _ _ _ _ hp.d hp.s).mono ?_;rintro e w1 ⟨rfl,a⟩;obtain⟨q,f1⟩:=bQ a;try (have r:=zu6 a);have z2:F.g<w1.heap.size:=pB j a (by simp))
  all_goals (go_wp2_with fail;go_meet)
  all_goals refine⟨U,U,U,_,U,?_⟩
  all_goals first
   | exact PdC.mkB H.out a
   | exact PdC.mkA H.out a
 case rest =>
  obtain⟨rfl,rfl,rfl,b,rfl,c⟩:=hcut;obtain⟨t,d1,d2⟩:=c.all;have c0:=c.bd.at 35 (.int .u8 M.p0.d) U;have c1:=c.bd.at 36 (.bool M.p0.l) U;have c2:=c.bd.at 37 (.int .u8 M.p0.s) U;have f0:=c.bd.bx.f;have j:=c.bd.bx.z;have p:=c.bx.z;obtain⟨k,e1⟩:=c.bd.env _ _ .q0;obtain⟨m,e2⟩:=c.bd.env _ _ .w0;have i:=hid c;clear c;go_wp2;go_region_with fail
  all_goals go_wp2
  all_goals go_ret
  all_goals
   refine⟨U,?_,?_⟩
   ·exact i.out.bd.drew.puts (M':={ M with p0:=M.p0.next }) (tk':=tk) 35 [.int .u8 M.p0.next.d,.bool M.p0.next.l,.int .u8 M.p0.next.s] (by simp) U ⟨U,U,U,U,U⟩ { i.out.bd.fit with main:=i.out.bd.fit.main,p0:=Pd.next_ok i.out.bd.fit.p0 }
   ·exact Bt.sets i.out.bd.nd [.int .u8 M.p0.next.d,.bool M.p0.next.l,.int .u8 M.p0.next.s] 35 _ i.out.bt.drew
end
section
variable {F : Fx} {W : World} {M M' : Mach} {tk : Tk}
theorem zq1(h:Bd F W M tk):Calls prog 239 #[pt F.E.q1 0,pt F.E.w1 0] W λe w'=>e=.returned (.int .u8 (M.portM 1).1)/\Bd F w' (M.portM 1).2 tk/\Bt F W w':=by
 have c0:=h.at 38 (.int .u8 M.p1.d) U;have c1:=h.at 39 (.bool M.p1.l) U;have c2:=h.at 40 (.int .u8 M.p1.s) U;have j:=h.bx.z;obtain⟨k,e1⟩:=h.env _ _ .q1;obtain⟨m,e2⟩:=h.env _ _ .w1;have hp:=h.fit.p1;have H:=hid h;clear h;go_enter func239,ntmps239;go_upto_region 1 with fail
 go_cut [0,1,3,4] (λv0 n v3 v4 o=>v0=pt F.E.q1 0/\n=pt F.E.w1 0/\v3=.int .u8 M.p1.rd /\ ∃ b,v4=pt b 0/\PdC F W M tk b M.p1.next o)
 case first =>
  go_region_with (go_at_call 240;refine(znm _ _ _ _ hp.d hp.s).mono ?_;rintro e w1 ⟨rfl,a⟩;obtain⟨q,f1⟩:=bQ a;try (have r:=zu6 a);have z2:F.g<w1.heap.size:=pB j a (by simp))
  all_goals (go_wp2_with fail;go_meet)
  all_goals refine⟨U,U,U,_,U,?_⟩
  all_goals first
   | exact PdC.mkB H.out a
   | exact PdC.mkA H.out a
 case rest =>
  obtain⟨rfl,rfl,rfl,b,rfl,c⟩:=hcut;obtain⟨t,d1,d2⟩:=c.all;have c0:=c.bd.at 38 (.int .u8 M.p1.d) U;have c1:=c.bd.at 39 (.bool M.p1.l) U;have c2:=c.bd.at 40 (.int .u8 M.p1.s) U;have f0:=c.bd.bx.f;have j:=c.bd.bx.z;have p:=c.bx.z;obtain⟨k,e1⟩:=c.bd.env _ _ .q1;obtain⟨m,e2⟩:=c.bd.env _ _ .w1;have i:=hid c;clear c;go_wp2;go_region_with fail
  all_goals go_wp2
  all_goals go_ret
  all_goals
   refine⟨U,?_,?_⟩
   ·exact i.out.bd.drew.puts (M':={ M with p1:=M.p1.next }) (tk':=tk) 38 [.int .u8 M.p1.next.d,.bool M.p1.next.l,.int .u8 M.p1.next.s] (by simp) U ⟨U,U,U,U,U⟩ { i.out.bd.fit with main:=i.out.bd.fit.main,p1:=Pd.next_ok i.out.bd.fit.p1 }
   ·exact Bt.sets i.out.bd.nd [.int .u8 M.p1.next.d,.bool M.p1.next.l,.int .u8 M.p1.next.s] 38 _ i.out.bt.drew
end
end Go.Proofs.YthghjlinhokimaaGreatDoor
