/-
  Parts of a proof, joined.
-/
import Derived.Test.YtbennamieealbaaGreatDoorZc07
import Derived.Test.YtbennamieealbaaGreatDoorZc21
import Derived.Test.YtbennamieealbaaGreatDoorZc22
import Derived.Test.YtbennamieealbaaGreatDoorZc17
import Derived.Deep.RegionHeld3
import Derived.Test.YtbennamieealbaaGreatDoorZc12
import Derived.Test.YtbennamieealbaaGreatDoorZc16
import Derived.Test.YtbennamieealbaaGreatDoorZc20
set_option linter.unusedVariables false
set_option maxRecDepth 100000
set_option maxHeartbeats 1600000
namespace Go.Proofs.YtbennamieealbaaGreatDoor
open Go.ChangeShapes Go.WideShapes Go.ChangeAt Go.RowKit
theorem zgq {P:Program} {ops:Array Oper} {rest:List Oper} {op:Oper} {a:Act} {w:World} {Q:Exit->Act->World->Prop} (hgd:op.guard=none) (t:TypeId) (i:Nat) (x:Operand) (ho:op.op = .build t #[(i,x)]) (xv v:Value) (hx:a.eval x=xv)
 (hrun:(Instr.build t #[(i,xv)]).run P w = .ok v w) (h:wpList P ops Q rest (a.put op.dst v) w):wpList P ops Q (op::rest) a w :=
 wpList_build hgd t _ ho v (by simp only [List.map_toArray,List.map_cons,List.map_nil,hx];exact hrun) h
theorem zbU {P:Program} {a:Act} {o:Oper} {w:World} (t:TypeId) (i j k:Nat) (x y z:Operand) (ho:o.op = .build t #[(i,x),(j,y),(k,z)]) (xv yv zv v:Value) (hx:a.eval x=xv) (hy:a.eval y=yv) (hz:a.eval z=zv)
 (hrun:(Instr.build t #[(i,xv),(j,yv),(k,zv)]).run P w = .ok v w):(execOp a.eval o).run P w = .ok (.value v) w :=
 zfc t _ ho v (by simp only [List.map_toArray,List.map_cons,List.map_nil,hx,hy,hz];exact hrun)
theorem zr7 (g n:Nat) (w:World):(Instr.build 132 #[(0,pt g 30),(1,mval 87 g 0),(2,.agg (portsN (fxE g (mE n)).rdM (fxE g (mE n)).wrM 32).toArray)]).run Tryz.prog w = .ok (.agg (sM g n).toArray) w:=by kernel_rfl
theorem zr8 (g a:Nat) (w:World):(Instr.build 132 #[(0,pt g 31),(1,mval 89 g 0),(2,.agg (apL a g 24).toArray)]).run Tryz.prog w = .ok (.agg (sA g a).toArray) w:=by kernel_rfl
theorem zaS {P:Program} {md:Region.Mode} {ops:Array Oper} {Q:Exit->Act->World->Prop} {S:World->Prop} {fuel:Nat} {listed:Array Bool} {a:Act} {w:World} {i:Nat} {op:Oper} (hr:Region.ready md ops listed=[i]) (hi:ops[i]? = some op) (hgd:op.guard=none) (ty:TypeId) (x y:Operand) (ho:op.op = .store ty x y)
 (b o:Nat) (cells:Array Value) (hx:a.eval x = .pointer (some ⟨b,o,none⟩)) (hy:a.eval y = .agg cells) (ht:w.there b o cells.size) (hn:(P.info? ty).map (·.size)=some cells.size) (h1:cells.all (·.oneCell')=true) (hS:S (w.setCells b o cells.toList))
 (h:wpAnyH P md ops Q S fuel (listed.setIfInBounds i true) (a.put op.dst undef) (w.setCells b o cells.toList)):wpAnyH P md ops Q S (fuel+1) listed a w :=
 wpAnyH_ready hr (by simp) (AllReadyH.cons hi (λK hK=>zao hgd ty x y ho b o cells hx hy ht hn h1 (hK.out _ _ hS (λ_=>h))) AllReadyH.nil)
theorem sM_sz (g n:Nat):(sM g n).toArray.size=66:=by rw [List.size_toArray,zfd]
theorem sA_sz (g n:Nat):(sA g n).toArray.size=66:=by rw [List.size_toArray,zjf]
theorem zoB {M:Mach} (hf:M.fit):∀ j,j<5->(M.byt j).length<=1024:=λj hj=>by
 rcases five hj with rfl|rfl|rfl|rfl|rfl
 ·exact hf.mrom
 ·exact hf.arom
 ·show M.ram.length<=1024;rw [hf.ram];omega
 ·show M.own.length<=1024;rw [hf.own];omega
 ·show M.video.length<=1024;rw [hf.video];omega
theorem ziv (M:Mach) (S:Sl) (w:World) (hS:S.lens M) (hz:∀ j,j<5->(M.byt j).length<=9223372036854775807) (hc:M.chk≠0) :
 Calls Tryz.prog 51 #[.agg (machL M S).toArray] w λe w'=>e = .returned (.tuple #[.pointer none,.int .i64 M.chk])/\Below w.heap.size w w':=by
 have hB:=Bx.new w (machL M S) 41 (b:=w.heap.size) rfl
 have HB:=hid hB
 have HSL:=hid hS
 have HZ:=hid hz
 have hne:(M.chk == 0)=false:=by simpa using hc
 clear hB hS hz hc
 generalize hcc:M.chk=c at *
 have HCC:=hid hcc
 clear hcc
 go_enter Tryz.func51,Tryz.ntmps51
 go_wp2_with (first
  | (refine wpList_load_mid rfl 41 _ rfl w.heap.size 0 rfl (machL M S) _ HB.out.c Tryz.underlying41 rfl zaa ?_)
  | (go_at_call 8;refine (za6 M S _ HSL.out HZ.out).mono ?_;rw [HCC.out];rintro e w1 ⟨rfl,hb1⟩;have HL1:=hid (stp (stA (st0 w) (.cells (machL M S).toArray 41)) hb1)))
 go_ret2
 exact ⟨rfl,HL1.out⟩
theorem one66 {v0 v1:Value} {L:List Value} (h0:v0.oneCell'=true) (h1:v1.oneCell'=true) (h:∀ v∈L,v.oneCell'=true):(v0::v1::L).toArray.all (·.oneCell')=true :=
 all_oneCell_toArray (λv hv=>by
  simp only [List.mem_cons] at hv
  rcases hv with rfl|rfl|hv
  ·exact h0
  ·exact h1
  ·exact h v hv)
theorem one_m (g n:Nat):(sM g n).toArray.all (·.oneCell')=true:=one66 rfl rfl (λv hv=>by
 obtain ⟨i,rfl|rfl⟩:=zcQ _ _ v 32 hv
 ·exact oneR _ _
 ·exact oneW _ _)
theorem one_a (g a:Nat):(sA g a).toArray.all (·.oneCell')=true:=one66 rfl rfl (λv hv=>by
 obtain ⟨i,rfl|rfl⟩:=zcQ _ _ v 32 hv
 ·unfold apR;split <;> rfl
 ·unfold apW;split
  ·rfl
  ·split <;> rfl)
theorem OwnK.room {B:Nat} {M:Mach} {S:Sl} {Y:World} (h:OwnK B M S 5 Y) (hf:M.fit):B<=Y.heap.size:=by
 rcases h.own 2 (by omega) with ⟨_,e⟩|⟨b,cap,_,_,h3,h4⟩
 ·have e':M.ram=[]:=e
  have:=hf.ram
  rw [e'] at this
  simp at this
 ·have:=h4.z;omega
structure OP (w w2 : World) (M : Mach) (S1 : Sl) (A B : List Value) (Y : World) : Prop where
 low:Below w.heap.size w Y
 bx:Bx Y w2.heap.size (halfL M S1 A B)
 old:∀ b,b<w2.heap.size->Y.heap[b]? = w2.heap[b]?
theorem OP.kept {w w2:World} {M:Mach} {S1:Sl} {A B:List Value} {Y Y':World} (h:OP w w2 M S1 A B Y) (hb:Below Y.heap.size Y Y'):OP w w2 M S1 A B Y' :=
 ⟨stp h.low hb,h.bx.kept hb,λb hb2=>(hb.block b (by have:=h.bx.z;omega)).trans (h.old b hb2)⟩
section
variable {w w2 : World} {M : Mach} {S1 : Sl} {A B : List Value} {Y : World} {g : Nat}
theorem OP.drew' (h:OP w w2 M S1 A B Y):OP w w2 M S1 A B Y.drew:=⟨h.low.drew,h.bx.drew,h.old⟩
theorem OP.bx' (h:OP w w2 M S1 A B Y) (hg:w2.heap.size=g):Bx Y g (halfL M S1 A B):=hg ▸ h.bx
theorem OP.th77 (h:OP w w2 M S1 nil66 nil66 Y) (hg:w2.heap.size=g):Y.there g 77 66:=(h.bx' hg).there 77 66 (by rw [zcR _ _ _ _ zbh zbh];omega)
theorem OP.th143 (h:OP w w2 M S1 A nil66 Y) (hg:w2.heap.size=g) (hA:A.length=66):Y.there g 143 66:=(h.bx' hg).there 143 66 (by rw [zcR _ _ _ _ hA zbh];omega)
theorem OP.put1 {A':List Value} (h:OP w w2 M S1 nil66 nil66 Y) (hg:w2.heap.size=g) (hA:A'.length=66) (hw:w.heap.size<=g):OP w w2 M S1 A' nil66 (Y.setCells g 77 A'):=by
 subst hg
 have hx:=h.bx.puts 77 A' (by rw [zcR _ _ _ _ zbh zbh];omega)
 rw [zjZ _ _ _ _ _ (by rw [hA,zbh])] at hx
 exact ⟨Bl.puts h.low hw _,hx,λb hb=>(zad (by omega) _ _ _).trans (h.old b hb)⟩
theorem OP.put2 {B':List Value} (h:OP w w2 M S1 A nil66 Y) (hg:w2.heap.size=g) (hA:A.length=66) (hB:B'.length=66) (hw:w.heap.size<=g):OP w w2 M S1 A B' (Y.setCells g 143 B'):=by
 subst hg
 have hx:=h.bx.puts 143 B' (by rw [zcR _ _ _ _ hA zbh];omega)
 rw [zj0 _ _ _ _ _ hA (by rw [hB,zbh])] at hx
 exact ⟨Bl.puts h.low hw _,hx,λb hb=>(zad (by omega) _ _ _).trans (h.old b hb)⟩
theorem EnvM.keep {n:Nat} {Y':World} (h:EnvM g (mE n) Y) (hb:Below Y.drew.heap.size Y.drew Y'):EnvM g (mE n) Y':=by
 obtain ⟨e0,e1,e2,e3,e4,e5,e6,e7,e8,e9,e10⟩:=h
 exact ⟨e0.drew.kept hb,e1.drew.kept hb,e2.drew.kept hb,e3.drew.kept hb,e4.drew.kept hb,e5.drew.kept hb,e6.drew.kept hb,e7.drew.kept hb,e8.drew.kept hb,e9.drew.kept hb,e10.drew.kept hb⟩
theorem EnvM.off {n o:Nat} {vs:List Value} (h:EnvM g (mE n) Y) (hn:g<n):EnvM g (mE n) (Y.setCells g o vs):=by
 obtain ⟨e0,e1,e2,e3,e4,e5,e6,e7,e8,e9,e10⟩:=h
 exact ⟨e0.fars (by show g≠n+1;omega) _ _,e1.fars (by show g≠n+2;omega) _ _,e2.fars (by show g≠n+3;omega) _ _,e3.fars (by show g≠n+4;omega) _ _,e4.fars (by show g≠n+5;omega) _ _,e5.fars (by show g≠n+6;omega) _ _,e6.fars (by show g≠n+7;omega) _ _,e7.fars (by show g≠n+8;omega) _ _,e8.fars (by show g≠n+9;omega) _ _,e9.fars (by show g≠n+10;omega) _ _,e10.fars (by show g≠n+11;omega) _ _⟩
def ApB (g a:Nat) (Y:World):Prop:=Bx Y a [pt g 0] /\ ∀ k,k<24->Bx Y (a+3+2*k) [pt g 0]/\Bx Y (a+4+2*k) [.int .i64 k]
theorem zr9 {Z X w4:World} (h:LnAP Z g 24 X) (hs:∀ k,k≠Z.heap.size+1->w4.heap[k]? = X.heap[k]?) (hz:X.heap.size=w4.heap.size):ApB g Z.heap.size w4 :=
 ⟨h.b.same (Nat.le_of_eq hz) (hs _ (by omega)),λk hk=>⟨(h.sb k hk).1.same (Nat.le_of_eq hz) (hs _ (by omega)),(h.sb k hk).2.same (Nat.le_of_eq hz) (hs _ (by omega))⟩⟩
theorem zsa {a o:Nat} {vs:List Value} (h:ApB g a Y) (ha:g<a):ApB g a (Y.setCells g o vs) :=
 ⟨h.1.fars (by omega) _ _,λk hk=>⟨(h.2 k hk).1.fars (by omega) _ _,(h.2 k hk).2.fars (by omega) _ _⟩⟩
end
theorem zbr (M:Mach) (S:Sl) (w:World) (hS:S.lens M) (hs:∀ j,j<5->sliceAt w (S.get j) (M.byt j)) (hf:M.fit) (hf2:M.b.f<=20000) :
 Calls Tryz.prog 51 #[.agg (machL M S).toArray] w λe w'=>∃ F:Fx,F.B=w.heap.size/\e = .returned (.tuple #[pt F.g 0,.int .i64 0])/\(F.B<=F.mr/\F.B<=F.ar)/\Bd F w' M Tk.zero/\Below w.heap.size w w':=by
 have hB:=Bx.new w (machL M S) 41 (b:=w.heap.size) rfl
 have HB:=hid hB
 have HS:=hid hs
 have HC:=hid (zqD hf hf2)
 have HSL:=hid hS
 have HF:=hid hf
 have HLL:=hid (zoB hf)
 clear hB hs hS hf
 go_enter Tryz.func51,Tryz.ntmps51
 go_wp2_with (first
  | (refine wpList_load_mid rfl 41 _ rfl w.heap.size 0 rfl (machL M S) _ HB1.out.c Tryz.underlying41 rfl zaa ?_)
  | (refine wpList_load_mid rfl 41 _ rfl w.heap.size 0 rfl (machL M S) _ HB.out.c Tryz.underlying41 rfl zaa ?_)
  | (refine zgq rfl 134 0 _ rfl (.agg (machL M S1).toArray) _ rfl (zmi M S1 _) ?_)
  | (go_at_call 8;refine (za6 M S _ HSL.out (λj hj=>Nat.le_trans (HLL.out j hj) (by omega))).mono ?_;rw [HC.out];rintro e w1 ⟨rfl,hb1⟩;have HB1:=hid (HB.out.kept hb1);have HL1:=hid (stp (stA (st0 w) (.cells (machL M S).toArray 41)) hb1))
  | (go_at_call 86;refine (zis M S _ (λj hj=>(HS.out j hj).kept HL1.out) (λj hj=>Nat.le_trans (HLL.out j hj) (by omega))).mono ?_;rintro e w2 ⟨S1,rfl,ho,hb2⟩;have HO:=hid ho;have HL2:=hid (stp HL1.out hb2);have hz2:=hb2.size;clear ho hb2 hb1))
 have hz0:w.heap.size<=w1.heap.size:=HL1.out.size
 have HZ:=hid hz2
 have HW2:=hid HL2.out.size
 have HZ0:=hid hz0
 refine Pl.cutW (OP w w2 M S1 nil66 nil66) ⟨stA HL2.out _,Bx.new w2 _ _ rfl,λb hb=>Below.heap_alloc _ _ _ hb⟩ ?_
 intro Y hY
 have HY:=hid hY
 clear hY hz2 hz0
 generalize hg:w2.heap.size=g at *
 have HG:=hid hg
 clear hg
 refine wp_region_held_drew (S:=λ_=>True) (by kernel_rfl) trivial ?_
 intro _
 refine tqK 0 ⟨some 15,_,_,_,_,none⟩ trivial ?_
 simp only [Act.put,xA,xB,xC]
 refine tqK 1 ⟨some 16,_,_,_,_,none⟩ trivial ?_
 simp only [Act.put,xA,xB,xC]
 refine tqK 2 ⟨some 17,_,_,_,_,none⟩ trivial ?_
 simp only [Act.put,xA,xB,xC]
 refine tqK 3 ⟨some 18,_,_,_,_,none⟩ trivial ?_
 simp only [Act.put,xA,xB,xC]
 refine tqK 4 ⟨some 19,_,_,_,_,none⟩ trivial ?_
 simp only [Act.put,xA,xB,xC]
 refine tqK 5 ⟨some 20,_,_,_,_,none⟩ trivial ?_
 simp only [Act.put,xA,xB,xC]
 refine tqK 6 ⟨some 21,_,_,_,_,none⟩ trivial ?_
 simp only [Act.put,xA,xB,xC]
 refine tqK 7 ⟨some 22,_,_,_,_,none⟩ trivial ?_
 simp only [Act.put,xA,xB,xC]
 refine wpAnyH_ready (rs:=[8]) (by kernel_rfl) (by simp) ?_
 refine AllReadyH.cons (o:=⟨some 23,_,_,_,_,none⟩) rfl (λK hK=>?_) AllReadyH.nil
 go_simp
 go_at_call 88
 refine (zgm g _).mono ?_
 rintro e w3 ⟨rfl,hb3,hE⟩
 have HY3:=hid (HY.out.drew'.kept hb3)
 have HE:=hid hE
 have HN:Hid (g<Y.drew.heap.size):=hid (by have:=HY.out.bx.z;rw [HG.out] at this;exact this)
 clear hb3 hE
 generalize hn:Y.drew.heap.size=n at *
 clear hn
 try go_wp2_with fail
 refine hK.out _ _ trivial (λ_=>?_)
 clear hK K
 try simp only [Act.put,xA,xB,xC]
 refine wpAnyH_take (i:=9) (oi:=⟨some 24,_,_,_,_,none⟩) (v:=.agg (sM g n).toArray) rfl (by kernel_rfl) (by kernel_rfl) (by kernel_rfl) (λ_ _ _ h=>h) (Or.inl ⟨by rfl,λw _=>zbU 132 0 1 2 _ _ _ rfl (pt g 30) (mval 87 g 0) (.agg (portsN (fxE g (mE n)).rdM (fxE g (mE n)).wrM 32).toArray) (.agg (sM g n).toArray) rfl rfl rfl (zr7 g n w)⟩) trivial ?_
 simp only [Act.put,xA,xB,xC]
 refine tqK 10 ⟨some 25,_,_,_,_,none⟩ trivial ?_
 simp only [Act.put,xA,xB,xC]
 refine tqK 11 ⟨some 26,_,_,_,_,none⟩ trivial ?_
 simp only [Act.put,xA,xB,xC]
 refine zaS (i:=12) (op:=⟨none,_,_,_,_,none⟩) (by kernel_rfl) rfl rfl 132 _ _ rfl g 77 (sM g n).toArray rfl rfl (by rw [sM_sz];exact HY3.out.th77 HG.out) (by rw [sM_sz];exact zhM) (one_m g n) trivial ?_
 refine wpAnyH_done (by kernel_rfl) ?_ _
 refine Pl.cutE (λZ=>OP w w2 M S1 (sM g n) nil66 Z/\EnvM g (mE n) Z) ⟨OP.put1 HY3.out HG.out (zfd g n) HW2.out,HE.out.off HN.out⟩ ?_
 rintro Z ⟨hZ1,hZ2⟩
 have HZ1:=hid hZ1
 have HZ2:=hid hZ2
 clear hZ1 hZ2
 go_wp2
 refine wp_region_held_drew (S:=λ_=>True) (by kernel_rfl) trivial ?_
 intro _
 refine tqK 0 ⟨some 27,_,_,_,_,none⟩ trivial ?_
 simp only [Act.put,xA,xB,xC]
 refine tqK 1 ⟨some 28,_,_,_,_,none⟩ trivial ?_
 simp only [Act.put,xA,xB,xC]
 refine tqK 2 ⟨some 29,_,_,_,_,none⟩ trivial ?_
 simp only [Act.put,xA,xB,xC]
 refine tqK 3 ⟨some 30,_,_,_,_,none⟩ trivial ?_
 simp only [Act.put,xA,xB,xC]
 refine tqK 4 ⟨some 31,_,_,_,_,none⟩ trivial ?_
 simp only [Act.put,xA,xB,xC]
 refine tqK 5 ⟨some 32,_,_,_,_,none⟩ trivial ?_
 simp only [Act.put,xA,xB,xC]
 refine tqK 6 ⟨some 33,_,_,_,_,none⟩ trivial ?_
 simp only [Act.put,xA,xB,xC]
 refine tqK 7 ⟨some 34,_,_,_,_,none⟩ trivial ?_
 simp only [Act.put,xA,xB,xC]
 refine wpAnyH_ready (rs:=[8]) (by kernel_rfl) (by simp) ?_
 refine AllReadyH.cons (o:=⟨some 35,_,_,_,_,none⟩) rfl (λK hK=>?_) AllReadyH.nil
 go_simp
 go_at_call 90
 refine (zgn g _).mono ?_
 rintro e w4 ⟨rfl,X,hX,hb4,hsame,hsz⟩
 have HZ4:=hid (HZ1.out.drew'.kept hb4)
 have HE4:=hid (HZ2.out.keep hb4)
 have HX:=hid (zr9 hX hsame hsz)
 have HA:Hid (g<Z.drew.heap.size):=hid (by have:=HZ1.out.bx.z;rw [HG.out] at this;exact this)
 clear hb4 hX hsame hsz
 generalize ha:Z.drew.heap.size=a at *
 clear ha
 try go_wp2_with fail
 refine hK.out _ _ trivial (λ_=>?_)
 clear hK K
 try simp only [Act.put,xA,xB,xC]
 refine wpAnyH_take (i:=9) (oi:=⟨some 36,_,_,_,_,none⟩) (v:=.agg (sA g a).toArray) rfl (by kernel_rfl) (by kernel_rfl) (by kernel_rfl) (λ_ _ _ h=>h) (Or.inl ⟨by rfl,λw _=>zbU 132 0 1 2 _ _ _ rfl (pt g 31) (mval 89 g 0) (.agg (apL a g 24).toArray) (.agg (sA g a).toArray) rfl rfl rfl (zr8 g a w)⟩) trivial ?_
 simp only [Act.put,xA,xB,xC]
 refine tqK 10 ⟨some 37,_,_,_,_,none⟩ trivial ?_
 simp only [Act.put,xA,xB,xC]
 refine tqK 11 ⟨some 38,_,_,_,_,none⟩ trivial ?_
 simp only [Act.put,xA,xB,xC]
 refine zaS (i:=12) (op:=⟨none,_,_,_,_,none⟩) (by kernel_rfl) rfl rfl 132 _ _ rfl g 143 (sA g a).toArray rfl rfl (by rw [sA_sz];exact HZ4.out.th143 HG.out (zfd g n)) (by rw [sA_sz];exact zhM) (one_a g a) trivial ?_
 refine wpAnyH_done (by kernel_rfl) ?_ _
 refine Pl.cutE (λV=>∃ F:Fx,F.B=w.heap.size/\F.g=g/\(F.B<=F.mr/\F.B<=F.ar)/\Bd F V M Tk.zero/\Below w.heap.size w V) ?_ ?_
 ·obtain ⟨F,f1,f2,f3,f4⟩:=Bd.make (B:=w.heap.size) (n:=n) (a:=a) HO.out (by have:=HZ0.out;omega) (HO.out.room HF.out) HF.out (by rw [HG.out];exact (OP.put2 HZ4.out HG.out (zfd g n) (zjf g a) HW2.out).bx' HG.out) (OP.put2 HZ4.out HG.out (zfd g n) (zjf g a) HW2.out).old (by rw [HG.out];exact HE4.out.off HN.out) (by rw [HG.out];exact HN.out) (by rw [HG.out];exact zsa HX.out HA.out) (by rw [HG.out];exact HA.out)
  exact ⟨F,f1,f2.trans HG.out,f3,f4,(OP.put2 HZ4.out HG.out (zfd g n) (zjf g a) HW2.out).low⟩
 rintro V ⟨F,hV1,hV2,hV0,hV3,hV4⟩
 have HV0:=hid hV0
 have HV1:=hid hV1
 have HV2:=hid hV2
 have HV3:=hid hV3
 have HV4:=hid hV4
 clear hV1 hV2 hV3 hV4 hV0
 go_wp2
 go_ret2
 exact ⟨F,HV1.out,by rw [HV2.out];rfl,HV0.out,HV3.out,HV4.out⟩
def SlAt (W:World) (S:Sl) (M:Mach):Prop:=∀ j,j<5->sliceAt W (S.get j) (M.byt j)
theorem SlAt.kept {W W':World} {S:Sl} {M:Mach} (h:SlAt W S M) (hb:Below W.heap.size W W'):SlAt W' S M:=λj hj=>(h j hj).kept hb
theorem SlAt.lens {W:World} {S:Sl} {M:Mach} (h:SlAt W S M):S.lens M:=λj hj=>zbt (h j hj)
theorem Bd.slAt {F:Fx} {W:World} {M:Mach} {tk:Tk} (h:Bd F W M tk):SlAt W F.S M:=λj hj=>by
 rcases five hj with rfl|rfl|rfl|rfl|rfl
 ·exact h.mr.slice
 ·exact h.ar.slice
 ·exact h.ra.slice
 ·exact h.ow.slice
 ·exact h.vi.slice
theorem Bd.isSl {F:Fx} {W:World} {M:Mach} {tk:Tk} (h:Bd F W M tk):F.S.isSl:=λj hj=>by
 obtain ⟨a,c,e⟩:=h.slAt.lens j hj
 exact ⟨_,_,_,e⟩
theorem Bd.row {F:Fx} {W:World} {M:Mach} {tk:Tk} (h:Bd F W M tk):W.rangeAt F.g 0 (machL M F.S):=λi v hi=>by
 refine h.at (0+i) v ?_
 rw [Nat.zero_add]
 unfold Fx.cells
 rw [List.getElem?_append_left (List.getElem?_eq_some_iff.1 hi).1]
 exact hi
def Mach.rd (M:Mach) (aux:Bool) (a:Int):Int × Mach:=if aux then M.rdA a else M.rdM a
def Mach.wr (M:Mach) (aux:Bool) (a n:Int):Mach:=if aux then M.wrA a n else M.wrM a n
def took (aux:Bool) (a n:Int):Int:=if aux then 0 else tookM a n
def SlNew (n:Nat) (S:Sl):Prop:=∀ j,j<5->∀ a m c,S.get j = .slice (some a) m c->n<=a.block
theorem Rw.ge {W:World} {v:Value} {k n:Nat} {l:List UInt8} (h:Rw W v k l) (hk:n<=k):∀ (a:Addr) (m c:Nat),v = .slice (Option.some a) m c->n<=a.block:=λa m c e=>by
 rcases h with ⟨e1,_⟩|⟨cap,e1,_⟩
 ·rw [e1] at e;cases e
 ·rw [e1] at e;cases e;exact hk
theorem Bd.slNew {F:Fx} {W:World} {M:Mach} {tk:Tk} (h:Bd F W M tk) (hr:F.B<=F.mr/\F.B<=F.ar):SlNew F.B F.S:=λj hj=>by
 rcases five hj with rfl|rfl|rfl|rfl|rfl
 ·exact h.mr.ge hr.1
 ·exact h.ar.ge hr.2
 ·exact h.ra.ge h.nd.lo.2.1
 ·exact h.ow.ge h.nd.lo.2.2.1
 ·exact h.vi.ge h.nd.lo.2.2.2
theorem SlNew.mono {n m:Nat} {S:Sl} (h:SlNew n S) (hm:m<=n):SlNew m S:=λj hj a k c e=>Nat.le_trans hm (h j hj a k c e)
theorem SlAt.off {W:World} {S:Sl} {M:Mach} {n b:Nat} (h:SlAt W S M) (hn:SlNew n S) (hb:b<n) (o:Nat) (vs:List Value):SlAt (W.setCells b o vs) S M:=λj hj=>by
 rcases h j hj with h0|⟨g,o',cap,e1,e2,e3,e4⟩
 ·exact Or.inl h0
 ·have hg:n<=g:=hn j hj _ _ _ e1
  exact Or.inr ⟨g,o',cap,e1,e2,by rw [zaQ];exact e3,λi c hi=>(World.cell?_of_block (zad (x:=g) (b:=b) (by omega) vs o W)).trans (e4 i c hi)⟩
structure RB (w : World) (F : Fx) (M : Mach) (tk : Tk) (L : List Value) (Y : World) : Prop where
 bd:Bd F Y M tk
 low:Below w.heap.size w Y
 res:Bx Y (w.heap.size+1) L
 B:w.heap.size+1<F.B
 r:F.B<=F.mr/\F.B<=F.ar
theorem RB.go {w Y Y':World} {F:Fx} {M M':Mach} {tk tk':Tk} {L:List Value} (h:RB w F M tk L Y) (hB:Bd F Y' M' tk') (ht:Bt F Y Y'):RB w F M' tk' L Y':=by
 have hb:=h.B
 exact ⟨hB,h.low.trans ((Mv.below ht).mono (by omega)),h.res.under (Mv.below ht) hb,hb,h.r⟩
theorem RB.kept {w Y Y':World} {F:Fx} {M:Mach} {tk:Tk} {L:List Value} (h:RB w F M tk L Y) (hb:Below Y.heap.size Y Y'):RB w F M tk L Y':=h.go (h.bd.kept hb) (Mv.of_below h.bd.big hb)
theorem RB.drew {w Y:World} {F:Fx} {M:Mach} {tk:Tk} {L:List Value} (h:RB w F M tk L Y):RB w F M tk L Y.drew:=h.kept (st0 Y).drew
theorem Rw.offB {W:World} {v:Value} {k b:Nat} {l:List UInt8} (h:Rw W v k l) (hn:b≠k) (o:Nat) (vs:List Value):Rw (W.setCells b o vs) v k l:=by
 rcases h with h|⟨cap,e,hl,hx⟩
 ·exact Or.inl h
 ·exact Or.inr ⟨cap,e,hl,hx.fars hn o vs⟩
theorem RB.fin {w Y:World} {F:Fx} {M:Mach} {tk:Tk} {L L':List Value} (h:RB w F M tk L Y) (hl:L'.length=L.length):Below w.heap.size w (Y.setCells (w.heap.size+1) 0 L')/\Bx (Y.setCells (w.heap.size+1) 0 L') (w.heap.size+1) L'/\SlAt (Y.setCells (w.heap.size+1) 0 L') F.S M:=by
 have hx:=h.res.puts 0 L' (by omega)
 rw [zau _ _ hl] at hx
 have lo:=h.bd.nd.lo
 have hB:=h.B
 have hr:=h.r
 refine ⟨Bl.puts h.low (by omega) _,hx,λj hj=>?_⟩
 rcases five hj with rfl|rfl|rfl|rfl|rfl
 ·exact (h.bd.mr.offB (by omega) _ _).slice
 ·exact (h.bd.ar.offB (by omega) _ _).slice
 ·exact (h.bd.ra.offB (by omega) _ _).slice
 ·exact (h.bd.ow.offB (by omega) _ _).slice
 ·exact (h.bd.vi.offB (by omega) _ _).slice
section
variable {F : Fx} {W : World} {M : Mach} {tk : Tk}
theorem zj6 (h:Bd F W M tk) (a n:Int) (ha:0<=a/\a<=65535) (hn:0<=n/\n<=255) (hp:∀ i,i<32->PutA F M tk i n) :
 Calls Tryz.prog 93 #[pt F.g 143,.int .u16 a,.int .u8 n] W λe w'=>e = .returned (.tuple #[])/\EndA F W w' (M.wrA a n) tk (M.shA a n):=by
 unfold Mach.wrA Mach.shA
 cases hP:isPort a
 ·have hm:=hid (zja h a ha)
  have e77:=h.at2 1 (mval 89 F.g 0) rfl
  have hP':=hid hP
  have H:=hid h
  have hg:=h.bx.z
  clear h hP hp
  simp only [Bool.false_eq_true,if_false]
  unfold Mach.memA
  unfold Fx.memA at hm
  by_cases h1:a<32768
  ·rw [if_pos h1]
   rw [if_pos h1] at hm
   go_enter Tryz.func93,Tryz.ntmps93
   go_wp2_with (first
    | (go_at_call 182;refine (zal a _ ha).mono ?_;rw [hP'.out];rintro e w1 ⟨rfl,rfl⟩)
    | (go_at_call 89;refine hm.out.mono ?_;rintro e w1 ⟨rfl,rfl⟩))
   go_end0
   exact ⟨rfl,endA H.out rfl (Bt.refl _ _)⟩
  ·rw [if_neg h1]
   rw [if_neg h1] at hm
   by_cases h2:a<49152
   ·rw [if_pos h2]
    rw [if_pos h2] at hm
    obtain ⟨ec,ez,ef⟩:=H.out.ownAt ((a-32768)%64) (by omega) (by omega)
    go_enter Tryz.func93,Tryz.ntmps93
    go_wp2_with (first
     | (go_at_call 182;refine (zal a _ ha).mono ?_;rw [hP'.out];rintro e w1 ⟨rfl,rfl⟩)
     | (go_at_call 89;refine hm.out.mono ?_;rintro e w1 ⟨rfl,rfl⟩))
    go_end0
    exact ⟨rfl,endA (H.out.putOwn _ n (by omega) (by omega) hn) rfl ((Bt.refl _ _).setO H.out.nd _ _)⟩
   ·rw [if_neg h2]
    rw [if_neg h2] at hm
    by_cases h3:a<53248
    ·rw [if_pos h3]
     rw [if_pos h3] at hm
     obtain ⟨ec,ez,ef⟩:=H.out.ramAt ((a-49152)%128) (by omega) (by omega)
     cases hgr:M.granted
     ·rw [hgr] at hm
      go_enter Tryz.func93,Tryz.ntmps93
      go_wp2_with (first
       | (go_at_call 182;refine (zal a _ ha).mono ?_;rw [hP'.out];rintro e w1 ⟨rfl,rfl⟩)
       | (go_at_call 89;refine hm.out.mono ?_;rintro e w1 ⟨rfl,rfl⟩))
      go_end0
      exact ⟨rfl,endA H.out rfl (Bt.refl _ _)⟩
     ·rw [hgr] at hm
      go_enter Tryz.func93,Tryz.ntmps93
      go_wp2_with (first
       | (go_at_call 182;refine (zal a _ ha).mono ?_;rw [hP'.out];rintro e w1 ⟨rfl,rfl⟩)
       | (go_at_call 89;refine hm.out.mono ?_;rintro e w1 ⟨rfl,rfl⟩))
      go_end0
      have hX:=H.out.putRam ((a-49152)%128) n (by omega) (by omega) hn
      rw [hgr] at hX
      exact ⟨rfl,endA hX rfl ((Bt.refl _ _).setR H.out.nd _ _)⟩
    ·rw [if_neg h3]
     rw [if_neg h3] at hm
     go_enter Tryz.func93,Tryz.ntmps93
     go_wp2_with (first
      | (go_at_call 182;refine (zal a _ ha).mono ?_;rw [hP'.out];rintro e w1 ⟨rfl,rfl⟩)
      | (go_at_call 89;refine hm.out.mono ?_;rintro e w1 ⟨rfl,rfl⟩))
     go_end0
     exact ⟨rfl,endA H.out rfl (Bt.refl _ _)⟩
 ·obtain ⟨k,hk⟩:∃ k:Nat,a%32=k:=⟨(a%32).toNat,by omega⟩
  have hk2:k<32:=by omega
  have hm:Int.tmod a 32=k:=by rw [Int.tmod_eq_emod_of_nonneg ha.1,hk]
  have hq:=hid (hp k hk2 W h)
  have hP':=hid hP
  have e0:portNo a=k:=by unfold portNo;omega
  simp only [if_true]
  rw [e0]
  obtain ⟨c0,c1⟩:=h.pA k hk2
  have hg:=h.bx.z
  have hk3:(k:Int)<32:=by omega
  clear h hP hp e0
  generalize F.rdA k=vr at *
  generalize F.wrA k=vw at *
  go_enter Tryz.func93,Tryz.ntmps93
  go_wp2_with (first
   | (go_at_call 182;refine (zal a _ ha).mono ?_;rw [hP'.out];rintro e w1 ⟨rfl,rfl⟩)
   | (go_at_call 185;refine hq.out.mono ?_;rintro e w1 ⟨rfl,hB1⟩))
  go_end0
  exact ⟨rfl,hB1⟩
end
structure Bst where
 M:Mach
 n:Int
 l:List Wt
theorem Pd.rd_bd {p:Pd} (h:p.ok):0<=p.rd/\p.rd<=255:=by
 unfold Pd.rd sel
 have:=h.d
 have:=h.s
 split <;> omega
theorem zmm (a b:Bool):0<=two a b/\two a b<=255:=by cases a <;> cases b <;> decide
theorem zsb {M:Mach} (h:M.fit) (a:Int):0<=(M.rdM a).1/\(M.rdM a).1<=255:=by
 unfold Mach.rdM
 split
 ·unfold Mach.portM
  split
  ·exact Pd.rd_bd h.p0
  ·exact Pd.rd_bd h.p1
  ·exact zmm _ _
  ·exact ⟨h.b.l0,Int.le_trans h.b.l1 (by decide)⟩
  ·exact ⟨h.b.a0,Int.le_trans h.b.a1 (by decide)⟩
  ·exact zmm _ _
  ·exact zmm _ _
  ·exact h.m1
  ·exact ⟨show (0:Int)<=255 by decide,show (255:Int)<=255 by decide⟩
 ·exact zci _ _
theorem zsc {M:Mach} (h:M.fit) (a:Int):0<=(M.rdA a).1/\(M.rdA a).1<=255:=by
 unfold Mach.rdA
 split
 ·unfold Mach.portA
  split
  ·exact h.m0
  ·exact ⟨show (0:Int)<=255 by decide,show (255:Int)<=255 by decide⟩
 ·exact zcP _ _
theorem ziw (a n:Int) (h:0<=n/\n<=255):0<=tookM a n/\tookM a n<=510:=by
 unfold tookM takes
 split
 ·split <;> omega
 ·omega
theorem zmn (M:Mach) (a n:Int):(M.shA a n).length<=1:=by
 unfold Mach.shA shown
 split
 ·split <;> simp
 ·simp
def mainMem:C.Mem Bst where
 rd s a:=((s.M.rdM a).1%256,{ s with M:=(s.M.rdM a).2 })
 wr s a b:={ s with M:=s.M.wrM a (b%256),n:=s.n+tookM a (b%256) }
 fuel s:=(1000000000000-s.n).toNat/510
def auxMem:C.Mem Bst where
 rd s a:=((s.M.rdA a).1%256,{ s with M:=(s.M.rdA a).2 })
 wr s a b:={ s with M:=s.M.wrA a (b%256),l:=s.l++s.M.shA a (b%256) }
 fuel s:=1000000001-s.l.length
structure Fx.into (F : Fx) (N : Nat) : Prop where
 g:F.g<N
 s:∀ j k,j<5->(F.S.get j).ownBlock=some k->k<N
 e:∀ x v,F.has x v->x<N
section
variable {F : Fx} {N : Nat} {W w w1 : World} {M M' : Mach} {tk tk' : Tk}
theorem Bd.rw (h:Bd F W M tk) (j:Nat) (hj:j<5):∃ k,Rw W (F.S.get j) k (M.byt j):=by
 rcases five hj with rfl|rfl|rfl|rfl|rfl
 ·exact ⟨_,h.mr⟩
 ·exact ⟨_,h.ar⟩
 ·exact ⟨_,h.ra⟩
 ·exact ⟨_,h.ow⟩
 ·exact ⟨_,h.vi⟩
theorem Bd.into (h:Bd F W M tk):F.into W.heap.size :=
 ⟨h.bx.z,λj k hj e=>by obtain ⟨_,hr⟩:=h.rw j hj;exact hr.lt k e,λx v hx=>(h.env x v hx).1⟩
theorem Bd.same (h:Bd F W M tk) (hN:F.into N) (hz:W.heap.size<=w1.heap.size) (e:∀ k,k<N->w1.heap[k]? = W.heap[k]?) (ew:∀ k,tk.v.ownBlock=some k->w1.heap[k]? = W.heap[k]?):Bd F w1 M tk :=
 ⟨h.bx.same hz (e _ hN.g),h.mr.same2 hz (λj hj _=>e j (hN.s 0 j (by omega) hj)),h.ar.same2 hz (λj hj _=>e j (hN.s 1 j (by omega) hj)),h.ra.same2 hz (λj hj _=>e j (hN.s 2 j (by omega) hj)),h.ow.same2 hz (λj hj _=>e j (hN.s 3 j (by omega) hj)),h.vi.same2 hz (λj hj _=>e j (hN.s 4 j (by omega) hj)),
   λx v hx=>⟨Nat.lt_of_lt_of_le (h.env x v hx).1 hz,(World.cell?_of_block (w:=W) (e x (hN.e x v hx))).trans (h.env x v hx).2⟩,h.nd,h.fit,Nat.le_trans h.big hz,zaF h.ws ew,h.wd⟩
theorem Bd.inT (h:Bd F W M tk) (hN:F.into N):∀ k,F.T k->k<N:=λk hk=>by
 rcases hk with e|e|e|e
 ·rw [e];exact hN.g
 ·obtain ⟨cap,h1,_,_⟩:=h.ra.some (by rw [h.fit.ram];omega)
  rw [e];exact hN.s 2 _ (by omega) (by show F.S.ra.ownBlock=_;rw [h1];rfl)
 ·obtain ⟨cap,h1,_,_⟩:=h.ow.some (by rw [h.fit.own];omega)
  rw [e];exact hN.s 3 _ (by omega) (by show F.S.ow.ownBlock=_;rw [h1];rfl)
 ·obtain ⟨cap,h1,_,_⟩:=h.vi.some (by rw [h.fit.video];omega)
  rw [e];exact hN.s 4 _ (by omega) (by show F.S.vi.ownBlock=_;rw [h1];rfl)
theorem Bd.wty (h:Bd F W M tk):∀ k,tk.v.ownBlock=some k->∃ cs fr,W.heap[k]? = some (.cells cs 66 fr):=λk hk=>by
 rcases h.ws.2 with ⟨e0,_⟩|⟨g,cap,cur,e0,_,hx,_⟩
 ·rw [e0] at hk;cases hk
 ·rw [e0] at hk;cases hk;exact ⟨_,_,hx⟩
structure BI (F : Fx) (N : Nat) (w : World) (s : Bst) : Prop where
 N:N<=w.heap.size
 sh:shapesAt w
 n:0<=s.n
 bd:∃ v,Bd F w s.M ⟨s.n,s.l,v⟩
structure Fb (F : Fx) (N : Nat) : Prop where
 into:F.into N
 shN:2<N
 shB:2<F.B
abbrev BT (N:Nat) (_:Bst) (k:Nat):Prop:=k<N
theorem zbw (h:shapesAt w) (e:w1.heap[2]? = w.heap[2]?):shapesAt w1:=λk hk=>by
 obtain ⟨h1,h2,h3⟩:=h k hk
 exact ⟨(World.cell?_of_block (w:=w) e).trans h1,(World.cell?_of_block (w:=w) e).trans h2,(World.cell?_of_block (w:=w) e).trans h3⟩
def BE (F:Fx) (W w':World) (s:Bst):Prop:=(∃ v,Bd F w' s.M ⟨s.n,s.l,v⟩)/\Bw F W w'
theorem BE.out {s s':Bst} (hF:Fb F N) (hI:BI F N w s) (h:BE F w w1 s') (hn:0<=s'.n):BI F N w1 s'/\Mv F.B (Tw (BT N) w s) (Tw (BT N) w1 s') w w1:=by
 obtain ⟨v,hB⟩:=hI.bd
 obtain ⟨hv,hm⟩:=h
 have hT:=hB.inT hF.into
 refine ⟨⟨Nat.le_trans hI.N (Mv.size hm),zbw hI.sh (hm.below.block _ hF.shB),hn,hv⟩,hm.below,λk hk ht=>hm.block k hk (λy=>ht (y.imp (hT k) id)),λk hk=>?_⟩
 rcases hk with hk|hk
 ·exact Or.inl (Or.inl hk)
 ·rcases hm.fresh k (Or.inr hk) with y|y
  ·exact Or.inl (y.imp (hT k) id)
  ·exact Or.inr y
theorem zqE (n:Nat) (a b:Array Value) (w:World):(binOp .neq 120 (.func (.func n) a b) .nilFunc).run Tryz.prog w = .ok (.bool true) w:=by kernel_rfl
theorem BE.over {s:Bst} {o:Obj} (hB:F.B<=w.heap.size) (h:BE F (w.alloc o) w1 s):BE F w w1 s:=⟨h.1,Bw.trans (Bw.of_below hB (stA (st0 w) o)) h.2⟩
theorem zcS (h:Bd F W M tk) (o:Nat) (a x:Int) (s':Bst) (hr:∀ W,Bd F W M tk->Calls Tryz.prog 92 #[pt F.g o,.int .u16 a] W λe w'=>e = .returned (.int .u8 x)/\BE F W w' s') :
 Calls Tryz.prog 180 #[reachV F.g o,.int .u16 a] W λe w'=>e = .returned (.int .u8 x)/\BE F W w' s':=by
 have hn:=zlZ 92 #[pt F.g o] #[]
 have H:=hid h
 clear h
 go_enter Tryz.func180,Tryz.ntmps180
 go_wp2_with (go_at_call 92;refine (hr _ (H.out.over _)).mono ?_;rintro e w1 ⟨rfl,hB1⟩)
 go_ret
 exact ⟨rfl,hB1.over H.out.big⟩
theorem zcp (h:Bd F W M tk) (o:Nat) (a x:Int) (s':Bst) (hr:∀ W,Bd F W M tk->Calls Tryz.prog 93 #[pt F.g o,.int .u16 a,.int .u8 x] W λe w'=>e = .returned (.tuple #[])/\BE F W w' s') :
 Calls Tryz.prog 270 #[reachV F.g o,.int .u16 a,.int .u8 x] W λe w'=>e = .returned (.tuple #[])/\BE F W w' s':=by
 have hn:=zqE 93 #[pt F.g o] #[]
 have H:=hid h
 clear h
 go_enter Tryz.func270,Tryz.ntmps270
 go_wp2_with (go_at_call 93;refine (hr _ (H.out.over _)).mono ?_;rintro e w1 ⟨rfl,hB1⟩)
 go_end0
 exact ⟨rfl,hB1.over H.out.big⟩
theorem BI.keep {s:Bst} (hF:Fb F N) (h:BI F N w s) (hz:w.heap.size<=w1.heap.size) (e:∀ k,Tw (BT N) w s k->w1.heap[k]? = w.heap[k]?):BI F N w1 s:=by
 obtain ⟨v,hB⟩:=h.bd
 exact ⟨Nat.le_trans h.N hz,zbw h.sh (e _ (Or.inl hF.shN)),h.n,v,hB.same hF.into hz (λk hk=>e k (Or.inl hk)) (λk hk=>e k (Or.inr (hB.wty k hk)))⟩
theorem zgr (hF:Fb F N):RS mainMem F.B 92 93 (#[pt F.g 77],#[]) (#[pt F.g 77],#[]) (BI F N) (BT N) where
 lt:=λh k hk=>Nat.lt_of_lt_of_le hk h.N
 keep:=λh hz e=>h.keep hF hz e
 shapes:=λh=>h.sh
 gT:=hF.shN
 byte:=λs a=>by
  show 0<=(s.M.rdM a).1%256/\(s.M.rdM a).1%256<=255
  omega
 frd:=λs a=>Nat.le_refl _
 fwr:=λs a b=>by
  have:=ziw a (b%256) (by omega)
  show (1000000000000-s.n).toNat/510<=(1000000000000-(s.n+tookM a (b%256))).toNat/510+1
  omega
 big:=λh=>by obtain ⟨v,hB⟩:=h.bd;exact hB.big
 read:=λw s a ha ha' h=>by
  obtain ⟨v,hB⟩:=h.bd
  have hb:=zsb hB.fit a
  have e1:(mainMem.rd s a).1=(s.M.rdM a).1:=by show (s.M.rdM a).1%256=_;omega
  rw [e1]
  refine (zcS hB 77 a (s.M.rdM a).1 (mainMem.rd s a).2 (λW hW=>(zlA hW a ⟨ha,ha'⟩ (λi hi=>zn9 i hi)).mono ?_)).mono ?_
  ·rintro e w1 ⟨rfl,hB1,hT1⟩
   exact ⟨rfl,⟨v,hB1⟩,hT1.w⟩
  ·rintro e w1 ⟨rfl,hE⟩
   exact ⟨rfl,hE.out hF h h.n⟩
 write:=λw s a b ha ha' hb hb' hf h=>by
  obtain ⟨v,hB⟩:=h.bd
  have e1:b%256=b:=by omega
  have hf':1<=(1000000000000-s.n).toNat/510:=hf
  have htk:0<=s.n/\s.n<=1000000000000:=⟨h.n,by omega⟩
  have htb:=ziw a b ⟨hb,hb'⟩
  have e2:mainMem.wr s a b=⟨s.M.wrM a b,s.n+tookM a b,s.l⟩:=by show (⟨_,_,_⟩:Bst)=_;rw [e1]
  rw [e2]
  refine (zcp hB 77 a b ⟨s.M.wrM a b,s.n+tookM a b,s.l⟩ (λW hW=>(zjT hW a b ⟨ha,ha'⟩ ⟨hb,hb'⟩ (λi hi=>zow b ⟨hb,hb'⟩ htk i hi)).mono ?_)).mono ?_
  ·rintro e w1 ⟨rfl,hB1,hT1⟩
   exact ⟨rfl,⟨v,hB1⟩,hT1.w⟩
  ·rintro e w1 ⟨rfl,hE⟩
   exact ⟨rfl,hE.out hF h (by show 0<=s.n+tookM a b;omega)⟩
theorem zjg (hF:Fb F N):RS auxMem F.B 92 93 (#[pt F.g 143],#[]) (#[pt F.g 143],#[]) (BI F N) (BT N) where
 lt:=λh k hk=>Nat.lt_of_lt_of_le hk h.N
 keep:=λh hz e=>h.keep hF hz e
 shapes:=λh=>h.sh
 gT:=hF.shN
 byte:=λs a=>by
  show 0<=(s.M.rdA a).1%256/\(s.M.rdA a).1%256<=255
  omega
 frd:=λs a=>Nat.le_refl _
 fwr:=λs a b=>by
  have:=zmn s.M a (b%256)
  show 1000000001-s.l.length<=1000000001-(s.l++s.M.shA a (b%256)).length+1
  rw [List.length_append]
  omega
 big:=λh=>by obtain ⟨v,hB⟩:=h.bd;exact hB.big
 read:=λw s a ha ha' h=>by
  obtain ⟨v,hB⟩:=h.bd
  have hb:=zsc hB.fit a
  have e1:(auxMem.rd s a).1=(s.M.rdA a).1:=by show (s.M.rdA a).1%256=_;omega
  rw [e1]
  refine (zcS hB 143 a (s.M.rdA a).1 (auxMem.rd s a).2 (λW hW=>(zl0 hW a ⟨ha,ha'⟩ (λi hi=>zoa i hi)).mono ?_)).mono ?_
  ·rintro e w1 ⟨rfl,hB1,hT1⟩
   exact ⟨rfl,⟨v,hB1⟩,hT1.w⟩
  ·rintro e w1 ⟨rfl,hE⟩
   exact ⟨rfl,hE.out hF h h.n⟩
 write:=λw s a b ha ha' hb hb' hf h=>by
  obtain ⟨v,hB⟩:=h.bd
  have e1:b%256=b:=by omega
  have hf':1<=1000000001-s.l.length:=hf
  have e2:auxMem.wr s a b=⟨s.M.wrA a b,s.n,s.l++s.M.shA a b⟩:=by show (⟨_,_,_⟩:Bst)=_;rw [e1]
  rw [e2]
  refine (zcp hB 143 a b ⟨s.M.wrA a b,s.n,s.l++s.M.shA a b⟩ (λW hW=>(zj6 hW a b ⟨ha,ha'⟩ ⟨hb,hb'⟩ (λi hi=>zox b ⟨hb,hb'⟩ (by show s.l.length<=1000000000;omega) i hi)).mono ?_)).mono ?_
  ·rintro e w1 ⟨rfl,hB1,hT1⟩
   exact ⟨rfl,hB1,hT1⟩
  ·rintro e w1 ⟨rfl,hE⟩
   exact ⟨rfl,hE.out hF h h.n⟩
end
end Go.Proofs.YtbennamieealbaaGreatDoor
namespace Go.Proofs.YtbennamieealbaaGreatDoor.C
section
variable {σ : Type} {m : Mem σ}
theorem fuel_rdw (h1:∀ s a,m.fuel s<=m.fuel (m.rd s a).2) (s:σ) (a:Int):m.fuel s<=m.fuel (m.rdw s a).2:=by
 unfold Mem.rdw
 exact Nat.le_trans (h1 s a) (h1 _ _)
theorem fuel_wrw (h2:∀ s a b,m.fuel s<=m.fuel (m.wr s a b)+1) (s:σ) (a n:Int):m.fuel s<=m.fuel (m.wrw s a n)+2:=by
 unfold Mem.wrw
 have e1:=h2 s a (n/256)
 have e2:=h2 (m.wr s a (n/256)) ((a+1)%65536) (n%256)
 omega
theorem fuel_leave (h1:∀ s a,m.fuel s<=m.fuel (m.rd s a).2) (h2:∀ s a b,m.fuel s<=m.fuel (m.wr s a b)+1) (x:St σ) (a:Int):m.fuel x.s<=m.fuel (leave m x a).s+4:=by
 have e1:m.fuel x.s<=m.fuel (push m x x.c.PC).s+2:=fuel_wrw h2 _ _ _
 have e2:m.fuel (push m x x.c.PC).s<=m.fuel (push m (push m x x.c.PC) (sign (push m x x.c.PC).c)).s+2:=fuel_wrw h2 _ _ _
 have e3:m.fuel (push m (push m x x.c.PC) (sign (push m x x.c.PC).c)).s<=m.fuel (leave m x a).s:=fuel_rdw h1 _ _
 omega
theorem fuel_act (h1:∀ s a,m.fuel s<=m.fuel (m.rd s a).2) (h2:∀ s a b,m.fuel s<=m.fuel (m.wr s a b)+1) (x:St σ) (k:Nat) (d s n w:Int):m.fuel x.s<=m.fuel (act m x k d s n w).s+4:=by
 have u0:m.fuel x.s<=m.fuel x.s+4:=Nat.le_add_right _ _
 have u2:∀ a n,m.fuel x.s<=m.fuel (m.wrw x.s a n)+4:=λa n=>by have:=fuel_wrw h2 x.s a n;omega
 have u1:∀ a n,m.fuel x.s<=m.fuel (m.wr x.s a n)+4:=λa n=>by have:=h2 x.s a n;omega
 have u3:∀ a,m.fuel x.s<=m.fuel (m.rdw x.s a).2+4:=λa=>by have:=fuel_rdw h1 x.s a;omega
 have u4:∀ a,m.fuel x.s<=m.fuel (m.rd x.s a).2+4:=λa=>by have:=h1 x.s a;omega
 have u5:∀ a b,m.fuel x.s<=m.fuel (m.rdw (m.rdw x.s a).2 b).2+4:=λa b=>by have:=fuel_rdw h1 x.s a;have:=fuel_rdw h1 (m.rdw x.s a).2 b;omega
 unfold act
 split
 ·exact u0
 ·exact u0
 ·exact u3 _
 ·exact u2 _ _
 ·exact u4 _
 ·exact u1 _ _
 ·exact u0
 ·exact u0
 ·exact u0
 ·exact u0
 ·exact u0
 ·exact u0
 ·exact u0
 ·exact u0
 ·exact u0
 ·exact u0
 ·split <;> exact u0
 ·split <;> exact u0
 ·split <;> exact u0
 ·exact u2 _ _
 ·exact u3 _
 ·exact u2 _ _
 ·exact u3 _
 ·exact u0
 ·exact u0
 ·exact u5 _ _
 ·exact u0
 ·exact u0
 ·split <;> exact u0
 ·exact fuel_leave h1 h2 x 4
 ·exact u0
theorem fuel_step (h1:∀ s a,m.fuel s<=m.fuel (m.rd s a).2) (h2:∀ s a b,m.fuel s<=m.fuel (m.wr s a b)+1) (c:Cpu) (s:σ) (r:Bool):m.fuel s<=m.fuel (step m c s r).s+4:=by
 unfold step
 split
 ·exact fuel_leave h1 h2 ⟨c,s,0⟩ 2
 ·split
  ·exact Nat.le_add_right _ _
  ·unfold order
   refine Nat.le_trans ?_ (fuel_act h1 h2 _ _ _ _ _ _)
   show m.fuel s<=m.fuel (behind m c s).s
   unfold behind
   simp only
   split
   ·exact Nat.le_trans (fuel_rdw h1 _ _) (fuel_rdw h1 _ _)
   ·exact fuel_rdw h1 _ _
theorem act_n (x:St σ) (k:Nat) (d s n w:Int):(act m x k d s n w).n=x.n \/ (act m x k d s n w).n=x.n+1:=by
 unfold act
 split
 all_goals first
  | exact Or.inl rfl
  | exact Or.inr rfl
  | (split;exact Or.inr rfl;exact Or.inl rfl)
  | (split;exact Or.inl rfl;exact Or.inr rfl)
theorem cyc_bd:∀ k,k<32->0<=K.cyc k/\K.cyc k<=20:=by decide
theorem step_n (c:Cpu) (s:σ) (r:Bool) (hk:O.rk (word1 m c s)<32):0<=(step m c s r).n/\(step m c s r).n<=21:=by
 unfold step
 split
 ·exact ⟨show (0:Int)<=6 by decide,show (6:Int)<=21 by decide⟩
 ·split
  ·exact ⟨show (0:Int)<=1 by decide,show (1:Int)<=21 by decide⟩
  ·unfold order
   have hc:=cyc_bd _ hk
   rcases act_n (m:=m) { behind m c s with n:=K.cyc (O.rk (word1 m c s)) } (O.rk (word1 m c s)) (O.rD (word1 m c s)) (O.rS (word1 m c s)) (O.rN (word1 m c s)) (O.rW (word1 m c s) (word2 m c s)) with e|e
   ·rw [e];exact ⟨hc.1,Int.le_trans hc.2 (by decide)⟩
   ·rw [e]
    have h1:=hc.1
    have h2:=hc.2
    show 0<=K.cyc (O.rk (word1 m c s))+1/\K.cyc (O.rk (word1 m c s))+1<=21
    omega
end
end Go.Proofs.YtbennamieealbaaGreatDoor.C
