/-
  Parts of a proof, joined.
-/
import Derived.Test.YtbhpfkjfijdmaaaGreatDoorZy23
import Derived.Test.YtbhpfkjfijdmaaaGreatDoorZy24
import Derived.Test.YtbhpfkjfijdmaaaGreatDoorZy16
import Derived.Deep.RegionHeld3
import Derived.Test.YtbhpfkjfijdmaaaGreatDoorZy11
import Derived.Test.YtbhpfkjfijdmaaaGreatDoorZy15
import Derived.Test.YtbhpfkjfijdmaaaGreatDoorZy22
namespace Go.Proofs.YtbhpfkjfijdmaaaGreatDoor
open Go.ChangeShapes Go.WideShapes Go.ChangeAt Go.RowKit
set_option linter.unusedVariables false
set_option maxRecDepth 100000
set_option maxHeartbeats 1600000
theorem wpList_build1 {P:Program} {ops:Array Oper} {rest:List Oper} {op:Oper} {a:Act} {w:World} {Q:Exit->Act->World->Prop} (hgd:op.guard=none) (t:TypeId) (i:Nat) (x:Operand) (ho:op.op = .build t #[(i,x)]) (xv v:Value) (hx:a.eval x=xv)
 (hrun:(Instr.build t #[(i,xv)]).run P w = .ok v w) (h:wpList P ops Q rest (a.put op.dst v) w):wpList P ops Q (op :: rest) a w :=
 wpList_build hgd t _ ho v (by simp only [List.map_toArray,List.map_cons,List.map_nil,hx];exact hrun) h
theorem exec_build3 {P:Program} {a:Act} {o:Oper} {w:World} (t:TypeId) (i j k:Nat) (x y z:Operand) (ho:o.op = .build t #[(i,x),(j,y),(k,z)]) (xv yv zv v:Value) (hx:a.eval x=xv) (hy:a.eval y=yv) (hz:a.eval z=zv)
 (hrun:(Instr.build t #[(i,xv),(j,yv),(k,zv)]).run P w = .ok v w):(execOp a.eval o).run P w = .ok (.value v) w :=
 exec_build t _ ho v (by simp only [List.map_toArray,List.map_cons,List.map_nil,hx,hy,hz];exact hrun)
theorem run_sM (g n:Nat) (w:World):(Instr.build 132 #[(0,pt g 30),(1,mval 77 g 0),(2,.agg (portsN (fxE g (mE n)).rdM (fxE g (mE n)).wrM 32).toArray)]).run Tryz.prog w = .ok (.agg (sM g n).toArray) w:=by kernel_rfl
theorem run_sA (g a:Nat) (w:World):(Instr.build 132 #[(0,pt g 31),(1,mval 79 g 0),(2,.agg (apL a g 24).toArray)]).run Tryz.prog w = .ok (.agg (sA g a).toArray) w:=by kernel_rfl
theorem readyH_store {P:Program} {md:Region.Mode} {ops:Array Oper} {Q:Exit->Act->World->Prop} {S:World->Prop} {fuel:Nat} {listed:Array Bool} {a:Act} {w:World} {i:Nat} {op:Oper} (hr:Region.ready md ops listed=[i]) (hi:ops[i]? = some op) (hgd:op.guard=none) (ty:TypeId) (x y:Operand) (ho:op.op = .store ty x y)
 (b o:Nat) (cells:Array Value) (hx:a.eval x = .pointer (some ⟨b,o,none⟩)) (hy:a.eval y = .agg cells) (ht:w.there b o cells.size) (hn:(P.info? ty).map (·.size)=some cells.size) (h1:cells.all (·.oneCell')=true) (hS:S (w.setCells b o cells.toList))
 (h:wpAnyH P md ops Q S fuel (listed.setIfInBounds i true) (a.put op.dst undef) (w.setCells b o cells.toList)):wpAnyH P md ops Q S (fuel+1) listed a w :=
 wpAnyH_ready hr (by simp) (AllReadyH.cons hi (fun K hK=>step_store_mid hgd ty x y ho b o cells hx hy ht hn h1 (hK.out _ _ hS (fun _=>h))) AllReadyH.nil)
theorem sM_sz (g n:Nat):(sM g n).toArray.size=66:=by rw [List.size_toArray,sM_len]
theorem sA_sz (g n:Nat):(sA g n).toArray.size=66:=by rw [List.size_toArray,sA_len]
theorem fit_lens {M:Mach} (hf:M.fit):∀ j,j < 5->(M.byt j).length<=1024:=fun j hj=>by
 rcases five hj with rfl | rfl | rfl | rfl | rfl
 ·exact hf.mrom
 ·exact hf.arom
 ·show M.ram.length<=1024;rw [hf.ram];omega
 ·show M.own.length<=1024;rw [hf.own];omega
 ·show M.video.length<=1024;rw [hf.video];omega
theorem Bu.open_bad (M:Mach) (S:Sl) (w:World) (hS:S.lens M) (hz:∀ j,j < 5->(M.byt j).length<=9223372036854775807) (hc:M.chk ≠ 0) :
 Calls Tryz.prog 45 #[.agg (machL M S).toArray] w fun e w'=>e = .returned (.tuple #[.pointer none,.int .i64 M.chk])/\Below w.heap.size w w':=by
 have hB:=Bx.new w (machL M S) 41 (b:=w.heap.size) rfl
 have HB:=hid hB
 have HSL:=hid hS
 have HZ:=hid hz
 have hne:(M.chk == 0)=false:=by simpa using hc
 clear hB hS hz hc
 generalize hcc:M.chk=c at *
 have HCC:=hid hcc
 clear hcc
 go_enter Tryz.func45,Tryz.ntmps45
 go_wp2_with (first
  | (refine wpList_load_mid rfl 41 _ rfl w.heap.size 0 rfl (machL M S) _ HB.out.c Tryz.underlying41 rfl info_mach ?_)
  | (go_at_call 75;refine (Bu.check_any M S _ HSL.out HZ.out).mono ?_;rw [HCC.out];rintro e w1 ⟨rfl,hb1⟩;have HL1:=hid (stp (stA (st0 w) (.cells (machL M S).toArray 41)) hb1)))
 go_ret2
 exact ⟨rfl,HL1.out⟩
theorem one66 {v0 v1:Value} {L:List Value} (h0:v0.oneCell'=true) (h1:v1.oneCell'=true) (h:∀ v ∈ L,v.oneCell'=true):(v0 :: v1 :: L).toArray.all (·.oneCell')=true :=
 all_oneCell_toArray (fun v hv=>by
  simp only [List.mem_cons] at hv
  rcases hv with rfl | rfl | hv
  ·exact h0
  ·exact h1
  ·exact h v hv)
theorem one_m (g n:Nat):(sM g n).toArray.all (·.oneCell')=true:=one66 rfl rfl (fun v hv=>by
 obtain ⟨i,rfl | rfl⟩:=mem_ports _ _ v 32 hv
 ·exact oneR _ _
 ·exact oneW _ _)
theorem one_a (g a:Nat):(sA g a).toArray.all (·.oneCell')=true:=one66 rfl rfl (fun v hv=>by
 obtain ⟨i,rfl | rfl⟩:=mem_ports _ _ v 32 hv
 ·unfold apR;split <;> rfl
 ·unfold apW;split
  ·rfl
  ·split <;> rfl)
theorem OwnK.room {B:Nat} {M:Mach} {S:Sl} {Y:World} (h:OwnK B M S 5 Y) (hf:M.fit):B<=Y.heap.size:=by
 rcases h.own 2 (by omega) with ⟨_,e⟩ | ⟨b,cap,_,_,h3,h4⟩
 ·have e':M.ram=[]:=e
  have:=hf.ram
  rw [e'] at this
  simp at this
 ·have:=h4.z;omega
structure OP (w w2 : World) (M : Mach) (S1 : Sl) (A B : List Value) (Y : World) : Prop where
 low:Below w.heap.size w Y
 bx:Bx Y w2.heap.size (halfL M S1 A B)
 old:∀ b,b < w2.heap.size->Y.heap[b]? = w2.heap[b]?
theorem OP.kept {w w2:World} {M:Mach} {S1:Sl} {A B:List Value} {Y Y':World} (h:OP w w2 M S1 A B Y) (hb:Below Y.heap.size Y Y'):OP w w2 M S1 A B Y' :=
 ⟨stp h.low hb,h.bx.kept hb,fun b hb2=>(hb.block b (by have:=h.bx.z;omega)).trans (h.old b hb2)⟩
section
variable {w w2 : World} {M : Mach} {S1 : Sl} {A B : List Value} {Y : World} {g : Nat}
theorem OP.drew' (h:OP w w2 M S1 A B Y):OP w w2 M S1 A B Y.drew:=⟨h.low.drew,h.bx.drew,h.old⟩
theorem OP.bx' (h:OP w w2 M S1 A B Y) (hg:w2.heap.size=g):Bx Y g (halfL M S1 A B):=hg ▸ h.bx
theorem OP.th77 (h:OP w w2 M S1 nil66 nil66 Y) (hg:w2.heap.size=g):Y.there g 77 66:=(h.bx' hg).there 77 66 (by rw [halfL_len _ _ _ _ nil66_len nil66_len];omega)
theorem OP.th143 (h:OP w w2 M S1 A nil66 Y) (hg:w2.heap.size=g) (hA:A.length=66):Y.there g 143 66:=(h.bx' hg).there 143 66 (by rw [halfL_len _ _ _ _ hA nil66_len];omega)
theorem OP.put1 {A':List Value} (h:OP w w2 M S1 nil66 nil66 Y) (hg:w2.heap.size=g) (hA:A'.length=66) (hw:w.heap.size<=g):OP w w2 M S1 A' nil66 (Y.setCells g 77 A'):=by
 subst hg
 have hx:=h.bx.puts 77 A' (by rw [halfL_len _ _ _ _ nil66_len nil66_len];omega)
 rw [halfL_put1 _ _ _ _ _ (by rw [hA,nil66_len])] at hx
 exact ⟨Bl.puts h.low hw _,hx,fun b hb=>(heap_sets_far (by omega) _ _ _).trans (h.old b hb)⟩
theorem OP.put2 {B':List Value} (h:OP w w2 M S1 A nil66 Y) (hg:w2.heap.size=g) (hA:A.length=66) (hB:B'.length=66) (hw:w.heap.size<=g):OP w w2 M S1 A B' (Y.setCells g 143 B'):=by
 subst hg
 have hx:=h.bx.puts 143 B' (by rw [halfL_len _ _ _ _ hA nil66_len];omega)
 rw [halfL_put2 _ _ _ _ _ hA (by rw [hB,nil66_len])] at hx
 exact ⟨Bl.puts h.low hw _,hx,fun b hb=>(heap_sets_far (by omega) _ _ _).trans (h.old b hb)⟩
theorem EnvM.keep {n:Nat} {Y':World} (h:EnvM g (mE n) Y) (hb:Below Y.drew.heap.size Y.drew Y'):EnvM g (mE n) Y':=by
 obtain ⟨e0,e1,e2,e3,e4,e5,e6,e7,e8,e9,e10⟩:=h
 exact ⟨e0.drew.kept hb,e1.drew.kept hb,e2.drew.kept hb,e3.drew.kept hb,e4.drew.kept hb,e5.drew.kept hb,e6.drew.kept hb,e7.drew.kept hb,e8.drew.kept hb,e9.drew.kept hb,e10.drew.kept hb⟩
theorem EnvM.off {n o:Nat} {vs:List Value} (h:EnvM g (mE n) Y) (hn:g < n):EnvM g (mE n) (Y.setCells g o vs):=by
 obtain ⟨e0,e1,e2,e3,e4,e5,e6,e7,e8,e9,e10⟩:=h
 exact ⟨e0.fars (by show g ≠ n+1;omega) _ _,e1.fars (by show g ≠ n+2;omega) _ _,e2.fars (by show g ≠ n+3;omega) _ _,e3.fars (by show g ≠ n+4;omega) _ _,e4.fars (by show g ≠ n+5;omega) _ _,e5.fars (by show g ≠ n+6;omega) _ _,e6.fars (by show g ≠ n+7;omega) _ _,e7.fars (by show g ≠ n+8;omega) _ _,e8.fars (by show g ≠ n+9;omega) _ _,e9.fars (by show g ≠ n+10;omega) _ _,e10.fars (by show g ≠ n+11;omega) _ _⟩
def ApB (g a:Nat) (Y:World):Prop:=Bx Y a [pt g 0] /\ ∀ k,k < 24->Bx Y (a+3+2 * k) [pt g 0]/\Bx Y (a+4+2 * k) [.int .i64 k]
theorem ap_box {Z X w4:World} (h:LnAP Z g 24 X) (hs:∀ k,k ≠ Z.heap.size+1->w4.heap[k]? = X.heap[k]?) (hz:X.heap.size=w4.heap.size):ApB g Z.heap.size w4 :=
 ⟨h.b.same (Nat.le_of_eq hz) (hs _ (by omega)),fun k hk=>⟨(h.sb k hk).1.same (Nat.le_of_eq hz) (hs _ (by omega)),(h.sb k hk).2.same (Nat.le_of_eq hz) (hs _ (by omega))⟩⟩
theorem ap_off {a o:Nat} {vs:List Value} (h:ApB g a Y) (ha:g < a):ApB g a (Y.setCells g o vs) :=
 ⟨h.1.fars (by omega) _ _,fun k hk=>⟨(h.2 k hk).1.fars (by omega) _ _,(h.2 k hk).2.fars (by omega) _ _⟩⟩
end
theorem Bu.open_ok (M:Mach) (S:Sl) (w:World) (hS:S.lens M) (hs:∀ j,j < 5->sliceAt w (S.get j) (M.byt j)) (hf:M.fit) (hf2:M.b.f<=20000) :
 Calls Tryz.prog 45 #[.agg (machL M S).toArray] w fun e w'=>∃ F:Fx,F.B=w.heap.size/\e = .returned (.tuple #[pt F.g 0,.int .i64 0])/\(F.B<=F.mr/\F.B<=F.ar)/\Bd F w' M Tk.zero/\Below w.heap.size w w':=by
 have hB:=Bx.new w (machL M S) 41 (b:=w.heap.size) rfl
 have HB:=hid hB
 have HS:=hid hs
 have HC:=hid (fit_chk hf hf2)
 have HSL:=hid hS
 have HF:=hid hf
 have HLL:=hid (fit_lens hf)
 clear hB hs hS hf
 go_enter Tryz.func45,Tryz.ntmps45
 go_wp2_with (first
  | (refine wpList_load_mid rfl 41 _ rfl w.heap.size 0 rfl (machL M S) _ HB1.out.c Tryz.underlying41 rfl info_mach ?_)
  | (refine wpList_load_mid rfl 41 _ rfl w.heap.size 0 rfl (machL M S) _ HB.out.c Tryz.underlying41 rfl info_mach ?_)
  | (refine wpList_build1 rfl 134 0 _ rfl (.agg (machL M S1).toArray) _ rfl (run_board M S1 _) ?_)
  | (go_at_call 75;refine (Bu.check_any M S _ HSL.out (fun j hj=>Nat.le_trans (HLL.out j hj) (by omega))).mono ?_;rw [HC.out];rintro e w1 ⟨rfl,hb1⟩;have HB1:=hid (HB.out.kept hb1);have HL1:=hid (stp (stA (st0 w) (.cells (machL M S).toArray 41)) hb1))
  | (go_at_call 76;refine (Bu.copy_any M S _ (fun j hj=>(HS.out j hj).kept HL1.out) (fun j hj=>Nat.le_trans (HLL.out j hj) (by omega))).mono ?_;rintro e w2 ⟨S1,rfl,ho,hb2⟩;have HO:=hid ho;have HL2:=hid (stp HL1.out hb2);have hz2:=hb2.size;clear ho hb2 hb1))
 have hz0:w.heap.size<=w1.heap.size:=HL1.out.size
 have HZ:=hid hz2
 have HW2:=hid HL2.out.size
 have HZ0:=hid hz0
 refine Pl.cutW (OP w w2 M S1 nil66 nil66) ⟨stA HL2.out _,Bx.new w2 _ _ rfl,fun b hb=>Below.heap_alloc _ _ _ hb⟩ ?_
 intro Y hY
 have HY:=hid hY
 clear hY hz2 hz0
 generalize hg:w2.heap.size=g at *
 have HG:=hid hg
 clear hg
 refine wp_region_held_drew (S:=fun _=>True) (by kernel_rfl) trivial ?_
 intro _
 refine wpAnyH_take (i:=0) (oi:=⟨some 15,_,_,_,_,none⟩) (v:=?_) rfl (by kernel_rfl) (by kernel_rfl) (by kernel_rfl) (fun _ _ _ h=>h) (Or.inl ⟨by rfl,?_⟩) trivial ?_
 rotate_left 1
 focus (intro w hSw;go_simp;try (with_reducible rfl))
 simp only [Act.put,xA,xB,xC]
 refine wpAnyH_take (i:=1) (oi:=⟨some 16,_,_,_,_,none⟩) (v:=?_) rfl (by kernel_rfl) (by kernel_rfl) (by kernel_rfl) (fun _ _ _ h=>h) (Or.inl ⟨by rfl,?_⟩) trivial ?_
 rotate_left 1
 focus (intro w hSw;go_simp;try (with_reducible rfl))
 simp only [Act.put,xA,xB,xC]
 refine wpAnyH_take (i:=2) (oi:=⟨some 17,_,_,_,_,none⟩) (v:=?_) rfl (by kernel_rfl) (by kernel_rfl) (by kernel_rfl) (fun _ _ _ h=>h) (Or.inl ⟨by rfl,?_⟩) trivial ?_
 rotate_left 1
 focus (intro w hSw;go_simp;try (with_reducible rfl))
 simp only [Act.put,xA,xB,xC]
 refine wpAnyH_take (i:=3) (oi:=⟨some 18,_,_,_,_,none⟩) (v:=?_) rfl (by kernel_rfl) (by kernel_rfl) (by kernel_rfl) (fun _ _ _ h=>h) (Or.inl ⟨by rfl,?_⟩) trivial ?_
 rotate_left 1
 focus (intro w hSw;go_simp;try (with_reducible rfl))
 simp only [Act.put,xA,xB,xC]
 refine wpAnyH_take (i:=4) (oi:=⟨some 19,_,_,_,_,none⟩) (v:=?_) rfl (by kernel_rfl) (by kernel_rfl) (by kernel_rfl) (fun _ _ _ h=>h) (Or.inl ⟨by rfl,?_⟩) trivial ?_
 rotate_left 1
 focus (intro w hSw;go_simp;try (with_reducible rfl))
 simp only [Act.put,xA,xB,xC]
 refine wpAnyH_take (i:=5) (oi:=⟨some 20,_,_,_,_,none⟩) (v:=?_) rfl (by kernel_rfl) (by kernel_rfl) (by kernel_rfl) (fun _ _ _ h=>h) (Or.inl ⟨by rfl,?_⟩) trivial ?_
 rotate_left 1
 focus (intro w hSw;go_simp;try (with_reducible rfl))
 simp only [Act.put,xA,xB,xC]
 refine wpAnyH_take (i:=6) (oi:=⟨some 21,_,_,_,_,none⟩) (v:=?_) rfl (by kernel_rfl) (by kernel_rfl) (by kernel_rfl) (fun _ _ _ h=>h) (Or.inl ⟨by rfl,?_⟩) trivial ?_
 rotate_left 1
 focus (intro w hSw;go_simp;try (with_reducible rfl))
 simp only [Act.put,xA,xB,xC]
 refine wpAnyH_take (i:=7) (oi:=⟨some 22,_,_,_,_,none⟩) (v:=?_) rfl (by kernel_rfl) (by kernel_rfl) (by kernel_rfl) (fun _ _ _ h=>h) (Or.inl ⟨by rfl,?_⟩) trivial ?_
 rotate_left 1
 focus (intro w hSw;go_simp;try (with_reducible rfl))
 simp only [Act.put,xA,xB,xC]
 refine wpAnyH_ready (rs:=[8]) (by kernel_rfl) (by simp) ?_
 refine AllReadyH.cons (o:=⟨some 23,_,_,_,_,none⟩) rfl (fun K hK=>?_) AllReadyH.nil
 go_simp
 go_at_call 78
 refine (Bu.mports_any g _).mono ?_
 rintro e w3 ⟨rfl,hb3,hE⟩
 have HY3:=hid (HY.out.drew'.kept hb3)
 have HE:=hid hE
 have HN:Hid (g < Y.drew.heap.size):=hid (by have:=HY.out.bx.z;rw [HG.out] at this;exact this)
 clear hb3 hE
 generalize hn:Y.drew.heap.size=n at *
 clear hn
 try go_wp2_with fail
 refine hK.out _ _ trivial (fun _=>?_)
 clear hK K
 try simp only [Act.put,xA,xB,xC]
 refine wpAnyH_take (i:=9) (oi:=⟨some 24,_,_,_,_,none⟩) (v:=.agg (sM g n).toArray) rfl (by kernel_rfl) (by kernel_rfl) (by kernel_rfl) (fun _ _ _ h=>h) (Or.inl ⟨by rfl,fun w _=>exec_build3 132 0 1 2 _ _ _ rfl (pt g 30) (mval 77 g 0) (.agg (portsN (fxE g (mE n)).rdM (fxE g (mE n)).wrM 32).toArray) (.agg (sM g n).toArray) rfl rfl rfl (run_sM g n w)⟩) trivial ?_
 simp only [Act.put,xA,xB,xC]
 refine wpAnyH_take (i:=10) (oi:=⟨some 25,_,_,_,_,none⟩) (v:=?_) rfl (by kernel_rfl) (by kernel_rfl) (by kernel_rfl) (fun _ _ _ h=>h) (Or.inl ⟨by rfl,?_⟩) trivial ?_
 rotate_left 1
 focus (intro w hSw;go_simp;try (with_reducible rfl))
 simp only [Act.put,xA,xB,xC]
 refine wpAnyH_take (i:=11) (oi:=⟨some 26,_,_,_,_,none⟩) (v:=?_) rfl (by kernel_rfl) (by kernel_rfl) (by kernel_rfl) (fun _ _ _ h=>h) (Or.inl ⟨by rfl,?_⟩) trivial ?_
 rotate_left 1
 focus (intro w hSw;go_simp;try (with_reducible rfl))
 simp only [Act.put,xA,xB,xC]
 refine readyH_store (i:=12) (op:=⟨none,_,_,_,_,none⟩) (by kernel_rfl) rfl rfl 132 _ _ rfl g 77 (sM g n).toArray rfl rfl (by rw [sM_sz];exact HY3.out.th77 HG.out) (by rw [sM_sz];exact info_side) (one_m g n) trivial ?_
 refine wpAnyH_done (by kernel_rfl) ?_ _
 refine Pl.cutE (fun Z=>OP w w2 M S1 (sM g n) nil66 Z/\EnvM g (mE n) Z) ⟨OP.put1 HY3.out HG.out (sM_len g n) HW2.out,HE.out.off HN.out⟩ ?_
 rintro Z ⟨hZ1,hZ2⟩
 have HZ1:=hid hZ1
 have HZ2:=hid hZ2
 clear hZ1 hZ2
 go_wp2
 refine wp_region_held_drew (S:=fun _=>True) (by kernel_rfl) trivial ?_
 intro _
 refine wpAnyH_take (i:=0) (oi:=⟨some 27,_,_,_,_,none⟩) (v:=?_) rfl (by kernel_rfl) (by kernel_rfl) (by kernel_rfl) (fun _ _ _ h=>h) (Or.inl ⟨by rfl,?_⟩) trivial ?_
 rotate_left 1
 focus (intro w hSw;go_simp;try (with_reducible rfl))
 simp only [Act.put,xA,xB,xC]
 refine wpAnyH_take (i:=1) (oi:=⟨some 28,_,_,_,_,none⟩) (v:=?_) rfl (by kernel_rfl) (by kernel_rfl) (by kernel_rfl) (fun _ _ _ h=>h) (Or.inl ⟨by rfl,?_⟩) trivial ?_
 rotate_left 1
 focus (intro w hSw;go_simp;try (with_reducible rfl))
 simp only [Act.put,xA,xB,xC]
 refine wpAnyH_take (i:=2) (oi:=⟨some 29,_,_,_,_,none⟩) (v:=?_) rfl (by kernel_rfl) (by kernel_rfl) (by kernel_rfl) (fun _ _ _ h=>h) (Or.inl ⟨by rfl,?_⟩) trivial ?_
 rotate_left 1
 focus (intro w hSw;go_simp;try (with_reducible rfl))
 simp only [Act.put,xA,xB,xC]
 refine wpAnyH_take (i:=3) (oi:=⟨some 30,_,_,_,_,none⟩) (v:=?_) rfl (by kernel_rfl) (by kernel_rfl) (by kernel_rfl) (fun _ _ _ h=>h) (Or.inl ⟨by rfl,?_⟩) trivial ?_
 rotate_left 1
 focus (intro w hSw;go_simp;try (with_reducible rfl))
 simp only [Act.put,xA,xB,xC]
 refine wpAnyH_take (i:=4) (oi:=⟨some 31,_,_,_,_,none⟩) (v:=?_) rfl (by kernel_rfl) (by kernel_rfl) (by kernel_rfl) (fun _ _ _ h=>h) (Or.inl ⟨by rfl,?_⟩) trivial ?_
 rotate_left 1
 focus (intro w hSw;go_simp;try (with_reducible rfl))
 simp only [Act.put,xA,xB,xC]
 refine wpAnyH_take (i:=5) (oi:=⟨some 32,_,_,_,_,none⟩) (v:=?_) rfl (by kernel_rfl) (by kernel_rfl) (by kernel_rfl) (fun _ _ _ h=>h) (Or.inl ⟨by rfl,?_⟩) trivial ?_
 rotate_left 1
 focus (intro w hSw;go_simp;try (with_reducible rfl))
 simp only [Act.put,xA,xB,xC]
 refine wpAnyH_take (i:=6) (oi:=⟨some 33,_,_,_,_,none⟩) (v:=?_) rfl (by kernel_rfl) (by kernel_rfl) (by kernel_rfl) (fun _ _ _ h=>h) (Or.inl ⟨by rfl,?_⟩) trivial ?_
 rotate_left 1
 focus (intro w hSw;go_simp;try (with_reducible rfl))
 simp only [Act.put,xA,xB,xC]
 refine wpAnyH_take (i:=7) (oi:=⟨some 34,_,_,_,_,none⟩) (v:=?_) rfl (by kernel_rfl) (by kernel_rfl) (by kernel_rfl) (fun _ _ _ h=>h) (Or.inl ⟨by rfl,?_⟩) trivial ?_
 rotate_left 1
 focus (intro w hSw;go_simp;try (with_reducible rfl))
 simp only [Act.put,xA,xB,xC]
 refine wpAnyH_ready (rs:=[8]) (by kernel_rfl) (by simp) ?_
 refine AllReadyH.cons (o:=⟨some 35,_,_,_,_,none⟩) rfl (fun K hK=>?_) AllReadyH.nil
 go_simp
 go_at_call 80
 refine (Bu.aports_any g _).mono ?_
 rintro e w4 ⟨rfl,X,hX,hb4,hsame,hsz⟩
 have HZ4:=hid (HZ1.out.drew'.kept hb4)
 have HE4:=hid (HZ2.out.keep hb4)
 have HX:=hid (ap_box hX hsame hsz)
 have HA:Hid (g < Z.drew.heap.size):=hid (by have:=HZ1.out.bx.z;rw [HG.out] at this;exact this)
 clear hb4 hX hsame hsz
 generalize ha:Z.drew.heap.size=a at *
 clear ha
 try go_wp2_with fail
 refine hK.out _ _ trivial (fun _=>?_)
 clear hK K
 try simp only [Act.put,xA,xB,xC]
 refine wpAnyH_take (i:=9) (oi:=⟨some 36,_,_,_,_,none⟩) (v:=.agg (sA g a).toArray) rfl (by kernel_rfl) (by kernel_rfl) (by kernel_rfl) (fun _ _ _ h=>h) (Or.inl ⟨by rfl,fun w _=>exec_build3 132 0 1 2 _ _ _ rfl (pt g 31) (mval 79 g 0) (.agg (apL a g 24).toArray) (.agg (sA g a).toArray) rfl rfl rfl (run_sA g a w)⟩) trivial ?_
 simp only [Act.put,xA,xB,xC]
 refine wpAnyH_take (i:=10) (oi:=⟨some 37,_,_,_,_,none⟩) (v:=?_) rfl (by kernel_rfl) (by kernel_rfl) (by kernel_rfl) (fun _ _ _ h=>h) (Or.inl ⟨by rfl,?_⟩) trivial ?_
 rotate_left 1
 focus (intro w hSw;go_simp;try (with_reducible rfl))
 simp only [Act.put,xA,xB,xC]
 refine wpAnyH_take (i:=11) (oi:=⟨some 38,_,_,_,_,none⟩) (v:=?_) rfl (by kernel_rfl) (by kernel_rfl) (by kernel_rfl) (fun _ _ _ h=>h) (Or.inl ⟨by rfl,?_⟩) trivial ?_
 rotate_left 1
 focus (intro w hSw;go_simp;try (with_reducible rfl))
 simp only [Act.put,xA,xB,xC]
 refine readyH_store (i:=12) (op:=⟨none,_,_,_,_,none⟩) (by kernel_rfl) rfl rfl 132 _ _ rfl g 143 (sA g a).toArray rfl rfl (by rw [sA_sz];exact HZ4.out.th143 HG.out (sM_len g n)) (by rw [sA_sz];exact info_side) (one_a g a) trivial ?_
 refine wpAnyH_done (by kernel_rfl) ?_ _
 refine Pl.cutE (fun V=>∃ F:Fx,F.B=w.heap.size/\F.g=g/\(F.B<=F.mr/\F.B<=F.ar)/\Bd F V M Tk.zero/\Below w.heap.size w V) ?_ ?_
 ·obtain ⟨F,f1,f2,f3,f4⟩:=Bd.make (B:=w.heap.size) (n:=n) (a:=a) HO.out (by have:=HZ0.out;omega) (HO.out.room HF.out) HF.out (by rw [HG.out];exact (OP.put2 HZ4.out HG.out (sM_len g n) (sA_len g a) HW2.out).bx' HG.out) (OP.put2 HZ4.out HG.out (sM_len g n) (sA_len g a) HW2.out).old (by rw [HG.out];exact HE4.out.off HN.out) (by rw [HG.out];exact HN.out) (by rw [HG.out];exact ap_off HX.out HA.out) (by rw [HG.out];exact HA.out)
  exact ⟨F,f1,f2.trans HG.out,f3,f4,(OP.put2 HZ4.out HG.out (sM_len g n) (sA_len g a) HW2.out).low⟩
 rintro V ⟨F,hV1,hV2,hV0,hV3,hV4⟩
 have HV0:=hid hV0
 have HV1:=hid hV1
 have HV2:=hid hV2
 have HV3:=hid hV3
 have HV4:=hid hV4
 clear hV1 hV2 hV3 hV4 hV0
 go_wp2
 go_ret2
 exact ⟨F,HV1.out,by rw [HV2.out];rfl,HV0.out,HV3.out,HV4.out⟩
def SlAt (W:World) (S:Sl) (M:Mach):Prop:=∀ j,j < 5->sliceAt W (S.get j) (M.byt j)
theorem SlAt.kept {W W':World} {S:Sl} {M:Mach} (h:SlAt W S M) (hb:Below W.heap.size W W'):SlAt W' S M:=fun j hj=>(h j hj).kept hb
theorem SlAt.lens {W:World} {S:Sl} {M:Mach} (h:SlAt W S M):S.lens M:=fun j hj=>slice_len (h j hj)
theorem Bd.slAt {F:Fx} {W:World} {M:Mach} {tk:Tk} (h:Bd F W M tk):SlAt W F.S M:=fun j hj=>by
 rcases five hj with rfl | rfl | rfl | rfl | rfl
 ·exact h.mr.slice
 ·exact h.ar.slice
 ·exact h.ra.slice
 ·exact h.ow.slice
 ·exact h.vi.slice
theorem Bd.isSl {F:Fx} {W:World} {M:Mach} {tk:Tk} (h:Bd F W M tk):F.S.isSl:=fun j hj=>by
 obtain ⟨a,c,e⟩:=h.slAt.lens j hj
 exact ⟨_,_,_,e⟩
theorem Bd.row {F:Fx} {W:World} {M:Mach} {tk:Tk} (h:Bd F W M tk):W.rangeAt F.g 0 (machL M F.S):=fun i v hi=>by
 refine h.at (0+i) v ?_
 rw [Nat.zero_add]
 unfold Fx.cells
 rw [List.getElem?_append_left (List.getElem?_eq_some_iff.1 hi).1]
 exact hi
def took (aux:Bool) (a n:Int):Int:=if aux then 0 else tookM a n
def SlNew (n:Nat) (S:Sl):Prop:=∀ j,j < 5->∀ a m c,S.get j = .slice (some a) m c->n<=a.block
theorem Rw.ge {W:World} {v:Value} {k n:Nat} {l:List UInt8} (h:Rw W v k l) (hk:n<=k):∀ (a:Addr) (m c:Nat),v = .slice (Option.some a) m c->n<=a.block:=fun a m c e=>by
 rcases h with ⟨e1,_⟩ | ⟨cap,e1,_⟩
 ·rw [e1] at e;cases e
 ·rw [e1] at e;cases e;exact hk
theorem Bd.slNew {F:Fx} {W:World} {M:Mach} {tk:Tk} (h:Bd F W M tk) (hr:F.B<=F.mr/\F.B<=F.ar):SlNew F.B F.S:=fun j hj=>by
 rcases five hj with rfl | rfl | rfl | rfl | rfl
 ·exact h.mr.ge hr.1
 ·exact h.ar.ge hr.2
 ·exact h.ra.ge h.nd.lo.2.1
 ·exact h.ow.ge h.nd.lo.2.2.1
 ·exact h.vi.ge h.nd.lo.2.2.2
theorem SlNew.mono {n m:Nat} {S:Sl} (h:SlNew n S) (hm:m<=n):SlNew m S:=fun j hj a k c e=>Nat.le_trans hm (h j hj a k c e)
theorem SlAt.off {W:World} {S:Sl} {M:Mach} {n b:Nat} (h:SlAt W S M) (hn:SlNew n S) (hb:b < n) (o:Nat) (vs:List Value):SlAt (W.setCells b o vs) S M:=fun j hj=>by
 rcases h j hj with h0 | ⟨g,o',cap,e1,e2,e3,e4⟩
 ·exact Or.inl h0
 ·have hg:n<=g:=hn j hj _ _ _ e1
  exact Or.inr ⟨g,o',cap,e1,e2,by rw [size_sets];exact e3,fun i c hi=>(World.cell?_of_block (heap_sets_far (x:=g) (b:=b) (by omega) vs o W)).trans (e4 i c hi)⟩
structure RB (w : World) (F : Fx) (M : Mach) (tk : Tk) (L : List Value) (Y : World) : Prop where
 bd:Bd F Y M tk
 low:Below w.heap.size w Y
 res:Bx Y (w.heap.size+1) L
 B:w.heap.size+1 < F.B
 r:F.B<=F.mr/\F.B<=F.ar
theorem RB.go {w Y Y':World} {F:Fx} {M M':Mach} {tk tk':Tk} {L:List Value} (h:RB w F M tk L Y) (hB:Bd F Y' M' tk') (ht:Bt F Y Y'):RB w F M' tk' L Y':=by
 have hb:=h.B
 exact ⟨hB,h.low.trans ((Mv.below ht).mono (by omega)),h.res.under (Mv.below ht) hb,hb,h.r⟩
theorem RB.kept {w Y Y':World} {F:Fx} {M:Mach} {tk:Tk} {L:List Value} (h:RB w F M tk L Y) (hb:Below Y.heap.size Y Y'):RB w F M tk L Y':=h.go (h.bd.kept hb) (Mv.of_below h.bd.big hb)
theorem RB.drew {w Y:World} {F:Fx} {M:Mach} {tk:Tk} {L:List Value} (h:RB w F M tk L Y):RB w F M tk L Y.drew:=h.kept (st0 Y).drew
theorem Rw.offB {W:World} {v:Value} {k b:Nat} {l:List UInt8} (h:Rw W v k l) (hn:b ≠ k) (o:Nat) (vs:List Value):Rw (W.setCells b o vs) v k l:=by
 rcases h with h | ⟨cap,e,hl,hx⟩
 ·exact Or.inl h
 ·exact Or.inr ⟨cap,e,hl,hx.fars hn o vs⟩
theorem RB.fin {w Y:World} {F:Fx} {M:Mach} {tk:Tk} {L L':List Value} (h:RB w F M tk L Y) (hl:L'.length=L.length):Below w.heap.size w (Y.setCells (w.heap.size+1) 0 L')/\Bx (Y.setCells (w.heap.size+1) 0 L') (w.heap.size+1) L'/\SlAt (Y.setCells (w.heap.size+1) 0 L') F.S M:=by
 have hx:=h.res.puts 0 L' (by omega)
 rw [putL_whole _ _ hl] at hx
 have lo:=h.bd.nd.lo
 have hB:=h.B
 have hr:=h.r
 refine ⟨Bl.puts h.low (by omega) _,hx,fun j hj=>?_⟩
 rcases five hj with rfl | rfl | rfl | rfl | rfl
 ·exact (h.bd.mr.offB (by omega) _ _).slice
 ·exact (h.bd.ar.offB (by omega) _ _).slice
 ·exact (h.bd.ra.offB (by omega) _ _).slice
 ·exact (h.bd.ow.offB (by omega) _ _).slice
 ·exact (h.bd.vi.offB (by omega) _ _).slice
section
variable {F : Fx} {W : World} {M : Mach} {tk : Tk}
theorem Bu.write_A (h:Bd F W M tk) (a n:Int) (ha:0<=a/\a<=65535) (hn:0<=n/\n<=255) (hp:∀ i,i < 32->PutA F M tk i n) :
 Calls Tryz.prog 83 #[pt F.g 143,.int .u16 a,.int .u8 n] W fun e w'=>e = .returned (.tuple #[])/\EndA F W w' (M.wrA a n) tk (M.shA a n):=by
 unfold Mach.wrA Mach.shA
 cases hP:isPort a
 ·have hm:=hid (Bu.mem_A h a ha)
  have e77:=h.at2 1 (mval 79 F.g 0) rfl
  have hP':=hid hP
  have H:=hid h
  have hg:=h.bx.z
  clear h hP hp
  simp only [Bool.false_eq_true,if_false]
  unfold Mach.memA
  unfold Fx.memA at hm
  by_cases h1:a < 32768
  ·rw [if_pos h1]
   rw [if_pos h1] at hm
   go_enter Tryz.func83,Tryz.ntmps83
   go_wp2_with (first
    | (go_at_call 134;refine (Bu.isPort_any a _ ha).mono ?_;rw [hP'.out];rintro e w1 ⟨rfl,rfl⟩)
    | (go_at_call 79;refine hm.out.mono ?_;rintro e w1 ⟨rfl,rfl⟩))
   go_end0
   exact ⟨rfl,endA H.out rfl (Bt.refl _ _)⟩
  ·rw [if_neg h1]
   rw [if_neg h1] at hm
   by_cases h2:a < 49152
   ·rw [if_pos h2]
    rw [if_pos h2] at hm
    obtain ⟨ec,ez,ef⟩:=H.out.ownAt ((a - 32768) % 64) (by omega) (by omega)
    go_enter Tryz.func83,Tryz.ntmps83
    go_wp2_with (first
     | (go_at_call 134;refine (Bu.isPort_any a _ ha).mono ?_;rw [hP'.out];rintro e w1 ⟨rfl,rfl⟩)
     | (go_at_call 79;refine hm.out.mono ?_;rintro e w1 ⟨rfl,rfl⟩))
    go_end0
    exact ⟨rfl,endA (H.out.putOwn _ n (by omega) (by omega) hn) rfl ((Bt.refl _ _).setO H.out.nd _ _)⟩
   ·rw [if_neg h2]
    rw [if_neg h2] at hm
    by_cases h3:a < 53248
    ·rw [if_pos h3]
     rw [if_pos h3] at hm
     obtain ⟨ec,ez,ef⟩:=H.out.ramAt ((a - 49152) % 128) (by omega) (by omega)
     cases hgr:M.granted
     ·rw [hgr] at hm
      go_enter Tryz.func83,Tryz.ntmps83
      go_wp2_with (first
       | (go_at_call 134;refine (Bu.isPort_any a _ ha).mono ?_;rw [hP'.out];rintro e w1 ⟨rfl,rfl⟩)
       | (go_at_call 79;refine hm.out.mono ?_;rintro e w1 ⟨rfl,rfl⟩))
      go_end0
      exact ⟨rfl,endA H.out rfl (Bt.refl _ _)⟩
     ·rw [hgr] at hm
      go_enter Tryz.func83,Tryz.ntmps83
      go_wp2_with (first
       | (go_at_call 134;refine (Bu.isPort_any a _ ha).mono ?_;rw [hP'.out];rintro e w1 ⟨rfl,rfl⟩)
       | (go_at_call 79;refine hm.out.mono ?_;rintro e w1 ⟨rfl,rfl⟩))
      go_end0
      have hX:=H.out.putRam ((a - 49152) % 128) n (by omega) (by omega) hn
      rw [hgr] at hX
      exact ⟨rfl,endA hX rfl ((Bt.refl _ _).setR H.out.nd _ _)⟩
    ·rw [if_neg h3]
     rw [if_neg h3] at hm
     go_enter Tryz.func83,Tryz.ntmps83
     go_wp2_with (first
      | (go_at_call 134;refine (Bu.isPort_any a _ ha).mono ?_;rw [hP'.out];rintro e w1 ⟨rfl,rfl⟩)
      | (go_at_call 79;refine hm.out.mono ?_;rintro e w1 ⟨rfl,rfl⟩))
     go_end0
     exact ⟨rfl,endA H.out rfl (Bt.refl _ _)⟩
 ·obtain ⟨k,hk⟩:∃ k:Nat,a % 32=k:=⟨(a % 32).toNat,by omega⟩
  have hk2:k < 32:=by omega
  have hm:Int.tmod a 32=k:=by rw [Int.tmod_eq_emod_of_nonneg ha.1,hk]
  have hq:=hid (hp k hk2 W h)
  have hP':=hid hP
  have e0:portNo a=k:=by unfold portNo;omega
  simp only [if_true]
  rw [e0]
  obtain ⟨c0,c1⟩:=h.pA k hk2
  have hg:=h.bx.z
  have hk3:(k:Int) < 32:=by omega
  clear h hP hp e0
  generalize F.rdA k=vr at *
  generalize F.wrA k=vw at *
  go_enter Tryz.func83,Tryz.ntmps83
  go_wp2_with (first
   | (go_at_call 134;refine (Bu.isPort_any a _ ha).mono ?_;rw [hP'.out];rintro e w1 ⟨rfl,rfl⟩)
   | (go_at_call 137;refine hq.out.mono ?_;rintro e w1 ⟨rfl,hB1⟩))
  go_end0
  exact ⟨rfl,hB1⟩
end
structure Bst where
 M:Mach
 n:Int
 l:List Wt
theorem Pd.rd_bd {p:Pd} (h:p.ok):0<=p.rd/\p.rd<=255:=by
 unfold Pd.rd sel
 have:=h.d
 have:=h.s
 split <;> omega
theorem two_bd (a b:Bool):0<=two a b/\two a b<=255:=by cases a <;> cases b <;> decide
theorem rdM_bd {M:Mach} (h:M.fit) (a:Int):0<=(M.rdM a).1/\(M.rdM a).1<=255:=by
 unfold Mach.rdM
 split
 ·unfold Mach.portM
  split
  ·exact Pd.rd_bd h.p0
  ·exact Pd.rd_bd h.p1
  ·exact two_bd _ _
  ·exact ⟨h.b.l0,Int.le_trans h.b.l1 (by decide)⟩
  ·exact ⟨h.b.a0,Int.le_trans h.b.a1 (by decide)⟩
  ·exact two_bd _ _
  ·exact two_bd _ _
  ·exact h.m1
  ·exact ⟨show (0:Int)<=255 by decide,show (255:Int)<=255 by decide⟩
 ·exact lookM_bd _ _
theorem rdA_bd {M:Mach} (h:M.fit) (a:Int):0<=(M.rdA a).1/\(M.rdA a).1<=255:=by
 unfold Mach.rdA
 split
 ·unfold Mach.portA
  split
  ·exact h.m0
  ·exact ⟨show (0:Int)<=255 by decide,show (255:Int)<=255 by decide⟩
 ·exact lookA_bd _ _
theorem took_bd (a n:Int) (h:0<=n/\n<=255):0<=tookM a n/\tookM a n<=510:=by
 unfold tookM takes
 split
 ·split <;> omega
 ·omega
theorem shA_len (M:Mach) (a n:Int):(M.shA a n).length<=1:=by
 unfold Mach.shA shown
 split
 ·split <;> simp
 ·simp
def mainMem:C.Mem Bst where
 rd s a:=((s.M.rdM a).1 % 256,{ s with M:=(s.M.rdM a).2 })
 wr s a b:={ s with M:=s.M.wrM a (b % 256),n:=s.n+tookM a (b % 256) }
 fuel s:=(1000000000000 - s.n).toNat / 510
def auxMem:C.Mem Bst where
 rd s a:=((s.M.rdA a).1 % 256,{ s with M:=(s.M.rdA a).2 })
 wr s a b:={ s with M:=s.M.wrA a (b % 256),l:=s.l++s.M.shA a (b % 256) }
 fuel s:=1000000001 - s.l.length
structure Fx.into (F : Fx) (N : Nat) : Prop where
 g:F.g < N
 s:∀ j k,j < 5->(F.S.get j).ownBlock=some k->k < N
 e:∀ x v,F.has x v->x < N
section
variable {F : Fx} {N : Nat} {W w w1 : World} {M M' : Mach} {tk tk' : Tk}
theorem Bd.rw (h:Bd F W M tk) (j:Nat) (hj:j < 5):∃ k,Rw W (F.S.get j) k (M.byt j):=by
 rcases five hj with rfl | rfl | rfl | rfl | rfl
 ·exact ⟨_,h.mr⟩
 ·exact ⟨_,h.ar⟩
 ·exact ⟨_,h.ra⟩
 ·exact ⟨_,h.ow⟩
 ·exact ⟨_,h.vi⟩
theorem Bd.into (h:Bd F W M tk):F.into W.heap.size :=
 ⟨h.bx.z,fun j k hj e=>by obtain ⟨_,hr⟩:=h.rw j hj;exact hr.lt k e,fun x v hx=>(h.env x v hx).1⟩
theorem Bd.same (h:Bd F W M tk) (hN:F.into N) (hz:W.heap.size<=w1.heap.size) (e:∀ k,k < N->w1.heap[k]? = W.heap[k]?) (ew:∀ k,tk.v.ownBlock=some k->w1.heap[k]? = W.heap[k]?):Bd F w1 M tk :=
 ⟨h.bx.same hz (e _ hN.g),h.mr.same2 hz (fun j hj _=>e j (hN.s 0 j (by omega) hj)),h.ar.same2 hz (fun j hj _=>e j (hN.s 1 j (by omega) hj)),h.ra.same2 hz (fun j hj _=>e j (hN.s 2 j (by omega) hj)),h.ow.same2 hz (fun j hj _=>e j (hN.s 3 j (by omega) hj)),h.vi.same2 hz (fun j hj _=>e j (hN.s 4 j (by omega) hj)),
   fun x v hx=>⟨Nat.lt_of_lt_of_le (h.env x v hx).1 hz,(World.cell?_of_block (w:=W) (e x (hN.e x v hx))).trans (h.env x v hx).2⟩,h.nd,h.fit,Nat.le_trans h.big hz,ows_of h.ws ew,h.wd⟩
theorem Bd.inT (h:Bd F W M tk) (hN:F.into N):∀ k,F.T k->k < N:=fun k hk=>by
 rcases hk with e | e | e | e
 ·rw [e];exact hN.g
 ·obtain ⟨cap,h1,_,_⟩:=h.ra.some (by rw [h.fit.ram];omega)
  rw [e];exact hN.s 2 _ (by omega) (by show F.S.ra.ownBlock=_;rw [h1];rfl)
 ·obtain ⟨cap,h1,_,_⟩:=h.ow.some (by rw [h.fit.own];omega)
  rw [e];exact hN.s 3 _ (by omega) (by show F.S.ow.ownBlock=_;rw [h1];rfl)
 ·obtain ⟨cap,h1,_,_⟩:=h.vi.some (by rw [h.fit.video];omega)
  rw [e];exact hN.s 4 _ (by omega) (by show F.S.vi.ownBlock=_;rw [h1];rfl)
theorem Bd.wty (h:Bd F W M tk):∀ k,tk.v.ownBlock=some k->∃ cs fr,W.heap[k]? = some (.cells cs 62 fr):=fun k hk=>by
 rcases h.ws.2 with ⟨e0,_⟩ | ⟨g,cap,cur,e0,_,hx,_⟩
 ·rw [e0] at hk;cases hk
 ·rw [e0] at hk;cases hk;exact ⟨_,_,hx⟩
structure BI (F : Fx) (N : Nat) (w : World) (s : Bst) : Prop where
 N:N<=w.heap.size
 sh:shapesAt w
 n:0<=s.n
 bd:∃ v,Bd F w s.M ⟨s.n,s.l,v⟩
structure Fb (F : Fx) (N : Nat) : Prop where
 into:F.into N
 shN:1 < N
 shB:1 < F.B
abbrev BT (N:Nat) (_:Bst) (k:Nat):Prop:=k < N
theorem shapes_same (h:shapesAt w) (e:w1.heap[1]? = w.heap[1]?):shapesAt w1:=fun k hk=>by
 obtain ⟨h1,h2,h3⟩:=h k hk
 exact ⟨(World.cell?_of_block (w:=w) e).trans h1,(World.cell?_of_block (w:=w) e).trans h2,(World.cell?_of_block (w:=w) e).trans h3⟩
def BE (F:Fx) (W w':World) (s:Bst):Prop:=(∃ v,Bd F w' s.M ⟨s.n,s.l,v⟩)/\Bw F W w'
theorem BE.out {s s':Bst} (hF:Fb F N) (hI:BI F N w s) (h:BE F w w1 s') (hn:0<=s'.n):BI F N w1 s'/\Mv F.B (Tw (BT N) w s) (Tw (BT N) w1 s') w w1:=by
 obtain ⟨v,hB⟩:=hI.bd
 obtain ⟨hv,hm⟩:=h
 have hT:=hB.inT hF.into
 refine ⟨⟨Nat.le_trans hI.N (Mv.size hm),shapes_same hI.sh (hm.below.block _ hF.shB),hn,hv⟩,hm.below,fun k hk ht=>hm.block k hk (fun y=>ht (y.imp (hT k) id)),fun k hk=>?_⟩
 rcases hk with hk | hk
 ·exact Or.inl (Or.inl hk)
 ·rcases hm.fresh k (Or.inr hk) with y | y
  ·exact Or.inl (y.imp (hT k) id)
  ·exact Or.inr y
theorem Bu.fn_w (n:Nat) (a b:Array Value) (w:World):(binOp .neq 120 (.func (.func n) a b) .nilFunc).run Tryz.prog w = .ok (.bool true) w:=by kernel_rfl
theorem BE.over {s:Bst} {o:Obj} (hB:F.B<=w.heap.size) (h:BE F (w.alloc o) w1 s):BE F w w1 s:=⟨h.1,Bw.trans (Bw.of_below hB (stA (st0 w) o)) h.2⟩
theorem Bu.byteAt_any (h:Bd F W M tk) (o:Nat) (a x:Int) (s':Bst) (hr:∀ W,Bd F W M tk->Calls Tryz.prog 82 #[pt F.g o,.int .u16 a] W fun e w'=>e = .returned (.int .u8 x)/\BE F W w' s') :
 Calls Tryz.prog 132 #[reachV F.g o,.int .u16 a] W fun e w'=>e = .returned (.int .u8 x)/\BE F W w' s':=by
 have hn:=Bu.fn_r 82 #[pt F.g o] #[]
 have H:=hid h
 clear h
 go_enter Tryz.func132,Tryz.ntmps132
 go_wp2_with (go_at_call 82;refine (hr _ (H.out.over _)).mono ?_;rintro e w1 ⟨rfl,hB1⟩)
 go_ret
 exact ⟨rfl,hB1.over H.out.big⟩
theorem Bu.putByte_any (h:Bd F W M tk) (o:Nat) (a x:Int) (s':Bst) (hr:∀ W,Bd F W M tk->Calls Tryz.prog 83 #[pt F.g o,.int .u16 a,.int .u8 x] W fun e w'=>e = .returned (.tuple #[])/\BE F W w' s') :
 Calls Tryz.prog 216 #[reachV F.g o,.int .u16 a,.int .u8 x] W fun e w'=>e = .returned (.tuple #[])/\BE F W w' s':=by
 have hn:=Bu.fn_w 83 #[pt F.g o] #[]
 have H:=hid h
 clear h
 go_enter Tryz.func216,Tryz.ntmps216
 go_wp2_with (go_at_call 83;refine (hr _ (H.out.over _)).mono ?_;rintro e w1 ⟨rfl,hB1⟩)
 go_end0
 exact ⟨rfl,hB1.over H.out.big⟩
theorem BI.keep {s:Bst} (hF:Fb F N) (h:BI F N w s) (hz:w.heap.size<=w1.heap.size) (e:∀ k,Tw (BT N) w s k->w1.heap[k]? = w.heap[k]?):BI F N w1 s:=by
 obtain ⟨v,hB⟩:=h.bd
 exact ⟨Nat.le_trans h.N hz,shapes_same h.sh (e _ (Or.inl hF.shN)),h.n,v,hB.same hF.into hz (fun k hk=>e k (Or.inl hk)) (fun k hk=>e k (Or.inr (hB.wty k hk)))⟩
theorem main_rs (hF:Fb F N):RS mainMem F.B 82 83 (#[pt F.g 77],#[]) (#[pt F.g 77],#[]) (BI F N) (BT N) where
 lt:=fun h k hk=>Nat.lt_of_lt_of_le hk h.N
 keep:=fun h hz e=>h.keep hF hz e
 shapes:=fun h=>h.sh
 gT:=hF.shN
 byte:=fun s a=>by
  show 0<=(s.M.rdM a).1 % 256/\(s.M.rdM a).1 % 256<=255
  omega
 frd:=fun s a=>Nat.le_refl _
 fwr:=fun s a b=>by
  have:=took_bd a (b % 256) (by omega)
  show (1000000000000 - s.n).toNat / 510<=(1000000000000 - (s.n+tookM a (b % 256))).toNat / 510+1
  omega
 big:=fun h=>by obtain ⟨v,hB⟩:=h.bd;exact hB.big
 read:=fun w s a ha ha' h=>by
  obtain ⟨v,hB⟩:=h.bd
  have hb:=rdM_bd hB.fit a
  have e1:(mainMem.rd s a).1=(s.M.rdM a).1:=by show (s.M.rdM a).1 % 256=_;omega
  rw [e1]
  refine (Bu.byteAt_any hB 77 a (s.M.rdM a).1 (mainMem.rd s a).2 (fun W hW=>(Bu.read_M hW a ⟨ha,ha'⟩ (fun i hi=>getM_all i hi)).mono ?_)).mono ?_
  ·rintro e w1 ⟨rfl,hB1,hT1⟩
   exact ⟨rfl,⟨v,hB1⟩,hT1.w⟩
  ·rintro e w1 ⟨rfl,hE⟩
   exact ⟨rfl,hE.out hF h h.n⟩
 write:=fun w s a b ha ha' hb hb' hf h=>by
  obtain ⟨v,hB⟩:=h.bd
  have e1:b % 256=b:=by omega
  have hf':1<=(1000000000000 - s.n).toNat / 510:=hf
  have htk:0<=s.n/\s.n<=1000000000000:=⟨h.n,by omega⟩
  have htb:=took_bd a b ⟨hb,hb'⟩
  have e2:mainMem.wr s a b=⟨s.M.wrM a b,s.n+tookM a b,s.l⟩:=by show (⟨_,_,_⟩:Bst)=_;rw [e1]
  rw [e2]
  refine (Bu.putByte_any hB 77 a b ⟨s.M.wrM a b,s.n+tookM a b,s.l⟩ (fun W hW=>(Bu.write_M hW a b ⟨ha,ha'⟩ ⟨hb,hb'⟩ (fun i hi=>putM_all b ⟨hb,hb'⟩ htk i hi)).mono ?_)).mono ?_
  ·rintro e w1 ⟨rfl,hB1,hT1⟩
   exact ⟨rfl,⟨v,hB1⟩,hT1.w⟩
  ·rintro e w1 ⟨rfl,hE⟩
   exact ⟨rfl,hE.out hF h (by show 0<=s.n+tookM a b;omega)⟩
theorem aux_rs (hF:Fb F N):RS auxMem F.B 82 83 (#[pt F.g 143],#[]) (#[pt F.g 143],#[]) (BI F N) (BT N) where
 lt:=fun h k hk=>Nat.lt_of_lt_of_le hk h.N
 keep:=fun h hz e=>h.keep hF hz e
 shapes:=fun h=>h.sh
 gT:=hF.shN
 byte:=fun s a=>by
  show 0<=(s.M.rdA a).1 % 256/\(s.M.rdA a).1 % 256<=255
  omega
 frd:=fun s a=>Nat.le_refl _
 fwr:=fun s a b=>by
  have:=shA_len s.M a (b % 256)
  show 1000000001 - s.l.length<=1000000001 - (s.l++s.M.shA a (b % 256)).length+1
  rw [List.length_append]
  omega
 big:=fun h=>by obtain ⟨v,hB⟩:=h.bd;exact hB.big
 read:=fun w s a ha ha' h=>by
  obtain ⟨v,hB⟩:=h.bd
  have hb:=rdA_bd hB.fit a
  have e1:(auxMem.rd s a).1=(s.M.rdA a).1:=by show (s.M.rdA a).1 % 256=_;omega
  rw [e1]
  refine (Bu.byteAt_any hB 143 a (s.M.rdA a).1 (auxMem.rd s a).2 (fun W hW=>(Bu.read_A hW a ⟨ha,ha'⟩ (fun i hi=>getA_all i hi)).mono ?_)).mono ?_
  ·rintro e w1 ⟨rfl,hB1,hT1⟩
   exact ⟨rfl,⟨v,hB1⟩,hT1.w⟩
  ·rintro e w1 ⟨rfl,hE⟩
   exact ⟨rfl,hE.out hF h h.n⟩
 write:=fun w s a b ha ha' hb hb' hf h=>by
  obtain ⟨v,hB⟩:=h.bd
  have e1:b % 256=b:=by omega
  have hf':1<=1000000001 - s.l.length:=hf
  have e2:auxMem.wr s a b=⟨s.M.wrA a b,s.n,s.l++s.M.shA a b⟩:=by show (⟨_,_,_⟩:Bst)=_;rw [e1]
  rw [e2]
  refine (Bu.putByte_any hB 143 a b ⟨s.M.wrA a b,s.n,s.l++s.M.shA a b⟩ (fun W hW=>(Bu.write_A hW a b ⟨ha,ha'⟩ ⟨hb,hb'⟩ (fun i hi=>putA_all b ⟨hb,hb'⟩ (by show s.l.length<=1000000000;omega) i hi)).mono ?_)).mono ?_
  ·rintro e w1 ⟨rfl,hB1,hT1⟩
   exact ⟨rfl,hB1,hT1⟩
  ·rintro e w1 ⟨rfl,hE⟩
   exact ⟨rfl,hE.out hF h h.n⟩
end
end Go.Proofs.YtbhpfkjfijdmaaaGreatDoor
