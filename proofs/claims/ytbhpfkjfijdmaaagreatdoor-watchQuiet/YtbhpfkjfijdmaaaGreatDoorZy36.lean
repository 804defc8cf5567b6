/-
  Parts of a proof, joined.
-/
import Derived.Test.YtbhpfkjfijdmaaaGreatDoorZy25
import Derived.Test.YtbhpfkjfijdmaaaGreatDoorZy16
import Derived.Test.YtbhpfkjfijdmaaaGreatDoorZy15
import Derived.Test.YtbhpfkjfijdmaaaGreatDoorZy33
import Derived.Test.YtbhpfkjfijdmaaaGreatDoorZy35
import Derived.Test.YtbhpfkjfijdmaaaGreatDoorZy05
import Derived.Test.YtbhpfkjfijdmaaaGreatDoorZy17
import Derived.ChangeKeysEq
import Derived.Laws.StructEq
namespace Go.Proofs.YtbhpfkjfijdmaaaGreatDoor
open Go.ChangeShapes Go.WideShapes Go.ChangeAt Go.RowKit
set_option linter.unusedVariables false
set_option maxRecDepth 100000
set_option maxHeartbeats 3200000
def newM (l1 l2:List UInt8):Mach:={ zeroM with mrom:=l1,arom:=l2,ram:=List.replicate 128 0,own:=List.replicate 64 0,video:=List.replicate 256 0,held:=true }
theorem zero_ok:C.Cpu.zero.ok:=⟨rfl,fun x hx=>by simp [C.Cpu.zero] at hx;omega,by decide,by decide⟩
theorem z8:0<=(0:Int)/\(0:Int)<=255:=by decide
theorem z16:0<=(0:Int)/\(0:Int)<=65535:=by decide
theorem zok:zeroM.ok:=⟨zero_ok,zero_ok,⟨z8,z8⟩,⟨z8,z8⟩,z16,z16,⟨⟨z16,z16,z8,z16⟩,⟨z16,z16,z8,z16⟩,⟨z16,z16,z8,z16⟩⟩,z16,z16,z8,z8⟩
theorem newM_fit (l1 l2:List UInt8) (h1:l1.length<=1024) (h2:l2.length<=1024):(newM l1 l2).fit :=
 ⟨⟨zero_ok,zero_ok,⟨z8,z8⟩,⟨z8,z8⟩,z16,z16,zok.s,z16,z16,z8,z8⟩,h1,h2,by simp [newM],by simp [newM],by simp [newM],(by decide:0<=(0:Int)/\(0:Int)<=15),⟨(by decide:0<=(0:Int)),(by decide:(0:Int)<=9),(by decide:0<=(0:Int)),(by decide:(0:Int)<=63),(by decide:0<=(0:Int)),(by decide:(0:Int)<=20001)⟩,(by decide:0<=(0:Int)/\(0:Int)<=200000),(by decide:0<=(0:Int)/\(0:Int)<=0+20000),(by decide:0<=(0:Int)/\(0:Int)<=0+20000)⟩
theorem run_new (a1 a2:Option Addr) (n1 c1 n2 c2 b1 b2 b3:Nat) (l1 l2:List UInt8) (w:World):(Instr.build 41 #[(2,.slice a1 n1 c1),(3,.slice a2 n2 c2),(4,.slice (some ⟨b1,0,none⟩) 128 128),(5,.slice (some ⟨b2,0,none⟩) 64 64),(6,.slice (some ⟨b3,0,none⟩) 256 256),(14,.bool true)]).run Tryz.prog w =
 .ok (.agg (machL (newM l1 l2) ⟨.slice a1 n1 c1,.slice a2 n2 c2,.slice (some ⟨b1,0,none⟩) 128 128,.slice (some ⟨b2,0,none⟩) 64 64,.slice (some ⟨b3,0,none⟩) 256 256⟩).toArray) w:=by kernel_rfl
theorem exec_build6 {P:Program} {a:Act} {o:Oper} {w:World} (t:TypeId) (i0 i1 i2 i3 i4 i5:Nat) (x0 x1 x2 x3 x4 x5:Operand) (ho:o.op = .build t #[(i0,x0),(i1,x1),(i2,x2),(i3,x3),(i4,x4),(i5,x5)]) (v0 v1 v2 v3 v4 v5 v:Value) (h0:a.eval x0=v0) (h1:a.eval x1=v1) (h2:a.eval x2=v2) (h3:a.eval x3=v3) (h4:a.eval x4=v4) (h5:a.eval x5=v5)
 (hrun:(Instr.build t #[(i0,v0),(i1,v1),(i2,v2),(i3,v3),(i4,v4),(i5,v5)]).run P w = .ok v w):(execOp a.eval o).run P w = .ok (.value v) w :=
 exec_build t _ ho v (by simp only [List.map_toArray,List.map_cons,List.map_nil,h0,h1,h2,h3,h4,h5];exact hrun)
theorem zeros_at {W:World} {n b:Nat} (h:Bx W b (List.replicate n (.int .u8 0))) (hn:0 < n):sliceAt W (.slice (some ⟨b,0,none⟩) n n) (List.replicate n 0):=by
 refine Or.inr ⟨b,0,n,by simp,by simp,h.z,fun j c hj=>?_⟩
 rw [Nat.zero_add]
 refine h.at j _ ?_
 have hl:=(List.getElem?_eq_some_iff.1 hj).1
 simp only [List.length_replicate] at hl
 rw [List.getElem?_replicate,if_pos hl] at hj ⊢
 cases hj
 rfl
structure NB (w : World) (F : Fx) (M : Mach) (tk : Tk) (L : List Value) (Y : World) : Prop where
 bd:Bd F Y M tk
 low:Below w.heap.size w Y
 res:Bx Y w.heap.size L
 B:w.heap.size < F.B
 r:F.B<=F.mr/\F.B<=F.ar
theorem NB.go {w Y Y':World} {F:Fx} {M M':Mach} {tk tk':Tk} {L:List Value} (h:NB w F M tk L Y) (hB:Bd F Y' M' tk') (ht:Bt F Y Y'):NB w F M' tk' L Y':=by
 have hb:=h.B
 exact ⟨hB,h.low.trans ((Mv.below ht).mono (by omega)),h.res.under (Mv.below ht) hb,hb,h.r⟩
theorem NB.kept {w Y Y':World} {F:Fx} {M:Mach} {tk:Tk} {L:List Value} (h:NB w F M tk L Y) (hb:Below Y.heap.size Y Y'):NB w F M tk L Y':=h.go (h.bd.kept hb) (Mv.of_below h.bd.big hb)
theorem NB.fin {w Y:World} {F:Fx} {M:Mach} {tk:Tk} {L L':List Value} (h:NB w F M tk L Y) (hl:L'.length=L.length):Below w.heap.size w (Y.setCells w.heap.size 0 L')/\Bx (Y.setCells w.heap.size 0 L') w.heap.size L'/\SlAt (Y.setCells w.heap.size 0 L') F.S M:=by
 have hx:=h.res.puts 0 L' (by omega)
 rw [putL_whole _ _ hl] at hx
 have lo:=h.bd.nd.lo
 have hB:=h.B
 have hr:=h.r
 refine ⟨Bl.puts h.low (by omega) _,hx,fun j hj=>?_⟩
 rcases five hj with rfl | rfl | rfl | rfl | rfl
 ·exact (h.bd.mr.offB (by omega) _ _).slice
 ·exact (h.bd.ar.offB (by omega) _ _).slice
 ·exact (h.bd.ra.offB (by omega) _ _).slice
 ·exact (h.bd.ow.offB (by omega) _ _).slice
 ·exact (h.bd.vi.offB (by omega) _ _).slice
structure NF (w : World) (l1 l2 : List UInt8) (S : Sl) (Y : World) : Prop where
 low:Below w.heap.size w Y
 res:Bx Y w.heap.size (machL zeroM nilS)
 sl:SlAt Y S (newM l1 l2)
theorem NF.of {w Y:World} {l1 l2:List UInt8} {a1 a2:Option Addr} {c1 c2 b1 b2 b3:Nat} (H1:sliceAt w (.slice a1 l1.length c1) l1) (H2:sliceAt w (.slice a2 l2.length c2) l2) (hl:Below w.heap.size w Y) (hr:Bx Y w.heap.size (machL zeroM nilS))
 (x1:Bx Y b1 (List.replicate 128 (.int .u8 0))) (x2:Bx Y b2 (List.replicate 64 (.int .u8 0))) (x3:Bx Y b3 (List.replicate 256 (.int .u8 0))):NF w l1 l2 ⟨.slice a1 l1.length c1,.slice a2 l2.length c2,.slice (some ⟨b1,0,none⟩) 128 128,.slice (some ⟨b2,0,none⟩) 64 64,.slice (some ⟨b3,0,none⟩) 256 256⟩ Y :=
 ⟨hl,hr,fun j hj=>by
   rcases five hj with rfl | rfl | rfl | rfl | rfl
   ·exact H1.kept hl
   ·exact H2.kept hl
   ·exact zeros_at x1 (by omega)
   ·exact zeros_at x2 (by omega)
   ·exact zeros_at x3 (by omega)⟩
theorem mk1280 (w:World):(Instr.makeSlice 26 (.int .i64 128) (.int .i64 128)).run Tryz.prog w = .ok (.slice (some ⟨w.heap.size,0,none⟩) 128 128) (w.alloc (.cells (List.replicate 128 (.int .u8 0)).toArray 5)):=by kernel_rfl
theorem mk128 (w:World) (k:Nat) (h:w.heap.size=k):(Instr.makeSlice 26 (.int .i64 128) (.int .i64 128)).run Tryz.prog w = .ok (.slice (some ⟨k,0,none⟩) 128 128) (w.alloc (.cells (List.replicate 128 (.int .u8 0)).toArray 5)):=by subst h;exact mk1280 w
theorem mk640 (w:World):(Instr.makeSlice 26 (.int .i64 64) (.int .i64 64)).run Tryz.prog w = .ok (.slice (some ⟨w.heap.size,0,none⟩) 64 64) (w.alloc (.cells (List.replicate 64 (.int .u8 0)).toArray 5)):=by kernel_rfl
theorem mk64 (w:World) (k:Nat) (h:w.heap.size=k):(Instr.makeSlice 26 (.int .i64 64) (.int .i64 64)).run Tryz.prog w = .ok (.slice (some ⟨k,0,none⟩) 64 64) (w.alloc (.cells (List.replicate 64 (.int .u8 0)).toArray 5)):=by subst h;exact mk640 w
theorem mkV0 (w:World):(Instr.makeSlice 26 (.int .i64 256) (.int .i64 256)).run Tryz.prog w = .ok (.slice (some ⟨w.heap.size,0,none⟩) 256 256) (w.alloc (.cells (List.replicate 256 (.int .u8 0)).toArray 5)):=by kernel_rfl
theorem mkV (w:World) (k:Nat) (h:w.heap.size=k):(Instr.makeSlice 26 (.int .i64 256) (.int .i64 256)).run Tryz.prog w = .ok (.slice (some ⟨k,0,none⟩) 256 256) (w.alloc (.cells (List.replicate 256 (.int .u8 0)).toArray 5)):=by subst h;exact mkV0 w
theorem step_make {P:Program} {ops:Array Oper} {op:Oper} {a:Act} {w w':World} {K:Act->World->Prop} {Q:Exit->Act->World->Prop} {E:Prop} (hgd:op.guard=none) (t:TypeId) (l c:Operand) (ho:op.op = .makeSlice t l c) (lv cv v:Value) (hl:a.eval l=lv) (hc:a.eval c=cv)
 (hrun:(Instr.makeSlice t lv cv).run P w = .ok v w') (h:K (a.put op.dst v) w'):if Region.wanted op (yielded ops a.tmps)=true then Oper.wp P op a w K Q else E:=by
 rw [if_pos (by simp [Region.wanted,hgd])]
 unfold Oper.wp execOp
 simp only [ho,hl,hc,Sem.run_bind,hrun,Result.andThen_ok,Sem.run_pure]
 exact h
theorem consH_make {P:Program} {md:Region.Mode} {ops:Array Oper} {Q:Exit->Act->World->Prop} {S:World->Prop} {fuel:Nat} {listed:Array Bool} {a:Act} {w w':World} {i:Nat} {rs:List Nat} {op:Oper} (hi:ops[i]? = some op) (hgd:op.guard=none) (t:TypeId) (l c:Operand) (ho:op.op = .makeSlice t l c) (lv cv v:Value) (hl:a.eval l=lv) (hc:a.eval c=cv)
 (hrun:(Instr.makeSlice t lv cv).run P w = .ok v w') (hS:S w') (h:wpAnyH P md ops Q S fuel (listed.setIfInBounds i true) (a.put op.dst v) w') (hs:AllReadyH P md ops Q S fuel listed a w rs):AllReadyH P md ops Q S fuel listed a w (i :: rs) :=
 AllReadyH.cons hi (fun K hK=>step_make hgd t l c ho lv cv v hl hc hrun (hK.out _ _ hS (fun _=>h))) hs
theorem cutH {P:Program} {md:Region.Mode} {ops:Array Oper} {Q:Exit->Act->World->Prop} {S:World->Prop} {fuel:Nat} {listed:Array Bool} {a:Act} {w:World} (K:World->Prop) (h:K w) (k:∀ w',K w'->wpAnyH P md ops Q S fuel listed a w'):wpAnyH P md ops Q S fuel listed a w:=k w h
def newD (l1 l2:List UInt8):Mach:={ newM l1 l2 with main:=beginC ((newM l1 l2).lookM 0) ((newM l1 l2).lookM 1) }
theorem new_put {w Y:World} {F:Fx} {l1 l2:List UInt8} {L:List Value} (h:NB w F (newM l1 l2) Tk.zero L Y):NB w F (newD l1 l2) Tk.zero L (Y.setCells F.g 0 (begL ((newM l1 l2).lookM 0 * 256+(newM l1 l2).lookM 1))):=by
 have hok:=beg_ok _ _ (lookM_bd (newM l1 l2) 0) (lookM_bd (newM l1 l2) 1)
 have hf:(newD l1 l2).fit:=Mach.fit.of h.bd.fit { h.bd.fit with main:=hok } ⟨rfl,rfl,rfl,rfl,rfl⟩ rfl ⟨rfl,rfl,rfl⟩ ⟨rfl,rfl⟩ (Or.inl rfl)
 rw [begL_eq]
 exact h.go (h.bd.puts (M':=newD l1 l2) (tk':=Tk.zero) 0 (cpuL (beginC ((newM l1 l2).lookM 0) ((newM l1 l2).lookM 1))) (by simp [cpuL]) (F.putMain _ _ _) ⟨rfl,rfl,rfl,rfl,rfl⟩ hf) (Bt.sets h.bd.nd _ 0 _ (Bt.refl _ _))
theorem Bu.new_ok (l1 l2:List UInt8) (v1 v2:Value) (w:World) (h1:sliceAt w v1 l1) (h2:sliceAt w v2 l2) (hl1:l1.length<=1024) (hl2:l2.length<=1024) :
 Calls Tryz.prog 22 #[v1,v2] w fun e w'=>∃ S',e = .returned (.tuple #[.agg (machL (newD l1 l2) S').toArray,.int .i64 0])/\SlAt w' S' (newD l1 l2)/\(newD l1 l2).fit/\SlNew (w.heap.size+1) S'/\Below w.heap.size w w':=by
 obtain ⟨a1,c1,e1⟩:=slice_len h1
 obtain ⟨a2,c2,e2⟩:=slice_len h2
 subst e1 e2
 have H1:=hid h1
 have H2:=hid h2
 have HR:=hid (Bx.new w (machL zeroM nilS) 41 (b:=w.heap.size) rfl)
 clear h1 h2
 go_enter Tryz.func22,Tryz.ntmps22
 go_wp2
 refine wp_region_held_drew (S:=fun _=>True) (by kernel_rfl) trivial ?_
 intro _
 refine wpAnyH_take (i:=0) (oi:=⟨some 9,_,_,_,_,none⟩) (v:=?_) rfl (by kernel_rfl) (by kernel_rfl) (by kernel_rfl) (fun _ _ _ h=>h) (Or.inl ⟨by rfl,?_⟩) trivial ?_
 rotate_left 1
 focus (intro w hSw;(try dsimp only at hSw);go_simp;try (with_reducible rfl))
 simp only [Act.put,xA,xB,xC]
 refine wpAnyH_take (i:=1) (oi:=⟨some 10,_,_,_,_,none⟩) (v:=?_) rfl (by kernel_rfl) (by kernel_rfl) (by kernel_rfl) (fun _ _ _ h=>h) (Or.inl ⟨by rfl,?_⟩) trivial ?_
 rotate_left 1
 focus (intro w hSw;(try dsimp only at hSw);go_simp;try (with_reducible rfl))
 simp only [Act.put,xA,xB,xC]
 refine wpAnyH_ready (rs:=[2,3,4]) (by kernel_rfl) (by simp) ?_
 refine consH_make (op:=⟨some 11,_,_,_,_,none⟩) rfl rfl 26 _ _ rfl (.int .i64 128) (.int .i64 128) _ rfl rfl (mk128 _ (w.heap.size+1) (by simp)) trivial ?_ (consH_make (op:=⟨some 12,_,_,_,_,none⟩) rfl rfl 26 _ _ rfl (.int .i64 64) (.int .i64 64) _ rfl rfl (mk64 _ (w.heap.size+1) (by simp)) trivial ?_ (consH_make (op:=⟨some 13,_,_,_,_,none⟩) rfl rfl 26 _ _ rfl (.int .i64 256) (.int .i64 256) _ rfl rfl (mkV _ (w.heap.size+1) (by simp)) trivial ?_ AllReadyH.nil))
 all_goals simp only [Act.put,xA,xB,xC]
 refine wpAnyH_ready (rs:=[3,4]) (by kernel_rfl) (by simp) ?_
 refine consH_make (op:=⟨some 12,_,_,_,_,none⟩) rfl rfl 26 _ _ rfl (.int .i64 64) (.int .i64 64) _ rfl rfl (mk64 _ (w.heap.size+1+1) (by simp)) trivial ?_ (consH_make (op:=⟨some 13,_,_,_,_,none⟩) rfl rfl 26 _ _ rfl (.int .i64 256) (.int .i64 256) _ rfl rfl (mkV _ (w.heap.size+1+1) (by simp)) trivial ?_ AllReadyH.nil)
 rotate_left 2
 refine wpAnyH_ready (rs:=[2,4]) (by kernel_rfl) (by simp) ?_
 refine consH_make (op:=⟨some 11,_,_,_,_,none⟩) rfl rfl 26 _ _ rfl (.int .i64 128) (.int .i64 128) _ rfl rfl (mk128 _ (w.heap.size+1+1) (by simp)) trivial ?_ (consH_make (op:=⟨some 13,_,_,_,_,none⟩) rfl rfl 26 _ _ rfl (.int .i64 256) (.int .i64 256) _ rfl rfl (mkV _ (w.heap.size+1+1) (by simp)) trivial ?_ AllReadyH.nil)
 rotate_left 2
 refine wpAnyH_ready (rs:=[2,3]) (by kernel_rfl) (by simp) ?_
 refine consH_make (op:=⟨some 11,_,_,_,_,none⟩) rfl rfl 26 _ _ rfl (.int .i64 128) (.int .i64 128) _ rfl rfl (mk128 _ (w.heap.size+1+1) (by simp)) trivial ?_ (consH_make (op:=⟨some 12,_,_,_,_,none⟩) rfl rfl 26 _ _ rfl (.int .i64 64) (.int .i64 64) _ rfl rfl (mk64 _ (w.heap.size+1+1) (by simp)) trivial ?_ AllReadyH.nil)
 rotate_left 2
 all_goals simp only [Act.put,xA,xB,xC]
 refine wpAnyH_ready (rs:=[4]) (by kernel_rfl) (by simp) ?_
 refine consH_make (op:=⟨some 13,_,_,_,_,none⟩) rfl rfl 26 _ _ rfl (.int .i64 256) (.int .i64 256) _ rfl rfl (mkV _ (w.heap.size+1+1+1) (by simp)) trivial ?_ AllReadyH.nil
 simp only [Act.put,xA,xB,xC]
 refine cutH (NF w l1 l2 ⟨.slice a1 l1.length c1,.slice a2 l2.length c2,.slice (some ⟨_,0,none⟩) 128 128,.slice (some ⟨_,0,none⟩) 64 64,.slice (some ⟨_,0,none⟩) 256 256⟩) (NF.of (b1:=w.heap.size+1) (b2:=w.heap.size+1+1) (b3:=w.heap.size+1+1+1) H1.out H2.out ?_ ?_ ?_ ?_ ?_) ?_
 ·repeat' (first | exact st0 _ | refine Below.drew ?_ | refine stA ?_ _)
 ·repeat' (first | exact HR.out | refine Bx.drew ?_ | refine Bx.over ?_ _)
 ·repeat' (first | exact Bx.new _ (List.replicate 128 (.int .u8 0)) _ (by simp) | refine Bx.drew ?_ | refine Bx.over ?_ _)
 ·repeat' (first | exact Bx.new _ (List.replicate 64 (.int .u8 0)) _ (by simp) | refine Bx.drew ?_ | refine Bx.over ?_ _)
 ·repeat' (first | exact Bx.new _ (List.replicate 256 (.int .u8 0)) _ (by simp) | refine Bx.drew ?_ | refine Bx.over ?_ _)
 intro Y hY
 have HY:=hid hY
 clear hY
 refine wpAnyH_take (i:=5) (oi:=⟨some 14,_,_,_,_,none⟩) (v:=.agg (machL (newM l1 l2) ⟨.slice a1 l1.length c1,.slice a2 l2.length c2,.slice (some ⟨w.heap.size+1,0,none⟩) 128 128,.slice (some ⟨w.heap.size+1+1,0,none⟩) 64 64,.slice (some ⟨w.heap.size+1+1+1,0,none⟩) 256 256⟩).toArray) rfl (by kernel_rfl) (by kernel_rfl) (by kernel_rfl) (fun _ _ _ h=>h) (Or.inl ⟨by rfl,fun w' _=>exec_build6 41 2 3 4 5 6 14 _ _ _ _ _ _ rfl _ _ _ _ _ _ _ rfl rfl rfl rfl rfl rfl (run_new a1 a2 l1.length c1 l2.length c2 (w.heap.size+1) (w.heap.size+1+1) (w.heap.size+1+1+1) l1 l2 w')⟩) trivial ?_
 simp only [Act.put,xA,xB,xC]
 rotate_left 1
 refine wpAnyH_ready (rs:=[3]) (by kernel_rfl) (by simp) ?_
 refine consH_make (op:=⟨some 12,_,_,_,_,none⟩) rfl rfl 26 _ _ rfl (.int .i64 64) (.int .i64 64) _ rfl rfl (mk64 _ (w.heap.size+1+1+1) (by simp)) trivial ?_ AllReadyH.nil
 simp only [Act.put,xA,xB,xC]
 refine cutH (NF w l1 l2 ⟨.slice a1 l1.length c1,.slice a2 l2.length c2,.slice (some ⟨_,0,none⟩) 128 128,.slice (some ⟨_,0,none⟩) 64 64,.slice (some ⟨_,0,none⟩) 256 256⟩) (NF.of (b1:=w.heap.size+1) (b2:=w.heap.size+1+1+1) (b3:=w.heap.size+1+1) H1.out H2.out ?_ ?_ ?_ ?_ ?_) ?_
 ·repeat' (first | exact st0 _ | refine Below.drew ?_ | refine stA ?_ _)
 ·repeat' (first | exact HR.out | refine Bx.drew ?_ | refine Bx.over ?_ _)
 ·repeat' (first | exact Bx.new _ (List.replicate 128 (.int .u8 0)) _ (by simp) | refine Bx.drew ?_ | refine Bx.over ?_ _)
 ·repeat' (first | exact Bx.new _ (List.replicate 64 (.int .u8 0)) _ (by simp) | refine Bx.drew ?_ | refine Bx.over ?_ _)
 ·repeat' (first | exact Bx.new _ (List.replicate 256 (.int .u8 0)) _ (by simp) | refine Bx.drew ?_ | refine Bx.over ?_ _)
 intro Y hY
 have HY:=hid hY
 clear hY
 refine wpAnyH_take (i:=5) (oi:=⟨some 14,_,_,_,_,none⟩) (v:=.agg (machL (newM l1 l2) ⟨.slice a1 l1.length c1,.slice a2 l2.length c2,.slice (some ⟨w.heap.size+1,0,none⟩) 128 128,.slice (some ⟨w.heap.size+1+1+1,0,none⟩) 64 64,.slice (some ⟨w.heap.size+1+1,0,none⟩) 256 256⟩).toArray) rfl (by kernel_rfl) (by kernel_rfl) (by kernel_rfl) (fun _ _ _ h=>h) (Or.inl ⟨by rfl,fun w' _=>exec_build6 41 2 3 4 5 6 14 _ _ _ _ _ _ rfl _ _ _ _ _ _ _ rfl rfl rfl rfl rfl rfl (run_new a1 a2 l1.length c1 l2.length c2 (w.heap.size+1) (w.heap.size+1+1+1) (w.heap.size+1+1) l1 l2 w')⟩) trivial ?_
 simp only [Act.put,xA,xB,xC]
 rotate_left 1
 refine wpAnyH_ready (rs:=[4]) (by kernel_rfl) (by simp) ?_
 refine consH_make (op:=⟨some 13,_,_,_,_,none⟩) rfl rfl 26 _ _ rfl (.int .i64 256) (.int .i64 256) _ rfl rfl (mkV _ (w.heap.size+1+1+1) (by simp)) trivial ?_ AllReadyH.nil
 simp only [Act.put,xA,xB,xC]
 refine cutH (NF w l1 l2 ⟨.slice a1 l1.length c1,.slice a2 l2.length c2,.slice (some ⟨_,0,none⟩) 128 128,.slice (some ⟨_,0,none⟩) 64 64,.slice (some ⟨_,0,none⟩) 256 256⟩) (NF.of (b1:=w.heap.size+1+1) (b2:=w.heap.size+1) (b3:=w.heap.size+1+1+1) H1.out H2.out ?_ ?_ ?_ ?_ ?_) ?_
 ·repeat' (first | exact st0 _ | refine Below.drew ?_ | refine stA ?_ _)
 ·repeat' (first | exact HR.out | refine Bx.drew ?_ | refine Bx.over ?_ _)
 ·repeat' (first | exact Bx.new _ (List.replicate 128 (.int .u8 0)) _ (by simp) | refine Bx.drew ?_ | refine Bx.over ?_ _)
 ·repeat' (first | exact Bx.new _ (List.replicate 64 (.int .u8 0)) _ (by simp) | refine Bx.drew ?_ | refine Bx.over ?_ _)
 ·repeat' (first | exact Bx.new _ (List.replicate 256 (.int .u8 0)) _ (by simp) | refine Bx.drew ?_ | refine Bx.over ?_ _)
 intro Y hY
 have HY:=hid hY
 clear hY
 refine wpAnyH_take (i:=5) (oi:=⟨some 14,_,_,_,_,none⟩) (v:=.agg (machL (newM l1 l2) ⟨.slice a1 l1.length c1,.slice a2 l2.length c2,.slice (some ⟨w.heap.size+1+1,0,none⟩) 128 128,.slice (some ⟨w.heap.size+1,0,none⟩) 64 64,.slice (some ⟨w.heap.size+1+1+1,0,none⟩) 256 256⟩).toArray) rfl (by kernel_rfl) (by kernel_rfl) (by kernel_rfl) (fun _ _ _ h=>h) (Or.inl ⟨by rfl,fun w' _=>exec_build6 41 2 3 4 5 6 14 _ _ _ _ _ _ rfl _ _ _ _ _ _ _ rfl rfl rfl rfl rfl rfl (run_new a1 a2 l1.length c1 l2.length c2 (w.heap.size+1+1) (w.heap.size+1) (w.heap.size+1+1+1) l1 l2 w')⟩) trivial ?_
 simp only [Act.put,xA,xB,xC]
 rotate_left 1
 refine wpAnyH_ready (rs:=[2]) (by kernel_rfl) (by simp) ?_
 refine consH_make (op:=⟨some 11,_,_,_,_,none⟩) rfl rfl 26 _ _ rfl (.int .i64 128) (.int .i64 128) _ rfl rfl (mk128 _ (w.heap.size+1+1+1) (by simp)) trivial ?_ AllReadyH.nil
 simp only [Act.put,xA,xB,xC]
 refine cutH (NF w l1 l2 ⟨.slice a1 l1.length c1,.slice a2 l2.length c2,.slice (some ⟨_,0,none⟩) 128 128,.slice (some ⟨_,0,none⟩) 64 64,.slice (some ⟨_,0,none⟩) 256 256⟩) (NF.of (b1:=w.heap.size+1+1+1) (b2:=w.heap.size+1) (b3:=w.heap.size+1+1) H1.out H2.out ?_ ?_ ?_ ?_ ?_) ?_
 ·repeat' (first | exact st0 _ | refine Below.drew ?_ | refine stA ?_ _)
 ·repeat' (first | exact HR.out | refine Bx.drew ?_ | refine Bx.over ?_ _)
 ·repeat' (first | exact Bx.new _ (List.replicate 128 (.int .u8 0)) _ (by simp) | refine Bx.drew ?_ | refine Bx.over ?_ _)
 ·repeat' (first | exact Bx.new _ (List.replicate 64 (.int .u8 0)) _ (by simp) | refine Bx.drew ?_ | refine Bx.over ?_ _)
 ·repeat' (first | exact Bx.new _ (List.replicate 256 (.int .u8 0)) _ (by simp) | refine Bx.drew ?_ | refine Bx.over ?_ _)
 intro Y hY
 have HY:=hid hY
 clear hY
 refine wpAnyH_take (i:=5) (oi:=⟨some 14,_,_,_,_,none⟩) (v:=.agg (machL (newM l1 l2) ⟨.slice a1 l1.length c1,.slice a2 l2.length c2,.slice (some ⟨w.heap.size+1+1+1,0,none⟩) 128 128,.slice (some ⟨w.heap.size+1,0,none⟩) 64 64,.slice (some ⟨w.heap.size+1+1,0,none⟩) 256 256⟩).toArray) rfl (by kernel_rfl) (by kernel_rfl) (by kernel_rfl) (fun _ _ _ h=>h) (Or.inl ⟨by rfl,fun w' _=>exec_build6 41 2 3 4 5 6 14 _ _ _ _ _ _ rfl _ _ _ _ _ _ _ rfl rfl rfl rfl rfl rfl (run_new a1 a2 l1.length c1 l2.length c2 (w.heap.size+1+1+1) (w.heap.size+1) (w.heap.size+1+1) l1 l2 w')⟩) trivial ?_
 simp only [Act.put,xA,xB,xC]
 rotate_left 1
 refine wpAnyH_ready (rs:=[3]) (by kernel_rfl) (by simp) ?_
 refine consH_make (op:=⟨some 12,_,_,_,_,none⟩) rfl rfl 26 _ _ rfl (.int .i64 64) (.int .i64 64) _ rfl rfl (mk64 _ (w.heap.size+1+1+1) (by simp)) trivial ?_ AllReadyH.nil
 simp only [Act.put,xA,xB,xC]
 refine cutH (NF w l1 l2 ⟨.slice a1 l1.length c1,.slice a2 l2.length c2,.slice (some ⟨_,0,none⟩) 128 128,.slice (some ⟨_,0,none⟩) 64 64,.slice (some ⟨_,0,none⟩) 256 256⟩) (NF.of (b1:=w.heap.size+1+1) (b2:=w.heap.size+1+1+1) (b3:=w.heap.size+1) H1.out H2.out ?_ ?_ ?_ ?_ ?_) ?_
 ·repeat' (first | exact st0 _ | refine Below.drew ?_ | refine stA ?_ _)
 ·repeat' (first | exact HR.out | refine Bx.drew ?_ | refine Bx.over ?_ _)
 ·repeat' (first | exact Bx.new _ (List.replicate 128 (.int .u8 0)) _ (by simp) | refine Bx.drew ?_ | refine Bx.over ?_ _)
 ·repeat' (first | exact Bx.new _ (List.replicate 64 (.int .u8 0)) _ (by simp) | refine Bx.drew ?_ | refine Bx.over ?_ _)
 ·repeat' (first | exact Bx.new _ (List.replicate 256 (.int .u8 0)) _ (by simp) | refine Bx.drew ?_ | refine Bx.over ?_ _)
 intro Y hY
 have HY:=hid hY
 clear hY
 refine wpAnyH_take (i:=5) (oi:=⟨some 14,_,_,_,_,none⟩) (v:=.agg (machL (newM l1 l2) ⟨.slice a1 l1.length c1,.slice a2 l2.length c2,.slice (some ⟨w.heap.size+1+1,0,none⟩) 128 128,.slice (some ⟨w.heap.size+1+1+1,0,none⟩) 64 64,.slice (some ⟨w.heap.size+1,0,none⟩) 256 256⟩).toArray) rfl (by kernel_rfl) (by kernel_rfl) (by kernel_rfl) (fun _ _ _ h=>h) (Or.inl ⟨by rfl,fun w' _=>exec_build6 41 2 3 4 5 6 14 _ _ _ _ _ _ rfl _ _ _ _ _ _ _ rfl rfl rfl rfl rfl rfl (run_new a1 a2 l1.length c1 l2.length c2 (w.heap.size+1+1) (w.heap.size+1+1+1) (w.heap.size+1) l1 l2 w')⟩) trivial ?_
 simp only [Act.put,xA,xB,xC]
 rotate_left 1
 refine wpAnyH_ready (rs:=[2]) (by kernel_rfl) (by simp) ?_
 refine consH_make (op:=⟨some 11,_,_,_,_,none⟩) rfl rfl 26 _ _ rfl (.int .i64 128) (.int .i64 128) _ rfl rfl (mk128 _ (w.heap.size+1+1+1) (by simp)) trivial ?_ AllReadyH.nil
 simp only [Act.put,xA,xB,xC]
 refine cutH (NF w l1 l2 ⟨.slice a1 l1.length c1,.slice a2 l2.length c2,.slice (some ⟨_,0,none⟩) 128 128,.slice (some ⟨_,0,none⟩) 64 64,.slice (some ⟨_,0,none⟩) 256 256⟩) (NF.of (b1:=w.heap.size+1+1+1) (b2:=w.heap.size+1+1) (b3:=w.heap.size+1) H1.out H2.out ?_ ?_ ?_ ?_ ?_) ?_
 ·repeat' (first | exact st0 _ | refine Below.drew ?_ | refine stA ?_ _)
 ·repeat' (first | exact HR.out | refine Bx.drew ?_ | refine Bx.over ?_ _)
 ·repeat' (first | exact Bx.new _ (List.replicate 128 (.int .u8 0)) _ (by simp) | refine Bx.drew ?_ | refine Bx.over ?_ _)
 ·repeat' (first | exact Bx.new _ (List.replicate 64 (.int .u8 0)) _ (by simp) | refine Bx.drew ?_ | refine Bx.over ?_ _)
 ·repeat' (first | exact Bx.new _ (List.replicate 256 (.int .u8 0)) _ (by simp) | refine Bx.drew ?_ | refine Bx.over ?_ _)
 intro Y hY
 have HY:=hid hY
 clear hY
 refine wpAnyH_take (i:=5) (oi:=⟨some 14,_,_,_,_,none⟩) (v:=.agg (machL (newM l1 l2) ⟨.slice a1 l1.length c1,.slice a2 l2.length c2,.slice (some ⟨w.heap.size+1+1+1,0,none⟩) 128 128,.slice (some ⟨w.heap.size+1+1,0,none⟩) 64 64,.slice (some ⟨w.heap.size+1,0,none⟩) 256 256⟩).toArray) rfl (by kernel_rfl) (by kernel_rfl) (by kernel_rfl) (fun _ _ _ h=>h) (Or.inl ⟨by rfl,fun w' _=>exec_build6 41 2 3 4 5 6 14 _ _ _ _ _ _ rfl _ _ _ _ _ _ _ rfl rfl rfl rfl rfl rfl (run_new a1 a2 l1.length c1 l2.length c2 (w.heap.size+1+1+1) (w.heap.size+1+1) (w.heap.size+1) l1 l2 w')⟩) trivial ?_
 simp only [Act.put,xA,xB,xC]
 rotate_left 1
 all_goals
  refine wpAnyH_ready (rs:=[6]) (by kernel_rfl) (by simp) ?_
  refine AllReadyH.cons (o:=⟨some 15,_,_,_,_,none⟩) rfl (fun K hK=>?_) AllReadyH.nil
  go_simp
  go_at_call 45
  refine (Bu.open_ok (newM l1 l2) _ _ HY.out.sl.lens HY.out.sl (newM_fit l1 l2 hl1 hl2) (by show (0:Int)<=20000;decide)).mono ?_
  rintro e w1 ⟨F,hFB,rfl,hr,hB1,hb1⟩
  have HN:=hid (NB.mk hB1 (stp HY.out.low hb1) (HY.out.res.kept hb1) (by rw [hFB];exact HY.out.res.z) hr)
  clear hB1 hb1 hFB hr
  try go_wp2_with fail
  refine hK.out _ _ trivial (fun _=>?_)
  clear hK K HY
  try simp only [Act.put,xA,xB,xC]
  refine wpAnyH_take (i:=7) (oi:=⟨some 8,_,_,_,_,none⟩) (v:=?_) rfl (by kernel_rfl) (by kernel_rfl) (by kernel_rfl) (fun _ _ _ h=>h) (Or.inl ⟨by rfl,?_⟩) trivial ?_
  rotate_left 1
  focus (intro w hSw;(try dsimp only at hSw);go_simp;try (with_reducible rfl))
  simp only [Act.put,xA,xB,xC]
  refine wpAnyH_take (i:=8) (oi:=⟨some 16,_,_,_,_,none⟩) (v:=?_) rfl (by kernel_rfl) (by kernel_rfl) (by kernel_rfl) (fun _ _ _ h=>h) (Or.inl ⟨by rfl,?_⟩) trivial ?_
  rotate_left 1
  focus (intro w hSw;(try dsimp only at hSw);go_simp;try (with_reducible rfl))
  simp only [Act.put,xA,xB,xC]
  refine wpAnyH_take (i:=9) (oi:=⟨some 17,_,_,_,_,none⟩) (v:=?_) rfl (by kernel_rfl) (by kernel_rfl) (by kernel_rfl) (fun _ _ _ h=>h) (Or.inl ⟨by rfl,?_⟩) trivial ?_
  rotate_left 1
  focus (intro w hSw;(try dsimp only at hSw);go_simp;try (with_reducible rfl))
  simp only [Act.put,xA,xB,xC]
  refine wpAnyH_take (i:=10) (oi:=⟨some 6,_,_,_,_,none⟩) (v:=?_) rfl (by kernel_rfl) (by kernel_rfl) (by kernel_rfl) (fun _ _ _ h=>h) (Or.inl ⟨by rfl,?_⟩) trivial ?_
  rotate_left 1
  focus (intro w hSw;(try dsimp only at hSw);go_simp;try (with_reducible rfl))
  simp only [Act.put,xA,xB,xC]
  refine wpAnyH_take (i:=11) (oi:=⟨some 7,_,_,_,_,none⟩) (v:=?_) rfl (by kernel_rfl) (by kernel_rfl) (by kernel_rfl) (fun _ _ _ h=>h) (Or.inl ⟨by rfl,?_⟩) trivial ?_
  rotate_left 1
  focus (intro w hSw;(try dsimp only at hSw);go_simp;try (with_reducible rfl))
  simp only [Act.put,xA,xB,xC]
  refine wpAnyH_done (by kernel_rfl) ?_ _
  refine Pl.cutE (NB w F (newM l1 l2) Tk.zero (machL zeroM nilS)) HN.out ?_
  intro X hX
  have HX:=hid hX
  clear hX HN
  go_wp2_with (first
   | (go_at_call 47;refine (Bu.main_any F.g _).mono ?_;rintro e w2 ⟨rfl,hb2⟩;have HX2:=hid (HX.out.kept hb2);clear hb2)
   | (go_at_call 46;refine (Bu.begin_any HX2.out.bd 77 _ _ (Bu.reads_M 0 (by omega)) (Bu.reads_M 1 (by omega)) (lookM_bd _ _) (lookM_bd _ _)).mono ?_;rintro e w3 ⟨rfl,hB3,hT3⟩;have HX3:=hid (HX2.out.go hB3 hT3);clear hB3 hT3)
   | (refine wpList_store_mid rfl 25 _ _ rfl F.g 0 (begL ((newM l1 l2).lookM 0 * 256+(newM l1 l2).lookM 1)).toArray rfl rfl (Bx.there HX3.out.bd.bx 0 15 (by rw [Fx.len];omega)) info_cpu (beg_one _) ?_
      refine Pl.cutL (NB w F (newD l1 l2) Tk.zero (machL zeroM nilS)) (new_put HX3.out) ?_
      intro Z hZ
      have HZ:=hid hZ
      clear hZ)
   | (refine wpList_load_mid rfl 41 _ rfl F.g 0 rfl (machL (newD l1 l2) F.S) _ HZ.out.bd.row Tryz.underlying41 rfl info_mach ?_)
   | (refine wpList_store_mid rfl 41 _ _ rfl w.heap.size 0 (machL (newD l1 l2) F.S).toArray rfl rfl (HZ.out.res.there 0 75 (by rw [machL_len];omega)) info_mach (machL_one _ _ HZ.out.bd.isSl) ?_
      refine Pl.cutL (fun V=>Below w.heap.size w V/\Bx V w.heap.size (machL (newD l1 l2) F.S)/\SlAt V F.S (newD l1 l2)) (HZ.out.fin rfl) ?_
      rintro V ⟨hV1,hV2,hV3⟩
      have HV1:=hid hV1
      have HV2:=hid hV2
      have HV3:=hid hV3
      clear hV1 hV2 hV3))
  have hl:=load_mach _ _ HV2.out.c
  refine bodyPost_ret (v:=.tuple #[.agg (machL (newD l1 l2) F.S).toArray,.int .i64 0]) ?_ rfl ⟨F.S,rfl,HV3.out,HZ.out.bd.fit,(HZ.out.bd.slNew HZ.out.r).mono HZ.out.B,HV1.out⟩
  simp only [results,Tryz.results22]
  simp
  show (Result.andThen (Sem.run Tryz.prog (loadVar 41 ⟨w.heap.size,0,none⟩) V) _)=_
  rw [hl]
  rfl
section
variable (main aux : C.Cpu) (arom ram own video : List UInt8) (p0 p1 : Pd) (t : TM) (s : Sd) (b : Bem) (fr tt : Int) (granted held : Bool) (m0 m1 : Int) (rung : Bool) (clock mready aready : Int) (l : List Wt)
end
theorem step_may {σ:Type} {m:C.Mem σ} (c:C.Cpu) (s:σ) (r:Bool) (h1:c.Waits=false) (h2:c.May=false):C.step m c s r=C.order m c s:=by
 unfold C.step
 rw [h2,Bool.and_false,if_neg (by simp),h1,if_neg (by simp)]
theorem row_len {w:World} {B z n:Nat} {t:TypeId} {v:Value} {xs:List Value} (h:w.ownsRow B t z v n xs):∃ a c,v = .slice a n c:=by
 rcases h.2 with ⟨e0,e1⟩ | ⟨g,cap,cur,e0,_⟩
 ·exact ⟨none,0,by rw [e0,e1]⟩
 ·exact ⟨_,_,e0⟩
theorem isSl_of {W:World} {S:Sl} {M:Mach} (h:SlAt W S M):S.isSl:=fun j hj=>by
 obtain ⟨a,c,e⟩:=slice_len (h j hj)
 exact ⟨_,_,_,e⟩
structure LBx (w : World) (b : Nat) (M : Mach) (S : Sl) (Y : World) : Prop where
 low:Below w.heap.size w Y
 ge:w.heap.size<=b
 bx:Bx Y b (machL M S)
 sl:SlAt Y S M
theorem LBx.mk0 {w w2:World} {M:Mach} {S:Sl} (hb:Below w.heap.size w w2) (hs:SlAt w2 S M):LBx w w2.heap.size M S ((w2.alloc (.cells (machL zeroM nilS).toArray 41)).setCells w2.heap.size 0 (machL M S)):=by
 have hx:=(Bx.new w2 (machL zeroM nilS) 41 (b:=w2.heap.size) rfl).puts 0 (machL M S) (by rw [machL_len,machL_len];omega)
 rw [putL_whole _ _ (by rw [machL_len,machL_len])] at hx
 have hq:Below w2.heap.size w2 ((w2.alloc (.cells (machL zeroM nilS).toArray 41)).setCells w2.heap.size 0 (machL M S)):=Bl.puts (stA (st0 w2) _) (Nat.le_refl _) _
 exact ⟨stp hb hq,hb.size,hx,hs.kept hq⟩
structure LE (w : World) (b c : Nat) (M : Mach) (S : Sl) (L : List Value) (Y : World) : Prop where
 low:Below w.heap.size w Y
 bx:Bx Y b (machL M S)
 sh:Bx Y c L
theorem LE.put {w Y:World} {b c:Nat} {X:Mach} {S':Sl} {x y z x' y' z':Value} (h:LE w b c X S' [x,y,z] Y) (hne:b ≠ c) (hge:w.heap.size<=c):LE w b c X S' [x',y',z'] (Y.setCells c 0 [x',y',z']):=by
 have h1:=h.sh.puts 0 [x',y',z'] (by simp)
 rw [putL_whole _ _ (by simp)] at h1
 exact ⟨below_sets' h.low hge _ _,DW.bb h.bx hne,h1⟩
theorem nil_inp (B:Nat) (w:World):InpAt B w (.slice none 0 0) []:=Or.inl ⟨rfl,_,_,rfl⟩
theorem sl_nil (w:World):sliceAt w (.slice none 0 0) []:=Or.inl ⟨_,_,rfl,rfl⟩
theorem Bu.eq_arr (a0 a1 a2 a3 a4 a5 a6 a7:Int) (d:Nat) (w:World) :
 (Op.equalIn (d+2) 23 (.agg #[.int .u16 a0,.int .u16 a1,.int .u16 a2,.int .u16 a3,.int .u16 a4,.int .u16 a5,.int .u16 a6,.int .u16 a7]) (.agg #[.int .u16 a0,.int .u16 a1,.int .u16 a2,.int .u16 a3,.int .u16 a4,.int .u16 a5,.int .u16 a6,.int .u16 a7])).run Tryz.prog w = .ok true w:=by
 have u3:=Tryz.underlying22
 have x3:=Tryz.isAgg22
 have z3:=Tryz.sizeOf22
 have hU:Tryz.prog.cellsOf 22=1:=by kernel_rfl
 have hs:(Tryz.prog.info? 22).isSome=true:=by kernel_rfl
 obtain ⟨i,hi⟩:=Option.isSome_iff_exists.1 hs
 rw [run_equalIn_array w (d+1) _ _ Tryz.underlying23 hi,hU]
 simp only [List.range,List.range.loop,Op.eqItems]
 go_simp
theorem Bu.eq_cpu (c:C.Cpu) (w:World):(binOp .eql 25 (.agg #[.int .u16 (c.r 0),.int .u16 (c.r 1),.int .u16 (c.r 2),.int .u16 (c.r 3),.int .u16 (c.r 4),.int .u16 (c.r 5),.int .u16 (c.r 6),.int .u16 (c.r 7),.int .u16 c.PC,.bool c.Z,.bool c.N,.bool c.C,.bool c.V,.bool c.May,.bool c.Waits]) (.agg #[.int .u16 (c.r 0),.int .u16 (c.r 1),.int .u16 (c.r 2),.int .u16 (c.r 3),.int .u16 (c.r 4),.int .u16 (c.r 5),.int .u16 (c.r 6),.int .u16 (c.r 7),.int .u16 c.PC,.bool c.Z,.bool c.N,.bool c.C,.bool c.V,.bool c.May,.bool c.Waits])).run Tryz.prog w = .ok (.bool true) w:=by
 have u3:=Tryz.underlying22
 have x3:=Tryz.isAgg22
 have z3:=Tryz.sizeOf22
 have u4:=Tryz.underlying4
 have x4:=Tryz.isAgg4
 have z4:=Tryz.sizeOf4
 have x5:=Tryz.isAgg23
 have z5:=Tryz.sizeOf23
 have ha:=Bu.eq_arr (c.r 0) (c.r 1) (c.r 2) (c.r 3) (c.r 4) (c.r 5) (c.r 6) (c.r 7) 9997
 have hS:Tryz.prog.underlying 25=some (.struct (Tryz.prog.fieldsOf 25)):=by kernel_rfl
 have hp:Tryz.prog.stoodInHeld 25=false:=by kernel_rfl
 rw [run_eql_struct,show (10000:Nat)=9999+1 from rfl,run_equalIn_agg w 9999 25 _ _ hS hp]
 simp only [Program.fieldsOf,Tryz.underlying25]
 go_simp
theorem Bu.eq_cpuL (c:C.Cpu) (w:World):(binOp .eql 25 (.agg (cpuL c).toArray) (.agg (cpuL c).toArray)).run Tryz.prog w = .ok (.bool true) w:=Bu.eq_cpu c w
theorem Bu.eq_sndL (s:Sd) (w:World):(binOp .eql 36 (.agg (sndL s).toArray) (.agg (sndL s).toArray)).run Tryz.prog w = .ok (.bool true) w:=eq_sound s w
theorem Bu.eq_pad (d s:Int) (l:Bool) (n:Nat) (w:World):(Op.equalIn (n+2) 28 (.agg #[.int .u8 d,.bool l,.int .u8 s]) (.agg #[.int .u8 d,.bool l,.int .u8 s])).run Tryz.prog w = .ok true w:=by
 have u4:=Tryz.underlying4
 have a4:=Tryz.isAgg4
 have z4:=Tryz.sizeOf4
 have u5:=Tryz.underlying5
 have a5:=Tryz.isAgg5
 have z5:=Tryz.sizeOf5
 have hS:Tryz.prog.underlying 28=some (.struct (Tryz.prog.fieldsOf 28)):=by kernel_rfl
 have hp:Tryz.prog.stoodInHeld 28=false:=by kernel_rfl
 rw [run_equalIn_agg w (n+1) 28 _ _ hS hp]
 simp only [Program.fieldsOf,Tryz.underlying28]
 go_simp
theorem Bu.eq_timer (r c:Int) (on g:Bool) (w:World):(binOp .eql 31 (.agg #[.int .u16 r,.int .u16 c,.bool on,.bool g]) (.agg #[.int .u16 r,.int .u16 c,.bool on,.bool g])).run Tryz.prog w = .ok (.bool true) w:=by
 have u3:=Tryz.underlying22
 have a3:=Tryz.isAgg22
 have z3:=Tryz.sizeOf22
 have u4:=Tryz.underlying4
 have a4:=Tryz.isAgg4
 have z4:=Tryz.sizeOf4
 have hS:Tryz.prog.underlying 31=some (.struct (Tryz.prog.fieldsOf 31)):=by kernel_rfl
 have hp:Tryz.prog.stoodInHeld 31=false:=by kernel_rfl
 rw [run_eql_struct,show (10000:Nat)=9999+1 from rfl,run_equalIn_agg w 9999 31 _ _ hS hp]
 simp only [Program.fieldsOf,Tryz.underlying31]
 go_simp
theorem Bu.eq_beam (l a f:Int) (g:Bool) (w:World):(binOp .eql 38 (.agg #[.int .i64 l,.int .i64 a,.bool g,.int .i64 f]) (.agg #[.int .i64 l,.int .i64 a,.bool g,.int .i64 f])).run Tryz.prog w = .ok (.bool true) w:=by
 have u3:=Tryz.underlying3
 have a3:=Tryz.isAgg3
 have z3:=Tryz.sizeOf3
 have u4:=Tryz.underlying4
 have a4:=Tryz.isAgg4
 have z4:=Tryz.sizeOf4
 have hS:Tryz.prog.underlying 38=some (.struct (Tryz.prog.fieldsOf 38)):=by kernel_rfl
 have hp:Tryz.prog.stoodInHeld 38=false:=by kernel_rfl
 rw [run_eql_struct,show (10000:Nat)=9999+1 from rfl,run_equalIn_agg w 9999 38 _ _ hS hp]
 simp only [Program.fieldsOf,Tryz.underlying38]
 go_simp
theorem Bu.eq_pads (d s d' s':Int) (l l':Bool) (w:World):(binOp .eql 29 (.agg #[.int .u8 d,.bool l,.int .u8 s,.int .u8 d',.bool l',.int .u8 s']) (.agg #[.int .u8 d,.bool l,.int .u8 s,.int .u8 d',.bool l',.int .u8 s'])).run Tryz.prog w = .ok (.bool true) w:=by
 have h0:=Bu.eq_pad d s l 9997
 have h1:=Bu.eq_pad d' s' l' 9997
 have a3:=Tryz.isAgg28
 have z3:=Tryz.sizeOf28
 have hU:Tryz.prog.cellsOf 28=3:=by kernel_rfl
 have hs:(Tryz.prog.info? 28).isSome=true:=by kernel_rfl
 obtain ⟨i,hi⟩:=Option.isSome_iff_exists.1 hs
 rw [run_eql_struct,show (10000:Nat)=9999+1 from rfl,run_equalIn_array w 9999 _ _ Tryz.underlying29 hi,hU]
 simp only [List.range,List.range.loop,Op.eqItems]
 go_simp
theorem Bu.eq_mail (x y:Int) (w:World):(binOp .eql 39 (.agg #[.int .u8 x,.int .u8 y]) (.agg #[.int .u8 x,.int .u8 y])).run Tryz.prog w = .ok (.bool true) w:=by
 have u3:=Tryz.underlying5
 have a3:=Tryz.isAgg5
 have z3:=Tryz.sizeOf5
 have hU:Tryz.prog.cellsOf 5=1:=by kernel_rfl
 have hs:(Tryz.prog.info? 5).isSome=true:=by kernel_rfl
 obtain ⟨i,hi⟩:=Option.isSome_iff_exists.1 hs
 rw [run_eql_struct,show (10000:Nat)=9999+1 from rfl,run_equalIn_array w 9999 _ _ Tryz.underlying39 hi,hU]
 simp only [List.range,List.range.loop,Op.eqItems]
 go_simp
end Go.Proofs.YtbhpfkjfijdmaaaGreatDoor
