/-
  Parts of a proof, joined.
-/
import Derived.Test.YtbennamieealbaaGreatDoorZc07
import Derived.Test.YtbennamieealbaaGreatDoorZc23
import Derived.Test.YtbennamieealbaaGreatDoorZc17
import Derived.Test.YtbennamieealbaaGreatDoorZc30
import Derived.Test.YtbennamieealbaaGreatDoorZc35
import Derived.Test.YtbennamieealbaaGreatDoorZc06
set_option linter.unusedVariables false
set_option maxRecDepth 100000
set_option maxHeartbeats 3200000
namespace Go.Proofs.YtbennamieealbaaGreatDoor
open Go.ChangeShapes Go.WideShapes Go.ChangeAt Go.RowKit
def newM (l1 l2:List UInt8):Mach:={ zeroM with mrom:=l1,arom:=l2,ram:=List.replicate 128 0,own:=List.replicate 64 0,video:=List.replicate 256 0,held:=true }
theorem zgy:C.Cpu.zero.ok:=⟨rfl,λx hx=>by simp [C.Cpu.zero] at hx;omega,by decide,by decide⟩
theorem z8:0<=(0:Int)/\(0:Int)<=255:=by decide
theorem z16:0<=(0:Int)/\(0:Int)<=65535:=by decide
theorem zok:zeroM.ok:=⟨zgy,zgy,⟨z8,z8⟩,⟨z8,z8⟩,z16,z16,⟨⟨z16,z16,z8,z16⟩,⟨z16,z16,z8,z16⟩,⟨z16,z16,z8,z16⟩⟩,z16,z16,z8,z8⟩
theorem zoX (l1 l2:List UInt8) (h1:l1.length<=1024) (h2:l2.length<=1024):(newM l1 l2).fit :=
 ⟨⟨zgy,zgy,⟨z8,z8⟩,⟨z8,z8⟩,z16,z16,zok.s,z16,z16,z8,z8⟩,h1,h2,by simp [newM],by simp [newM],by simp [newM],(by decide:0<=(0:Int)/\(0:Int)<=15),⟨(by decide:0<=(0:Int)),(by decide:(0:Int)<=9),(by decide:0<=(0:Int)),(by decide:(0:Int)<=63),(by decide:0<=(0:Int)),(by decide:(0:Int)<=20001)⟩,(by decide:0<=(0:Int)/\(0:Int)<=200000),(by decide:0<=(0:Int)/\(0:Int)<=0+20000),(by decide:0<=(0:Int)/\(0:Int)<=0+20000)⟩
theorem zdc (a1 a2:Option Addr) (n1 c1 n2 c2 b1 b2 b3:Nat) (l1 l2:List UInt8) (w:World):(Instr.build 41 #[(2,.slice a1 n1 c1),(3,.slice a2 n2 c2),(4,.slice (some ⟨b1,0,none⟩) 128 128),(5,.slice (some ⟨b2,0,none⟩) 64 64),(6,.slice (some ⟨b3,0,none⟩) 256 256),(14,.bool true)]).run Tryz.prog w =
 .ok (.agg (machL (newM l1 l2) ⟨.slice a1 n1 c1,.slice a2 n2 c2,.slice (some ⟨b1,0,none⟩) 128 128,.slice (some ⟨b2,0,none⟩) 64 64,.slice (some ⟨b3,0,none⟩) 256 256⟩).toArray) w:=by kernel_rfl
theorem zbc {P:Program} {a:Act} {o:Oper} {w:World} (t:TypeId) (i0 i1 i2 i3 i4 i5:Nat) (x0 x1 x2 x3 x4 x5:Operand) (ho:o.op = .build t #[(i0,x0),(i1,x1),(i2,x2),(i3,x3),(i4,x4),(i5,x5)]) (v0 v1 v2 v3 v4 v5 v:Value) (h0:a.eval x0=v0) (h1:a.eval x1=v1) (h2:a.eval x2=v2) (h3:a.eval x3=v3) (h4:a.eval x4=v4) (h5:a.eval x5=v5)
 (hrun:(Instr.build t #[(i0,v0),(i1,v1),(i2,v2),(i3,v3),(i4,v4),(i5,v5)]).run P w = .ok v w):(execOp a.eval o).run P w = .ok (.value v) w :=
 zfc t _ ho v (by simp only [List.map_toArray,List.map_cons,List.map_nil,h0,h1,h2,h3,h4,h5];exact hrun)
theorem zgz {W:World} {n b:Nat} (h:Bx W b (List.replicate n (.int .u8 0))) (hn:0<n):sliceAt W (.slice (some ⟨b,0,none⟩) n n) (List.replicate n 0):=by
 refine Or.inr ⟨b,0,n,by simp,by simp,h.z,λj c hj=>?_⟩
 rw [Nat.zero_add]
 refine h.at j _ ?_
 have hl:=(List.getElem?_eq_some_iff.1 hj).1
 simp only [List.length_replicate] at hl
 rw [List.getElem?_replicate,if_pos hl] at hj ⊢
 cases hj
 rfl
structure NB (w : World) (F : Fx) (M : Mach) (tk : Tk) (L : List Value) (Y : World) : Prop where
 bd:Bd F Y M tk
 low:Below w.heap.size w Y
 res:Bx Y w.heap.size L
 B:w.heap.size<F.B
 r:F.B<=F.mr/\F.B<=F.ar
theorem NB.go {w Y Y':World} {F:Fx} {M M':Mach} {tk tk':Tk} {L:List Value} (h:NB w F M tk L Y) (hB:Bd F Y' M' tk') (ht:Bt F Y Y'):NB w F M' tk' L Y':=by
 have hb:=h.B
 exact ⟨hB,h.low.trans ((Mv.below ht).mono (by omega)),h.res.under (Mv.below ht) hb,hb,h.r⟩
theorem NB.kept {w Y Y':World} {F:Fx} {M:Mach} {tk:Tk} {L:List Value} (h:NB w F M tk L Y) (hb:Below Y.heap.size Y Y'):NB w F M tk L Y':=h.go (h.bd.kept hb) (Mv.of_below h.bd.big hb)
theorem NB.fin {w Y:World} {F:Fx} {M:Mach} {tk:Tk} {L L':List Value} (h:NB w F M tk L Y) (hl:L'.length=L.length):Below w.heap.size w (Y.setCells w.heap.size 0 L')/\Bx (Y.setCells w.heap.size 0 L') w.heap.size L'/\SlAt (Y.setCells w.heap.size 0 L') F.S M:=by
 have hx:=h.res.puts 0 L' (by omega)
 rw [zau _ _ hl] at hx
 have lo:=h.bd.nd.lo
 have hB:=h.B
 have hr:=h.r
 refine ⟨Bl.puts h.low (by omega) _,hx,λj hj=>?_⟩
 rcases five hj with rfl|rfl|rfl|rfl|rfl
 ·exact (h.bd.mr.offB (by omega) _ _).slice
 ·exact (h.bd.ar.offB (by omega) _ _).slice
 ·exact (h.bd.ra.offB (by omega) _ _).slice
 ·exact (h.bd.ow.offB (by omega) _ _).slice
 ·exact (h.bd.vi.offB (by omega) _ _).slice
structure NF (w : World) (l1 l2 : List UInt8) (S : Sl) (Y : World) : Prop where
 low:Below w.heap.size w Y
 res:Bx Y w.heap.size (machL zeroM nilS)
 sl:SlAt Y S (newM l1 l2)
theorem NF.of {w Y:World} {l1 l2:List UInt8} {a1 a2:Option Addr} {c1 c2 b1 b2 b3:Nat} (H1:sliceAt w (.slice a1 l1.length c1) l1) (H2:sliceAt w (.slice a2 l2.length c2) l2) (hl:Below w.heap.size w Y) (hr:Bx Y w.heap.size (machL zeroM nilS))
 (x1:Bx Y b1 (List.replicate 128 (.int .u8 0))) (x2:Bx Y b2 (List.replicate 64 (.int .u8 0))) (x3:Bx Y b3 (List.replicate 256 (.int .u8 0))):NF w l1 l2 ⟨.slice a1 l1.length c1,.slice a2 l2.length c2,.slice (some ⟨b1,0,none⟩) 128 128,.slice (some ⟨b2,0,none⟩) 64 64,.slice (some ⟨b3,0,none⟩) 256 256⟩ Y :=
 ⟨hl,hr,λj hj=>by
   rcases five hj with rfl|rfl|rfl|rfl|rfl
   ·exact H1.kept hl
   ·exact H2.kept hl
   ·exact zgz x1 (by omega)
   ·exact zgz x2 (by omega)
   ·exact zgz x3 (by omega)⟩
theorem mk1280 (w:World):(Instr.makeSlice 26 (.int .i64 128) (.int .i64 128)).run Tryz.prog w = .ok (.slice (some ⟨w.heap.size,0,none⟩) 128 128) (w.alloc (.cells (List.replicate 128 (.int .u8 0)).toArray 5)):=by kernel_rfl
theorem mk128 (w:World) (k:Nat) (h:w.heap.size=k):(Instr.makeSlice 26 (.int .i64 128) (.int .i64 128)).run Tryz.prog w = .ok (.slice (some ⟨k,0,none⟩) 128 128) (w.alloc (.cells (List.replicate 128 (.int .u8 0)).toArray 5)):=by subst h;exact mk1280 w
theorem mk640 (w:World):(Instr.makeSlice 26 (.int .i64 64) (.int .i64 64)).run Tryz.prog w = .ok (.slice (some ⟨w.heap.size,0,none⟩) 64 64) (w.alloc (.cells (List.replicate 64 (.int .u8 0)).toArray 5)):=by kernel_rfl
theorem mk64 (w:World) (k:Nat) (h:w.heap.size=k):(Instr.makeSlice 26 (.int .i64 64) (.int .i64 64)).run Tryz.prog w = .ok (.slice (some ⟨k,0,none⟩) 64 64) (w.alloc (.cells (List.replicate 64 (.int .u8 0)).toArray 5)):=by subst h;exact mk640 w
theorem mkV0 (w:World):(Instr.makeSlice 26 (.int .i64 256) (.int .i64 256)).run Tryz.prog w = .ok (.slice (some ⟨w.heap.size,0,none⟩) 256 256) (w.alloc (.cells (List.replicate 256 (.int .u8 0)).toArray 5)):=by kernel_rfl
theorem mkV (w:World) (k:Nat) (h:w.heap.size=k):(Instr.makeSlice 26 (.int .i64 256) (.int .i64 256)).run Tryz.prog w = .ok (.slice (some ⟨k,0,none⟩) 256 256) (w.alloc (.cells (List.replicate 256 (.int .u8 0)).toArray 5)):=by subst h;exact mkV0 w
theorem zm2 {P:Program} {ops:Array Oper} {op:Oper} {a:Act} {w w':World} {K:Act->World->Prop} {Q:Exit->Act->World->Prop} {E:Prop} (hgd:op.guard=none) (t:TypeId) (l c:Operand) (ho:op.op = .makeSlice t l c) (lv cv v:Value) (hl:a.eval l=lv) (hc:a.eval c=cv)
 (hrun:(Instr.makeSlice t lv cv).run P w = .ok v w') (h:K (a.put op.dst v) w'):if Region.wanted op (yielded ops a.tmps)=true then Oper.wp P op a w K Q else E:=by
 rw [if_pos (by simp [Region.wanted,hgd])]
 unfold Oper.wp execOp
 simp only [ho,hl,hc,Sem.run_bind,hrun,Result.andThen_ok,Sem.run_pure]
 exact h
theorem zaE {P:Program} {md:Region.Mode} {ops:Array Oper} {Q:Exit->Act->World->Prop} {S:World->Prop} {fuel:Nat} {listed:Array Bool} {a:Act} {w w':World} {i:Nat} {rs:List Nat} {op:Oper} (hi:ops[i]? = some op) (hgd:op.guard=none) (t:TypeId) (l c:Operand) (ho:op.op = .makeSlice t l c) (lv cv v:Value) (hl:a.eval l=lv) (hc:a.eval c=cv)
 (hrun:(Instr.makeSlice t lv cv).run P w = .ok v w') (hS:S w') (h:wpAnyH P md ops Q S fuel (listed.setIfInBounds i true) (a.put op.dst v) w') (hs:AllReadyH P md ops Q S fuel listed a w rs):AllReadyH P md ops Q S fuel listed a w (i::rs) :=
 AllReadyH.cons hi (λK hK=>zm2 hgd t l c ho lv cv v hl hc hrun (hK.out _ _ hS (λ_=>h))) hs
theorem cutH {P:Program} {md:Region.Mode} {ops:Array Oper} {Q:Exit->Act->World->Prop} {S:World->Prop} {fuel:Nat} {listed:Array Bool} {a:Act} {w:World} (K:World->Prop) (h:K w) (k:∀ w',K w'->wpAnyH P md ops Q S fuel listed a w'):wpAnyH P md ops Q S fuel listed a w:=k w h
def newD (l1 l2:List UInt8):Mach:={ newM l1 l2 with main:=beginC ((newM l1 l2).lookM 0) ((newM l1 l2).lookM 1) }
theorem zq1 {w Y:World} {F:Fx} {l1 l2:List UInt8} {L:List Value} (h:NB w F (newM l1 l2) Tk.zero L Y):NB w F (newD l1 l2) Tk.zero L (Y.setCells F.g 0 (begL ((newM l1 l2).lookM 0*256+(newM l1 l2).lookM 1))):=by
 have hok:=zpD _ _ (zci (newM l1 l2) 0) (zci (newM l1 l2) 1)
 have hf:(newD l1 l2).fit:=Mach.fit.of h.bd.fit { h.bd.fit with main:=hok } ⟨rfl,rfl,rfl,rfl,rfl⟩ rfl ⟨rfl,rfl,rfl⟩ ⟨rfl,rfl⟩ (Or.inl rfl)
 rw [zl1]
 exact h.go (h.bd.puts (M':=newD l1 l2) (tk':=Tk.zero) 0 (cpuL (beginC ((newM l1 l2).lookM 0) ((newM l1 l2).lookM 1))) (by simp [cpuL]) (F.putMain _ _ _) ⟨rfl,rfl,rfl,rfl,rfl⟩ hf) (Bt.sets h.bd.nd _ 0 _ (Bt.refl _ _))
theorem zm3 (l1 l2:List UInt8) (v1 v2:Value) (w:World) (h1:sliceAt w v1 l1) (h2:sliceAt w v2 l2) (hl1:l1.length<=1024) (hl2:l2.length<=1024) :
 Calls Tryz.prog 25 #[v1,v2] w λe w'=>∃ S',e = .returned (.tuple #[.agg (machL (newD l1 l2) S').toArray,.int .i64 0])/\SlAt w' S' (newD l1 l2)/\(newD l1 l2).fit/\SlNew (w.heap.size+1) S'/\Below w.heap.size w w':=by
 obtain ⟨a1,c1,e1⟩:=zbt h1
 obtain ⟨a2,c2,e2⟩:=zbt h2
 subst e1 e2
 have H1:=hid h1
 have H2:=hid h2
 have HR:=hid (Bx.new w (machL zeroM nilS) 41 (b:=w.heap.size) rfl)
 clear h1 h2
 go_enter Tryz.func25,Tryz.ntmps25
 go_wp2
 refine wp_region_held_drew (S:=λ_=>True) (by kernel_rfl) trivial ?_
 intro _
 refine tqK 0 ⟨some 9,_,_,_,_,none⟩ trivial ?_
 simp only [Act.put,xA,xB,xC]
 refine tqK 1 ⟨some 10,_,_,_,_,none⟩ trivial ?_
 simp only [Act.put,xA,xB,xC]
 refine wpAnyH_ready (rs:=[2,3,4]) (by kernel_rfl) (by simp) ?_
 refine zaE (op:=⟨some 11,_,_,_,_,none⟩) rfl rfl 26 _ _ rfl (.int .i64 128) (.int .i64 128) _ rfl rfl (mk128 _ (w.heap.size+1) (by simp)) trivial ?_ (zaE (op:=⟨some 12,_,_,_,_,none⟩) rfl rfl 26 _ _ rfl (.int .i64 64) (.int .i64 64) _ rfl rfl (mk64 _ (w.heap.size+1) (by simp)) trivial ?_ (zaE (op:=⟨some 13,_,_,_,_,none⟩) rfl rfl 26 _ _ rfl (.int .i64 256) (.int .i64 256) _ rfl rfl (mkV _ (w.heap.size+1) (by simp)) trivial ?_ AllReadyH.nil))
 all_goals simp only [Act.put,xA,xB,xC]
 refine wpAnyH_ready (rs:=[3,4]) (by kernel_rfl) (by simp) ?_
 refine zaE (op:=⟨some 12,_,_,_,_,none⟩) rfl rfl 26 _ _ rfl (.int .i64 64) (.int .i64 64) _ rfl rfl (mk64 _ (w.heap.size+1+1) (by simp)) trivial ?_ (zaE (op:=⟨some 13,_,_,_,_,none⟩) rfl rfl 26 _ _ rfl (.int .i64 256) (.int .i64 256) _ rfl rfl (mkV _ (w.heap.size+1+1) (by simp)) trivial ?_ AllReadyH.nil)
 rotate_left 2
 refine wpAnyH_ready (rs:=[2,4]) (by kernel_rfl) (by simp) ?_
 refine zaE (op:=⟨some 11,_,_,_,_,none⟩) rfl rfl 26 _ _ rfl (.int .i64 128) (.int .i64 128) _ rfl rfl (mk128 _ (w.heap.size+1+1) (by simp)) trivial ?_ (zaE (op:=⟨some 13,_,_,_,_,none⟩) rfl rfl 26 _ _ rfl (.int .i64 256) (.int .i64 256) _ rfl rfl (mkV _ (w.heap.size+1+1) (by simp)) trivial ?_ AllReadyH.nil)
 rotate_left 2
 refine wpAnyH_ready (rs:=[2,3]) (by kernel_rfl) (by simp) ?_
 refine zaE (op:=⟨some 11,_,_,_,_,none⟩) rfl rfl 26 _ _ rfl (.int .i64 128) (.int .i64 128) _ rfl rfl (mk128 _ (w.heap.size+1+1) (by simp)) trivial ?_ (zaE (op:=⟨some 12,_,_,_,_,none⟩) rfl rfl 26 _ _ rfl (.int .i64 64) (.int .i64 64) _ rfl rfl (mk64 _ (w.heap.size+1+1) (by simp)) trivial ?_ AllReadyH.nil)
 rotate_left 2
 all_goals simp only [Act.put,xA,xB,xC]
 refine wpAnyH_ready (rs:=[4]) (by kernel_rfl) (by simp) ?_
 refine zaE (op:=⟨some 13,_,_,_,_,none⟩) rfl rfl 26 _ _ rfl (.int .i64 256) (.int .i64 256) _ rfl rfl (mkV _ (w.heap.size+1+1+1) (by simp)) trivial ?_ AllReadyH.nil
 simp only [Act.put,xA,xB,xC]
 refine cutH (NF w l1 l2 ⟨.slice a1 l1.length c1,.slice a2 l2.length c2,.slice (some ⟨_,0,none⟩) 128 128,.slice (some ⟨_,0,none⟩) 64 64,.slice (some ⟨_,0,none⟩) 256 256⟩) (NF.of (b1:=w.heap.size+1) (b2:=w.heap.size+1+1) (b3:=w.heap.size+1+1+1) H1.out H2.out ?_ ?_ ?_ ?_ ?_) ?_
 ·repeat' (first|exact st0 _|refine Below.drew ?_|refine stA ?_ _)
 ·repeat' (first|exact HR.out|refine Bx.drew ?_|refine Bx.over ?_ _)
 ·repeat' (first|exact Bx.new _ (List.replicate 128 (.int .u8 0)) _ (by simp)|refine Bx.drew ?_|refine Bx.over ?_ _)
 ·repeat' (first|exact Bx.new _ (List.replicate 64 (.int .u8 0)) _ (by simp)|refine Bx.drew ?_|refine Bx.over ?_ _)
 ·repeat' (first|exact Bx.new _ (List.replicate 256 (.int .u8 0)) _ (by simp)|refine Bx.drew ?_|refine Bx.over ?_ _)
 intro Y hY
 have HY:=hid hY
 clear hY
 refine wpAnyH_take (i:=5) (oi:=⟨some 14,_,_,_,_,none⟩) (v:=.agg (machL (newM l1 l2) ⟨.slice a1 l1.length c1,.slice a2 l2.length c2,.slice (some ⟨w.heap.size+1,0,none⟩) 128 128,.slice (some ⟨w.heap.size+1+1,0,none⟩) 64 64,.slice (some ⟨w.heap.size+1+1+1,0,none⟩) 256 256⟩).toArray) rfl (by kernel_rfl) (by kernel_rfl) (by kernel_rfl) (λ_ _ _ h=>h) (Or.inl ⟨by rfl,λw' _=>zbc 41 2 3 4 5 6 14 _ _ _ _ _ _ rfl _ _ _ _ _ _ _ rfl rfl rfl rfl rfl rfl (zdc a1 a2 l1.length c1 l2.length c2 (w.heap.size+1) (w.heap.size+1+1) (w.heap.size+1+1+1) l1 l2 w')⟩) trivial ?_
 simp only [Act.put,xA,xB,xC]
 rotate_left 1
 refine wpAnyH_ready (rs:=[3]) (by kernel_rfl) (by simp) ?_
 refine zaE (op:=⟨some 12,_,_,_,_,none⟩) rfl rfl 26 _ _ rfl (.int .i64 64) (.int .i64 64) _ rfl rfl (mk64 _ (w.heap.size+1+1+1) (by simp)) trivial ?_ AllReadyH.nil
 simp only [Act.put,xA,xB,xC]
 refine cutH (NF w l1 l2 ⟨.slice a1 l1.length c1,.slice a2 l2.length c2,.slice (some ⟨_,0,none⟩) 128 128,.slice (some ⟨_,0,none⟩) 64 64,.slice (some ⟨_,0,none⟩) 256 256⟩) (NF.of (b1:=w.heap.size+1) (b2:=w.heap.size+1+1+1) (b3:=w.heap.size+1+1) H1.out H2.out ?_ ?_ ?_ ?_ ?_) ?_
 ·repeat' (first|exact st0 _|refine Below.drew ?_|refine stA ?_ _)
 ·repeat' (first|exact HR.out|refine Bx.drew ?_|refine Bx.over ?_ _)
 ·repeat' (first|exact Bx.new _ (List.replicate 128 (.int .u8 0)) _ (by simp)|refine Bx.drew ?_|refine Bx.over ?_ _)
 ·repeat' (first|exact Bx.new _ (List.replicate 64 (.int .u8 0)) _ (by simp)|refine Bx.drew ?_|refine Bx.over ?_ _)
 ·repeat' (first|exact Bx.new _ (List.replicate 256 (.int .u8 0)) _ (by simp)|refine Bx.drew ?_|refine Bx.over ?_ _)
 intro Y hY
 have HY:=hid hY
 clear hY
 refine wpAnyH_take (i:=5) (oi:=⟨some 14,_,_,_,_,none⟩) (v:=.agg (machL (newM l1 l2) ⟨.slice a1 l1.length c1,.slice a2 l2.length c2,.slice (some ⟨w.heap.size+1,0,none⟩) 128 128,.slice (some ⟨w.heap.size+1+1+1,0,none⟩) 64 64,.slice (some ⟨w.heap.size+1+1,0,none⟩) 256 256⟩).toArray) rfl (by kernel_rfl) (by kernel_rfl) (by kernel_rfl) (λ_ _ _ h=>h) (Or.inl ⟨by rfl,λw' _=>zbc 41 2 3 4 5 6 14 _ _ _ _ _ _ rfl _ _ _ _ _ _ _ rfl rfl rfl rfl rfl rfl (zdc a1 a2 l1.length c1 l2.length c2 (w.heap.size+1) (w.heap.size+1+1+1) (w.heap.size+1+1) l1 l2 w')⟩) trivial ?_
 simp only [Act.put,xA,xB,xC]
 rotate_left 1
 refine wpAnyH_ready (rs:=[4]) (by kernel_rfl) (by simp) ?_
 refine zaE (op:=⟨some 13,_,_,_,_,none⟩) rfl rfl 26 _ _ rfl (.int .i64 256) (.int .i64 256) _ rfl rfl (mkV _ (w.heap.size+1+1+1) (by simp)) trivial ?_ AllReadyH.nil
 simp only [Act.put,xA,xB,xC]
 refine cutH (NF w l1 l2 ⟨.slice a1 l1.length c1,.slice a2 l2.length c2,.slice (some ⟨_,0,none⟩) 128 128,.slice (some ⟨_,0,none⟩) 64 64,.slice (some ⟨_,0,none⟩) 256 256⟩) (NF.of (b1:=w.heap.size+1+1) (b2:=w.heap.size+1) (b3:=w.heap.size+1+1+1) H1.out H2.out ?_ ?_ ?_ ?_ ?_) ?_
 ·repeat' (first|exact st0 _|refine Below.drew ?_|refine stA ?_ _)
 ·repeat' (first|exact HR.out|refine Bx.drew ?_|refine Bx.over ?_ _)
 ·repeat' (first|exact Bx.new _ (List.replicate 128 (.int .u8 0)) _ (by simp)|refine Bx.drew ?_|refine Bx.over ?_ _)
 ·repeat' (first|exact Bx.new _ (List.replicate 64 (.int .u8 0)) _ (by simp)|refine Bx.drew ?_|refine Bx.over ?_ _)
 ·repeat' (first|exact Bx.new _ (List.replicate 256 (.int .u8 0)) _ (by simp)|refine Bx.drew ?_|refine Bx.over ?_ _)
 intro Y hY
 have HY:=hid hY
 clear hY
 refine wpAnyH_take (i:=5) (oi:=⟨some 14,_,_,_,_,none⟩) (v:=.agg (machL (newM l1 l2) ⟨.slice a1 l1.length c1,.slice a2 l2.length c2,.slice (some ⟨w.heap.size+1+1,0,none⟩) 128 128,.slice (some ⟨w.heap.size+1,0,none⟩) 64 64,.slice (some ⟨w.heap.size+1+1+1,0,none⟩) 256 256⟩).toArray) rfl (by kernel_rfl) (by kernel_rfl) (by kernel_rfl) (λ_ _ _ h=>h) (Or.inl ⟨by rfl,λw' _=>zbc 41 2 3 4 5 6 14 _ _ _ _ _ _ rfl _ _ _ _ _ _ _ rfl rfl rfl rfl rfl rfl (zdc a1 a2 l1.length c1 l2.length c2 (w.heap.size+1+1) (w.heap.size+1) (w.heap.size+1+1+1) l1 l2 w')⟩) trivial ?_
 simp only [Act.put,xA,xB,xC]
 rotate_left 1
 refine wpAnyH_ready (rs:=[2]) (by kernel_rfl) (by simp) ?_
 refine zaE (op:=⟨some 11,_,_,_,_,none⟩) rfl rfl 26 _ _ rfl (.int .i64 128) (.int .i64 128) _ rfl rfl (mk128 _ (w.heap.size+1+1+1) (by simp)) trivial ?_ AllReadyH.nil
 simp only [Act.put,xA,xB,xC]
 refine cutH (NF w l1 l2 ⟨.slice a1 l1.length c1,.slice a2 l2.length c2,.slice (some ⟨_,0,none⟩) 128 128,.slice (some ⟨_,0,none⟩) 64 64,.slice (some ⟨_,0,none⟩) 256 256⟩) (NF.of (b1:=w.heap.size+1+1+1) (b2:=w.heap.size+1) (b3:=w.heap.size+1+1) H1.out H2.out ?_ ?_ ?_ ?_ ?_) ?_
 ·repeat' (first|exact st0 _|refine Below.drew ?_|refine stA ?_ _)
 ·repeat' (first|exact HR.out|refine Bx.drew ?_|refine Bx.over ?_ _)
 ·repeat' (first|exact Bx.new _ (List.replicate 128 (.int .u8 0)) _ (by simp)|refine Bx.drew ?_|refine Bx.over ?_ _)
 ·repeat' (first|exact Bx.new _ (List.replicate 64 (.int .u8 0)) _ (by simp)|refine Bx.drew ?_|refine Bx.over ?_ _)
 ·repeat' (first|exact Bx.new _ (List.replicate 256 (.int .u8 0)) _ (by simp)|refine Bx.drew ?_|refine Bx.over ?_ _)
 intro Y hY
 have HY:=hid hY
 clear hY
 refine wpAnyH_take (i:=5) (oi:=⟨some 14,_,_,_,_,none⟩) (v:=.agg (machL (newM l1 l2) ⟨.slice a1 l1.length c1,.slice a2 l2.length c2,.slice (some ⟨w.heap.size+1+1+1,0,none⟩) 128 128,.slice (some ⟨w.heap.size+1,0,none⟩) 64 64,.slice (some ⟨w.heap.size+1+1,0,none⟩) 256 256⟩).toArray) rfl (by kernel_rfl) (by kernel_rfl) (by kernel_rfl) (λ_ _ _ h=>h) (Or.inl ⟨by rfl,λw' _=>zbc 41 2 3 4 5 6 14 _ _ _ _ _ _ rfl _ _ _ _ _ _ _ rfl rfl rfl rfl rfl rfl (zdc a1 a2 l1.length c1 l2.length c2 (w.heap.size+1+1+1) (w.heap.size+1) (w.heap.size+1+1) l1 l2 w')⟩) trivial ?_
 simp only [Act.put,xA,xB,xC]
 rotate_left 1
 refine wpAnyH_ready (rs:=[3]) (by kernel_rfl) (by simp) ?_
 refine zaE (op:=⟨some 12,_,_,_,_,none⟩) rfl rfl 26 _ _ rfl (.int .i64 64) (.int .i64 64) _ rfl rfl (mk64 _ (w.heap.size+1+1+1) (by simp)) trivial ?_ AllReadyH.nil
 simp only [Act.put,xA,xB,xC]
 refine cutH (NF w l1 l2 ⟨.slice a1 l1.length c1,.slice a2 l2.length c2,.slice (some ⟨_,0,none⟩) 128 128,.slice (some ⟨_,0,none⟩) 64 64,.slice (some ⟨_,0,none⟩) 256 256⟩) (NF.of (b1:=w.heap.size+1+1) (b2:=w.heap.size+1+1+1) (b3:=w.heap.size+1) H1.out H2.out ?_ ?_ ?_ ?_ ?_) ?_
 ·repeat' (first|exact st0 _|refine Below.drew ?_|refine stA ?_ _)
 ·repeat' (first|exact HR.out|refine Bx.drew ?_|refine Bx.over ?_ _)
 ·repeat' (first|exact Bx.new _ (List.replicate 128 (.int .u8 0)) _ (by simp)|refine Bx.drew ?_|refine Bx.over ?_ _)
 ·repeat' (first|exact Bx.new _ (List.replicate 64 (.int .u8 0)) _ (by simp)|refine Bx.drew ?_|refine Bx.over ?_ _)
 ·repeat' (first|exact Bx.new _ (List.replicate 256 (.int .u8 0)) _ (by simp)|refine Bx.drew ?_|refine Bx.over ?_ _)
 intro Y hY
 have HY:=hid hY
 clear hY
 refine wpAnyH_take (i:=5) (oi:=⟨some 14,_,_,_,_,none⟩) (v:=.agg (machL (newM l1 l2) ⟨.slice a1 l1.length c1,.slice a2 l2.length c2,.slice (some ⟨w.heap.size+1+1,0,none⟩) 128 128,.slice (some ⟨w.heap.size+1+1+1,0,none⟩) 64 64,.slice (some ⟨w.heap.size+1,0,none⟩) 256 256⟩).toArray) rfl (by kernel_rfl) (by kernel_rfl) (by kernel_rfl) (λ_ _ _ h=>h) (Or.inl ⟨by rfl,λw' _=>zbc 41 2 3 4 5 6 14 _ _ _ _ _ _ rfl _ _ _ _ _ _ _ rfl rfl rfl rfl rfl rfl (zdc a1 a2 l1.length c1 l2.length c2 (w.heap.size+1+1) (w.heap.size+1+1+1) (w.heap.size+1) l1 l2 w')⟩) trivial ?_
 simp only [Act.put,xA,xB,xC]
 rotate_left 1
 refine wpAnyH_ready (rs:=[2]) (by kernel_rfl) (by simp) ?_
 refine zaE (op:=⟨some 11,_,_,_,_,none⟩) rfl rfl 26 _ _ rfl (.int .i64 128) (.int .i64 128) _ rfl rfl (mk128 _ (w.heap.size+1+1+1) (by simp)) trivial ?_ AllReadyH.nil
 simp only [Act.put,xA,xB,xC]
 refine cutH (NF w l1 l2 ⟨.slice a1 l1.length c1,.slice a2 l2.length c2,.slice (some ⟨_,0,none⟩) 128 128,.slice (some ⟨_,0,none⟩) 64 64,.slice (some ⟨_,0,none⟩) 256 256⟩) (NF.of (b1:=w.heap.size+1+1+1) (b2:=w.heap.size+1+1) (b3:=w.heap.size+1) H1.out H2.out ?_ ?_ ?_ ?_ ?_) ?_
 ·repeat' (first|exact st0 _|refine Below.drew ?_|refine stA ?_ _)
 ·repeat' (first|exact HR.out|refine Bx.drew ?_|refine Bx.over ?_ _)
 ·repeat' (first|exact Bx.new _ (List.replicate 128 (.int .u8 0)) _ (by simp)|refine Bx.drew ?_|refine Bx.over ?_ _)
 ·repeat' (first|exact Bx.new _ (List.replicate 64 (.int .u8 0)) _ (by simp)|refine Bx.drew ?_|refine Bx.over ?_ _)
 ·repeat' (first|exact Bx.new _ (List.replicate 256 (.int .u8 0)) _ (by simp)|refine Bx.drew ?_|refine Bx.over ?_ _)
 intro Y hY
 have HY:=hid hY
 clear hY
 refine wpAnyH_take (i:=5) (oi:=⟨some 14,_,_,_,_,none⟩) (v:=.agg (machL (newM l1 l2) ⟨.slice a1 l1.length c1,.slice a2 l2.length c2,.slice (some ⟨w.heap.size+1+1+1,0,none⟩) 128 128,.slice (some ⟨w.heap.size+1+1,0,none⟩) 64 64,.slice (some ⟨w.heap.size+1,0,none⟩) 256 256⟩).toArray) rfl (by kernel_rfl) (by kernel_rfl) (by kernel_rfl) (λ_ _ _ h=>h) (Or.inl ⟨by rfl,λw' _=>zbc 41 2 3 4 5 6 14 _ _ _ _ _ _ rfl _ _ _ _ _ _ _ rfl rfl rfl rfl rfl rfl (zdc a1 a2 l1.length c1 l2.length c2 (w.heap.size+1+1+1) (w.heap.size+1+1) (w.heap.size+1) l1 l2 w')⟩) trivial ?_
 simp only [Act.put,xA,xB,xC]
 rotate_left 1
 all_goals
  refine wpAnyH_ready (rs:=[6]) (by kernel_rfl) (by simp) ?_
  refine AllReadyH.cons (o:=⟨some 15,_,_,_,_,none⟩) rfl (λK hK=>?_) AllReadyH.nil
  go_simp
  go_at_call 51
  refine (zbr (newM l1 l2) _ _ HY.out.sl.lens HY.out.sl (zoX l1 l2 hl1 hl2) (by show (0:Int)<=20000;decide)).mono ?_
  rintro e w1 ⟨F,hFB,rfl,hr,hB1,hb1⟩
  have HN:=hid (NB.mk hB1 (stp HY.out.low hb1) (HY.out.res.kept hb1) (by rw [hFB];exact HY.out.res.z) hr)
  clear hB1 hb1 hFB hr
  try go_wp2_with fail
  refine hK.out _ _ trivial (λ_=>?_)
  clear hK K HY
  try simp only [Act.put,xA,xB,xC]
  refine tqK 7 ⟨some 8,_,_,_,_,none⟩ trivial ?_
  simp only [Act.put,xA,xB,xC]
  refine tqK 8 ⟨some 16,_,_,_,_,none⟩ trivial ?_
  simp only [Act.put,xA,xB,xC]
  refine tqK 9 ⟨some 17,_,_,_,_,none⟩ trivial ?_
  simp only [Act.put,xA,xB,xC]
  refine tqK 10 ⟨some 6,_,_,_,_,none⟩ trivial ?_
  simp only [Act.put,xA,xB,xC]
  refine tqK 11 ⟨some 7,_,_,_,_,none⟩ trivial ?_
  simp only [Act.put,xA,xB,xC]
  refine wpAnyH_done (by kernel_rfl) ?_ _
  refine Pl.cutE (NB w F (newM l1 l2) Tk.zero (machL zeroM nilS)) HN.out ?_
  intro X hX
  have HX:=hid hX
  clear hX HN
  go_wp2_with (first
   | (go_at_call 53;refine (zdW F.g _).mono ?_;rintro e w2 ⟨rfl,hb2⟩;have HX2:=hid (HX.out.kept hb2);clear hb2)
   | (go_at_call 52;refine (zdm HX2.out.bd 77 _ _ (ze9 0 (by omega)) (ze9 1 (by omega)) (zci _ _) (zci _ _)).mono ?_;rintro e w3 ⟨rfl,hB3,hT3⟩;have HX3:=hid (HX2.out.go hB3 hT3);clear hB3 hT3)
   | (refine wpList_store_mid rfl 25 _ _ rfl F.g 0 (begL ((newM l1 l2).lookM 0*256+(newM l1 l2).lookM 1)).toArray rfl rfl (Bx.there HX3.out.bd.bx 0 15 (by rw [Fx.len];omega)) zbT (zl2 _) ?_
      refine Pl.cutL (NB w F (newD l1 l2) Tk.zero (machL zeroM nilS)) (zq1 HX3.out) ?_
      intro Z hZ
      have HZ:=hid hZ
      clear hZ)
   | (refine wpList_load_mid rfl 41 _ rfl F.g 0 rfl (machL (newD l1 l2) F.S) _ HZ.out.bd.row Tryz.underlying41 rfl zaa ?_)
   | (refine wpList_store_mid rfl 41 _ _ rfl w.heap.size 0 (machL (newD l1 l2) F.S).toArray rfl rfl (HZ.out.res.there 0 75 (by rw [zae];omega)) zaa (zaw _ _ HZ.out.bd.isSl) ?_
      refine Pl.cutL (λV=>Below w.heap.size w V/\Bx V w.heap.size (machL (newD l1 l2) F.S)/\SlAt V F.S (newD l1 l2)) (HZ.out.fin rfl) ?_
      rintro V ⟨hV1,hV2,hV3⟩
      have HV1:=hid hV1
      have HV2:=hid hV2
      have HV3:=hid hV3
      clear hV1 hV2 hV3))
  have hl:=zhL _ _ HV2.out.c
  refine bodyPost_ret (v:=.tuple #[.agg (machL (newD l1 l2) F.S).toArray,.int .i64 0]) ?_ rfl ⟨F.S,rfl,HV3.out,HZ.out.bd.fit,(HZ.out.bd.slNew HZ.out.r).mono HZ.out.B,HV1.out⟩
  simp only [results,Tryz.results25]
  simp
  show (Result.andThen (Sem.run Tryz.prog (loadVar 41 ⟨w.heap.size,0,none⟩) V) _)=_
  rw [hl]
  rfl
def lkRom:List UInt8:=[0,6,0,0,0,0,17,0,128,0,49,33,216,0]
def lkC0:C.Cpu:=⟨[0,0,0,0,0,0,0,0],6,false,false,false,false,false,false⟩
def lkC1:C.Cpu:=⟨[0,32768,0,0,0,0,0,0],10,false,false,false,false,false,false⟩
def lkC2:C.Cpu:=⟨[0,32768,0,0,0,0,0,0],12,false,false,false,false,false,false⟩
def lkC3:C.Cpu:=⟨[0,32768,0,0,0,0,0,0],14,false,false,false,false,false,true⟩
section
variable (main aux : C.Cpu) (arom ram own video : List UInt8) (p0 p1 : Pd) (t : TM) (s : Sd) (b : Bem) (fr tt : Int) (granted held : Bool) (m0 m1 : Int) (rung : Bool) (clock mready aready : Int) (l : List Wt)
theorem zoY:C.order mainMem lkC0 ⟨⟨main,aux,lkRom,arom,ram,own,video,p0,p1,t,s,b,fr,tt,granted,held,m0,m1,rung,clock,mready,aready⟩,0,l⟩=⟨lkC1,⟨⟨main,aux,lkRom,arom,ram,own,video,p0,p1,t,s,b,fr,tt,granted,held,m0,m1,rung,clock,mready,aready⟩,0,l⟩,2⟩:=by kernel_rfl
theorem zoZ:C.order mainMem lkC1 ⟨⟨main,aux,lkRom,arom,ram,own,video,p0,p1,t,s,b,fr,tt,granted,held,m0,m1,rung,clock,mready,aready⟩,0,l⟩=⟨lkC2,⟨⟨main,aux,lkRom,arom,bput ram 1 0,own,video,p0,p1,t,s,b,fr,tt,granted,held,m0,m1,rung,clock,mready,aready⟩,0,l⟩,2⟩:=by kernel_rfl
theorem zo0:C.order mainMem lkC2 ⟨⟨main,aux,lkRom,arom,ram,own,video,p0,p1,t,s,b,fr,tt,granted,held,m0,m1,rung,clock,mready,aready⟩,0,l⟩=⟨lkC3,⟨⟨main,aux,lkRom,arom,ram,own,video,p0,p1,t,s,b,fr,tt,granted,held,m0,m1,rung,clock,mready,aready⟩,0,l⟩,1⟩:=by kernel_rfl
end
structure Lkm (M : Mach) (c : C.Cpu) (clock mready : Int) : Prop where
 rom:M.mrom=lkRom
 held:M.held=true
 main:M.main=c
 clock:M.clock=clock
 ready:M.mready=mready
theorem zo1 {σ:Type} {m:C.Mem σ} (c:C.Cpu) (s:σ) (r:Bool) (h1:c.Waits=false) (h2:c.May=false):C.step m c s r=C.order m c s:=by
 unfold C.step
 rw [h2,Bool.and_false,if_neg (by simp),h1,if_neg (by simp)]
theorem zcn {k:Cs} {c c':C.Cpu} {cl r r':Int} (h:Lkm k.s.M c cl r) (hco:k.co=[]) (hs:Lkm (Bst.stepMain k.s).M c' cl r'):Lkm k.clock.s.M c' (cl+1) r'/\k.clock.co=[]:=by
 have hm:k.s.M.pressed k.co=k.s.M:=by rw [hco];rfl
 have ha:(Bst.stepMain k.s).stepAux=Bst.stepMain k.s:=by
  unfold Bst.stepAux
  rw [if_pos (Or.inl hs.held)]
 have hn:k.now.s=Bst.stepMain k.s:=by
  show (Bst.stepMain ⟨k.s.M.pressed k.co,k.s.n,k.s.l⟩).stepAux=_
  rw [hm,ha]
 have hM:k.clock.s.M=(Bst.stepMain k.s).M.goOn:=by show k.now.s.M.goOn=_;rw [hn]
 refine ⟨?_,by show k.s.M.coming k.co=[];rw [hco];rfl⟩
 rw [hM]
 exact ⟨hs.rom,hs.held,hs.main,by show (Bst.stepMain k.s).M.clock+1=_;rw [hs.clock],hs.ready⟩
theorem zm4 {s:Bst} {c:C.Cpu} {cl r:Int} (h:Lkm s.M c cl r) (hr:cl<r):Lkm (Bst.stepMain s).M c cl r:=by
 unfold Bst.stepMain
 rw [if_pos (by rw [h.clock,h.ready];exact hr)]
 exact h
theorem lk_do {s:Bst} {c c':C.Cpu} {cl r n:Int} (h:Lkm s.M c cl r) (hr:¬ cl<r) (hw:c.Waits=false) (hm:c.May=false)
 (ho:∀ (main aux:C.Cpu) (arom ram own video:List UInt8) (p0 p1:Pd) (t:TM) (s:Sd) (b:Bem) (fr tt:Int) (granted held:Bool) (m0 m1:Int) (rung:Bool) (clock mready aready:Int) (l:List Wt),
   ∃ ram',C.order mainMem c ⟨⟨main,aux,lkRom,arom,ram,own,video,p0,p1,t,s,b,fr,tt,granted,held,m0,m1,rung,clock,mready,aready⟩,0,l⟩=⟨c',⟨⟨main,aux,lkRom,arom,ram',own,video,p0,p1,t,s,b,fr,tt,granted,held,m0,m1,rung,clock,mready,aready⟩,0,l⟩,n⟩):Lkm (Bst.stepMain s).M c' cl (cl+3*n):=by
 unfold Bst.stepMain
 rw [if_neg (by rw [h.clock,h.ready];exact hr)]
 obtain ⟨⟨main,aux,mrom,arom,ram,own,video,p0,p1,t,sd,b,fr,tt,granted,held,m0,m1,rung,clock,mready,aready⟩,n0,l⟩:=s
 obtain ⟨h1,h2,h3,h4,h5⟩:=h
 dsimp only at h1 h2 h3 h4 h5 hr ⊢
 subst h1 h2 h3 h4 h5
 obtain ⟨ram',e⟩:=ho main aux arom ram own video p0 p1 t sd b fr tt granted true m0 m1 rung clock mready aready l
 rw [zo1 _ _ _ hw hm,e]
 exact ⟨rfl,rfl,rfl,rfl,by show clock+3*n+0=_;omega⟩
theorem zq2 {s:Bst} {cl r:Int} (h:Lkm s.M lkC3 cl r):∃ r',Lkm (Bst.stepMain s).M lkC3 cl r':=by
 unfold Bst.stepMain
 split
 ·exact ⟨r,h⟩
 ·have hm:=h.main
  show ∃ r',Lkm { (C.step mainMem s.M.main ⟨s.M,0,s.l⟩ (s.M.t.g || s.M.b.g)).s.M with main:=_,mready:=_ } lkC3 cl r'
  rw [hm,zkd (m:=mainMem) lkC3 ⟨s.M,0,s.l⟩ _ rfl rfl]
  exact ⟨_,h.rom,h.held,rfl,h.clock,rfl⟩
theorem zq3 (k0:Cs) (h0:Lkm k0.s.M lkC0 0 0) (hco:k0.co=[]) (j:Nat):(k0.clocks j).co=[]/\((j=0->Lkm (k0.clocks j).s.M lkC0 0 0)/\(1<=j/\j<=6->Lkm (k0.clocks j).s.M lkC1 j 6)/\(7<=j/\j<=12->Lkm (k0.clocks j).s.M lkC2 j 12)/\(13<=j->∃ r,Lkm (k0.clocks j).s.M lkC3 j r)):=by
 induction j with
 | zero=>exact ⟨hco,λ_=>h0,λh=>by omega,λh=>by omega,λh=>by omega⟩
 | succ j ih =>
  obtain ⟨hc,i0,i1,i2,i3⟩:=ih
  obtain ⟨k,hk⟩:∃ k,k=k0.clocks j:=⟨_,rfl⟩
  have e:k0.clocks (j+1)=k.clock:=by rw [hk];rfl
  rw [<- hk] at hc i0 i1 i2 i3
  rw [e]
  have ej:((j+1:Nat):Int)=(j:Int)+1:=by omega
  rw [ej]
  have hcc:k.clock.co=[]:=by show k.s.M.coming k.co=[];rw [hc];rfl
  refine ⟨hcc,λh=>by omega,λh=>?_,λh=>?_,λh=>?_⟩
  ·by_cases hj:j=0
   ·subst hj
    have g:=i0 rfl
    exact (zcn g hc (lk_do (n:=2) g (by decide) rfl rfl (λ_ _ _ ram _ _ _ _ _ _ _ _ _ _ _ _ _ _ _ _ _ _=>⟨ram,zoY ..⟩))).1
   ·have g:=i1 (by omega)
    exact (zcn g hc (zm4 g (by omega))).1
  ·by_cases hj:j=6
   ·subst hj
    have g:=i1 (by omega)
    exact (zcn g hc (lk_do (n:=2) g (by decide) rfl rfl (λ_ _ _ ram _ _ _ _ _ _ _ _ _ _ _ _ _ _ _ _ _ _=>⟨bput ram 1 0,zoZ ..⟩))).1
   ·have g:=i2 (by omega)
    exact (zcn g hc (zm4 g (by omega))).1
  ·by_cases hj:j=12
   ·subst hj
    have g:=i2 (by omega)
    exact ⟨_,(zcn g hc (lk_do (n:=1) g (by decide) rfl rfl (λ_ _ _ ram _ _ _ _ _ _ _ _ _ _ _ _ _ _ _ _ _ _=>⟨ram,zo0 ..⟩))).1⟩
   ·obtain ⟨r,g⟩:=i3 (by omega)
    obtain ⟨r',g'⟩:=zq2 g
    exact ⟨r',(zcn g hc g').1⟩
def lkStart:Cs:=⟨⟨newD lkRom [],0,[]⟩,[],[],[]⟩
theorem zo2:Lkm lkStart.s.M lkC0 0 0:=⟨rfl,rfl,by show beginC ((newM lkRom []).lookM 0) ((newM lkRom []).lookM 1)=lkC0;decide +kernel,rfl,rfl⟩
theorem zsr:(lkStart.clocks 64).ln.length=1/\(lkStart.clocks 64).sm.length=4/\(lkStart.clocks 64).s.M.main.Waits=true/\(lkStart.clocks 64).s.M.clock=64/\(lkStart.clocks 64).s.M.b.l=1:=by
 have hb:BOk lkStart.s.M.b.l lkStart.s.M.b.a lkStart.s.M.b.f:=⟨show (0:Int)<=0 by decide,show (0:Int)<=9 by decide,show (0:Int)<=0 by decide,show (0:Int)<=63 by decide,show (0:Int)<=0 by decide,show (0:Int)<=20000 by decide⟩
 have hf:lkStart.s.M.b.f<=19000:=show (0:Int)<=19000 by decide
 have h1:=zbb lkStart hb hf 64 (by omega)
 have h2:=zhS lkStart hb hf 64 (by omega)
 have h3:=zea lkStart hb hf rfl 64 (by omega)
 obtain ⟨_,_,_,_,h4⟩:=zq3 lkStart zo2 rfl 64
 obtain ⟨r,h4⟩:=h4 (by omega)
 refine ⟨?_,?_,?_,h4.clock,?_⟩
 ·have:((lkStart.clocks 64).ln.map (λx=>(x.f,x.l))).length=1:=by rw [h3];decide +kernel
  rwa [List.length_map] at this
 ·rw [h2]
  have:(sms lkStart.s.M.s 64).length=4:=by
   have hs:=(zlo (s:=lkStart.s.M.s) { zok.s with w:=(by decide:0<=(0:Int)/\(0:Int)<=15) } 64).1
   rw [show lkStart.s.M.s.w=0 from rfl,if_pos (by decide)] at hs
   omega
  rw [this];rfl
 ·rw [h4.main];rfl
 ·rw [h1.l];decide +kernel
def lkText:S.By:=[46,119,111,114,100,32,54,10,46,119,111,114,100,32,48,10,46,119,111,114,100,32,48,10,108,100,105,32,114,49,44,32,51,50,55,54,56,10,115,116,98,32,114,49,44,32,114,49,44,32,49,10,104,108,116,10]
theorem zo3:S.readText lkText = .ok lkRom:=by
 have h:(match S.readText lkText with | .ok r=>r == lkRom | .error _=>false)=true:=by decide +kernel
 split at h
 ·rename_i r hr
  rw [hr,beq_iff_eq.1 h]
 ·cases h
theorem zo4 {w:World} {v:Value} {l:List UInt8} (h:AssliceAt w v l):sliceAt w v l:=h
theorem zdd {w:World} {B z n:Nat} {t:TypeId} {v:Value} {xs:List Value} (h:w.ownsRow B t z v n xs):∃ a c,v = .slice a n c:=by
 rcases h.2 with ⟨e0,e1⟩|⟨g,cap,cur,e0,_⟩
 ·exact ⟨none,0,by rw [e0,e1]⟩
 ·exact ⟨_,_,e0⟩
theorem zbY {W:World} {S:Sl} {M:Mach} (h:SlAt W S M):S.isSl:=λj hj=>by
 obtain ⟨a,c,e⟩:=zbt (h j hj)
 exact ⟨_,_,_,e⟩
structure LBx (w : World) (b : Nat) (M : Mach) (S : Sl) (Y : World) : Prop where
 low:Below w.heap.size w Y
 ge:w.heap.size<=b
 bx:Bx Y b (machL M S)
 sl:SlAt Y S M
theorem LBx.mk0 {w w2:World} {M:Mach} {S:Sl} (hb:Below w.heap.size w w2) (hs:SlAt w2 S M):LBx w w2.heap.size M S ((w2.alloc (.cells (machL zeroM nilS).toArray 41)).setCells w2.heap.size 0 (machL M S)):=by
 have hx:=(Bx.new w2 (machL zeroM nilS) 41 (b:=w2.heap.size) rfl).puts 0 (machL M S) (by rw [zae,zae];omega)
 rw [zau _ _ (by rw [zae,zae])] at hx
 have hq:Below w2.heap.size w2 ((w2.alloc (.cells (machL zeroM nilS).toArray 41)).setCells w2.heap.size 0 (machL M S)):=Bl.puts (stA (st0 w2) _) (Nat.le_refl _) _
 exact ⟨stp hb hq,hb.size,hx,hs.kept hq⟩
structure LE (w : World) (b c : Nat) (M : Mach) (S : Sl) (L : List Value) (Y : World) : Prop where
 low:Below w.heap.size w Y
 bx:Bx Y b (machL M S)
 sh:Bx Y c L
theorem LE.mk1 {w w3:World} {b:Nat} {M X:Mach} {S S':Sl} (hb:Below w.heap.size w w3) (hge:w.heap.size<=b) (hx:Bx w3 b (machL M S)):LE w b w3.heap.size X S' [.slice none 0 0,.slice none 0 0,.slice none 0 0] ((w3.alloc (.cells #[.slice none 0 0,.slice none 0 0,.slice none 0 0] 50)).setCells b 0 (machL X S')):=by
 have hz:=hx.z
 have h1:=(hx.over (.cells #[.slice none 0 0,.slice none 0 0,.slice none 0 0] 50)).puts 0 (machL X S') (by rw [zae,zae];omega)
 rw [zau _ _ (by rw [zae,zae])] at h1
 exact ⟨zaC (stA hb _) hge _ _,h1,DW.bb (Bx.new w3 [.slice none 0 0,.slice none 0 0,.slice none 0 0] 50 (b:=w3.heap.size) rfl) (by omega)⟩
theorem LE.put {w Y:World} {b c:Nat} {X:Mach} {S':Sl} {x y z x' y' z':Value} (h:LE w b c X S' [x,y,z] Y) (hne:b≠c) (hge:w.heap.size<=c):LE w b c X S' [x',y',z'] (Y.setCells c 0 [x',y',z']):=by
 have h1:=h.sh.puts 0 [x',y',z'] (by simp)
 rw [zau _ _ (by simp)] at h1
 exact ⟨zaC h.low hge _ _,DW.bb h.bx hne,h1⟩
theorem cell_of {Y:World} {b:Nat} {M:Mach} {S:Sl} (h:Bx Y b (machL M S)):Y.cell? ⟨b,14,none⟩=some (.bool M.main.Waits)/\Y.cell? ⟨b,72,none⟩=some (.int .i64 M.clock)/\Y.cell? ⟨b,61,none⟩=some (.int .i64 M.b.l):=⟨h.at 14 _ rfl,h.at 72 _ rfl,h.at 61 _ rfl⟩
theorem zm5 (B:Nat) (w:World):InpAt B w (.slice none 0 0) []:=Or.inl ⟨rfl,_,_,rfl⟩
theorem zss (w:World):sliceAt w (.slice none 0 0) []:=Or.inl ⟨_,_,rfl,rfl⟩
end Go.Proofs.YtbennamieealbaaGreatDoor
