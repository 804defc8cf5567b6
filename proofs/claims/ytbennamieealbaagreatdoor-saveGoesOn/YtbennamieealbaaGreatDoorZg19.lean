/-
  Parts of a proof, joined.
-/
import Derived.Test.YtbennamieealbaaGreatDoorZg01
import Derived.Test.YtbennamieealbaaGreatDoorZg18
import Derived.Test.YtbennamieealbaaGreatDoorZg15
import Derived.Defers
import Derived.Recover
import Derived.Laws.Pointers
set_option linter.unusedVariables false
set_option maxRecDepth 100000
set_option maxHeartbeats 3200000
namespace Go.Proofs.YtbennamieealbaaGreatDoor
open Go.ChangeShapes Go.WideShapes Go.ChangeAt Go.RowKit
def newM (l1 l2:List UInt8):Mach:={ zeroM with mrom:=l1,arom:=l2,ram:=List.replicate 128 0,own:=List.replicate 64 0,video:=List.replicate 256 0,held:=true }
theorem zfe:C.Cpu.zero.ok:=⟨rfl,λx hx=>by simp [C.Cpu.zero] at hx;omega,by decide,by decide⟩
theorem z8:0<=(0:Int)/\(0:Int)<=255:=by decide
theorem z16:0<=(0:Int)/\(0:Int)<=65535:=by decide
theorem zok:zeroM.ok:=⟨zfe,zfe,⟨z8,z8⟩,⟨z8,z8⟩,z16,z16,⟨⟨z16,z16,z8,z16⟩,⟨z16,z16,z8,z16⟩,⟨z16,z16,z8,z16⟩⟩,z16,z16,z8,z8⟩
theorem zlb (l1 l2:List UInt8) (h1:l1.length<=1024) (h2:l2.length<=1024):(newM l1 l2).fit :=
 ⟨⟨zfe,zfe,⟨z8,z8⟩,⟨z8,z8⟩,z16,z16,zok.s,z16,z16,z8,z8⟩,h1,h2,by simp [newM],by simp [newM],by simp [newM],(by decide:0<=(0:Int)/\(0:Int)<=15),⟨(by decide:0<=(0:Int)),(by decide:(0:Int)<=9),(by decide:0<=(0:Int)),(by decide:(0:Int)<=63),(by decide:0<=(0:Int)),(by decide:(0:Int)<=20001)⟩,(by decide:0<=(0:Int)/\(0:Int)<=200000),(by decide:0<=(0:Int)/\(0:Int)<=0+20000),(by decide:0<=(0:Int)/\(0:Int)<=0+20000)⟩
theorem zcK (a1 a2:Option Addr) (n1 c1 n2 c2 b1 b2 b3:Nat) (l1 l2:List UInt8) (w:World):(Instr.build 41 #[(2,.slice a1 n1 c1),(3,.slice a2 n2 c2),(4,.slice (some ⟨b1,0,none⟩) 128 128),(5,.slice (some ⟨b2,0,none⟩) 64 64),(6,.slice (some ⟨b3,0,none⟩) 256 256),(14,.bool true)]).run Tryz.prog w =
 .ok (.agg (machL (newM l1 l2) ⟨.slice a1 n1 c1,.slice a2 n2 c2,.slice (some ⟨b1,0,none⟩) 128 128,.slice (some ⟨b2,0,none⟩) 64 64,.slice (some ⟨b3,0,none⟩) 256 256⟩).toArray) w:=by kernel_rfl
theorem za6 {P:Program} {a:Act} {o:Oper} {w:World} (t:TypeId) (i0 i1 i2 i3 i4 i5:Nat) (x0 x1 x2 x3 x4 x5:Operand) (ho:o.op = .build t #[(i0,x0),(i1,x1),(i2,x2),(i3,x3),(i4,x4),(i5,x5)]) (v0 v1 v2 v3 v4 v5 v:Value) (h0:a.eval x0=v0) (h1:a.eval x1=v1) (h2:a.eval x2=v2) (h3:a.eval x3=v3) (h4:a.eval x4=v4) (h5:a.eval x5=v5)
 (hrun:(Instr.build t #[(i0,v0),(i1,v1),(i2,v2),(i3,v3),(i4,v4),(i5,v5)]).run P w = .ok v w):(execOp a.eval o).run P w = .ok (.value v) w :=
 zeo t _ ho v (by simp only [List.map_toArray,List.map_cons,List.map_nil,h0,h1,h2,h3,h4,h5];exact hrun)
theorem zff {W:World} {n b:Nat} (h:Bx W b (List.replicate n (.int .u8 0))) (hn:0<n):sliceAt W (.slice (some ⟨b,0,none⟩) n n) (List.replicate n 0):=by
 refine Or.inr ⟨b,0,n,by simp,by simp,h.z,λj c hj=>?_⟩
 rw [Nat.zero_add]
 refine h.at j _ ?_
 have hl:=(List.getElem?_eq_some_iff.1 hj).1
 simp only [List.length_replicate] at hl
 rw [List.getElem?_replicate,if_pos hl] at hj ⊢
 cases hj
 rfl
structure NB (w : World) (F : Fx) (M : Mach) (tk : Tk) (L : List Value) (Y : World) : Prop where
 bd:Bd F Y M tk
 low:Below w.heap.size w Y
 res:Bx Y w.heap.size L
 B:w.heap.size<F.B
 r:F.B<=F.mr/\F.B<=F.ar
theorem NB.go {w Y Y':World} {F:Fx} {M M':Mach} {tk tk':Tk} {L:List Value} (h:NB w F M tk L Y) (hB:Bd F Y' M' tk') (ht:Bt F Y Y'):NB w F M' tk' L Y':=by
 have hb:=h.B
 exact ⟨hB,h.low.trans ((Mv.below ht).mono (by omega)),h.res.under (Mv.below ht) hb,hb,h.r⟩
theorem NB.kept {w Y Y':World} {F:Fx} {M:Mach} {tk:Tk} {L:List Value} (h:NB w F M tk L Y) (hb:Below Y.heap.size Y Y'):NB w F M tk L Y':=h.go (h.bd.kept hb) (Mv.of_below h.bd.big hb)
theorem NB.fin {w Y:World} {F:Fx} {M:Mach} {tk:Tk} {L L':List Value} (h:NB w F M tk L Y) (hl:L'.length=L.length):Below w.heap.size w (Y.setCells w.heap.size 0 L')/\Bx (Y.setCells w.heap.size 0 L') w.heap.size L'/\SlAt (Y.setCells w.heap.size 0 L') F.S M:=by
 have hx:=h.res.puts 0 L' (by omega)
 rw [zau _ _ hl] at hx
 have lo:=h.bd.nd.lo
 have hB:=h.B
 have hr:=h.r
 refine ⟨Bl.puts h.low (by omega) _,hx,λj hj=>?_⟩
 rcases five hj with rfl|rfl|rfl|rfl|rfl
 ·exact (h.bd.mr.offB (by omega) _ _).slice
 ·exact (h.bd.ar.offB (by omega) _ _).slice
 ·exact (h.bd.ra.offB (by omega) _ _).slice
 ·exact (h.bd.ow.offB (by omega) _ _).slice
 ·exact (h.bd.vi.offB (by omega) _ _).slice
structure NF (w : World) (l1 l2 : List UInt8) (S : Sl) (Y : World) : Prop where
 low:Below w.heap.size w Y
 res:Bx Y w.heap.size (machL zeroM nilS)
 sl:SlAt Y S (newM l1 l2)
theorem NF.of {w Y:World} {l1 l2:List UInt8} {a1 a2:Option Addr} {c1 c2 b1 b2 b3:Nat} (H1:sliceAt w (.slice a1 l1.length c1) l1) (H2:sliceAt w (.slice a2 l2.length c2) l2) (hl:Below w.heap.size w Y) (hr:Bx Y w.heap.size (machL zeroM nilS))
 (x1:Bx Y b1 (List.replicate 128 (.int .u8 0))) (x2:Bx Y b2 (List.replicate 64 (.int .u8 0))) (x3:Bx Y b3 (List.replicate 256 (.int .u8 0))):NF w l1 l2 ⟨.slice a1 l1.length c1,.slice a2 l2.length c2,.slice (some ⟨b1,0,none⟩) 128 128,.slice (some ⟨b2,0,none⟩) 64 64,.slice (some ⟨b3,0,none⟩) 256 256⟩ Y :=
 ⟨hl,hr,λj hj=>by
   rcases five hj with rfl|rfl|rfl|rfl|rfl
   ·exact H1.kept hl
   ·exact H2.kept hl
   ·exact zff x1 (by omega)
   ·exact zff x2 (by omega)
   ·exact zff x3 (by omega)⟩
theorem mk1280 (w:World):(Instr.makeSlice 26 (.int .i64 128) (.int .i64 128)).run Tryz.prog w = .ok (.slice (some ⟨w.heap.size,0,none⟩) 128 128) (w.alloc (.cells (List.replicate 128 (.int .u8 0)).toArray 5)):=by kernel_rfl
theorem mk128 (w:World) (k:Nat) (h:w.heap.size=k):(Instr.makeSlice 26 (.int .i64 128) (.int .i64 128)).run Tryz.prog w = .ok (.slice (some ⟨k,0,none⟩) 128 128) (w.alloc (.cells (List.replicate 128 (.int .u8 0)).toArray 5)):=by subst h;exact mk1280 w
theorem mk640 (w:World):(Instr.makeSlice 26 (.int .i64 64) (.int .i64 64)).run Tryz.prog w = .ok (.slice (some ⟨w.heap.size,0,none⟩) 64 64) (w.alloc (.cells (List.replicate 64 (.int .u8 0)).toArray 5)):=by kernel_rfl
theorem mk64 (w:World) (k:Nat) (h:w.heap.size=k):(Instr.makeSlice 26 (.int .i64 64) (.int .i64 64)).run Tryz.prog w = .ok (.slice (some ⟨k,0,none⟩) 64 64) (w.alloc (.cells (List.replicate 64 (.int .u8 0)).toArray 5)):=by subst h;exact mk640 w
theorem mkV0 (w:World):(Instr.makeSlice 26 (.int .i64 256) (.int .i64 256)).run Tryz.prog w = .ok (.slice (some ⟨w.heap.size,0,none⟩) 256 256) (w.alloc (.cells (List.replicate 256 (.int .u8 0)).toArray 5)):=by kernel_rfl
theorem mkV (w:World) (k:Nat) (h:w.heap.size=k):(Instr.makeSlice 26 (.int .i64 256) (.int .i64 256)).run Tryz.prog w = .ok (.slice (some ⟨k,0,none⟩) 256 256) (w.alloc (.cells (List.replicate 256 (.int .u8 0)).toArray 5)):=by subst h;exact mkV0 w
theorem ziS {P:Program} {ops:Array Oper} {op:Oper} {a:Act} {w w':World} {K:Act->World->Prop} {Q:Exit->Act->World->Prop} {E:Prop} (hgd:op.guard=none) (t:TypeId) (l c:Operand) (ho:op.op = .makeSlice t l c) (lv cv v:Value) (hl:a.eval l=lv) (hc:a.eval c=cv)
 (hrun:(Instr.makeSlice t lv cv).run P w = .ok v w') (h:K (a.put op.dst v) w'):if Region.wanted op (yielded ops a.tmps)=true then Oper.wp P op a w K Q else E:=by
 rw [if_pos (by simp [Region.wanted,hgd])]
 unfold Oper.wp execOp
 simp only [ho,hl,hc,Sem.run_bind,hrun,Result.andThen_ok,Sem.run_pure]
 exact h
theorem zaz {P:Program} {md:Region.Mode} {ops:Array Oper} {Q:Exit->Act->World->Prop} {S:World->Prop} {fuel:Nat} {listed:Array Bool} {a:Act} {w w':World} {i:Nat} {rs:List Nat} {op:Oper} (hi:ops[i]? = some op) (hgd:op.guard=none) (t:TypeId) (l c:Operand) (ho:op.op = .makeSlice t l c) (lv cv v:Value) (hl:a.eval l=lv) (hc:a.eval c=cv)
 (hrun:(Instr.makeSlice t lv cv).run P w = .ok v w') (hS:S w') (h:wpAnyH P md ops Q S fuel (listed.setIfInBounds i true) (a.put op.dst v) w') (hs:AllReadyH P md ops Q S fuel listed a w rs):AllReadyH P md ops Q S fuel listed a w (i::rs) :=
 AllReadyH.cons hi (λK hK=>ziS hgd t l c ho lv cv v hl hc hrun (hK.out _ _ hS (λ_=>h))) hs
theorem cutH {P:Program} {md:Region.Mode} {ops:Array Oper} {Q:Exit->Act->World->Prop} {S:World->Prop} {fuel:Nat} {listed:Array Bool} {a:Act} {w:World} (K:World->Prop) (h:K w) (k:∀ w',K w'->wpAnyH P md ops Q S fuel listed a w'):wpAnyH P md ops Q S fuel listed a w:=k w h
def newD (l1 l2:List UInt8):Mach:={ newM l1 l2 with main:=beginC ((newM l1 l2).lookM 0) ((newM l1 l2).lookM 1) }
theorem zm8 {w Y:World} {F:Fx} {l1 l2:List UInt8} {L:List Value} (h:NB w F (newM l1 l2) Tk.zero L Y):NB w F (newD l1 l2) Tk.zero L (Y.setCells F.g 0 (begL ((newM l1 l2).lookM 0*256+(newM l1 l2).lookM 1))):=by
 have hok:=zmB _ _ (zbW (newM l1 l2) 0) (zbW (newM l1 l2) 1)
 have hf:(newD l1 l2).fit:=Mach.fit.of h.bd.fit { h.bd.fit with main:=hok } ⟨rfl,rfl,rfl,rfl,rfl⟩ rfl ⟨rfl,rfl,rfl⟩ ⟨rfl,rfl⟩ (Or.inl rfl)
 rw [ziu]
 exact h.go (h.bd.puts (M':=newD l1 l2) (tk':=Tk.zero) 0 (cpuL (beginC ((newM l1 l2).lookM 0) ((newM l1 l2).lookM 1))) (by simp [cpuL]) (F.putMain _ _ _) ⟨rfl,rfl,rfl,rfl,rfl⟩ hf) (Bt.sets h.bd.nd _ 0 _ (Bt.refl _ _))
theorem ziT (l1 l2:List UInt8) (v1 v2:Value) (w:World) (h1:sliceAt w v1 l1) (h2:sliceAt w v2 l2) (hl1:l1.length<=1024) (hl2:l2.length<=1024) :
 Calls Tryz.prog 25 #[v1,v2] w λe w'=>∃ S',e = .returned (.tuple #[.agg (machL (newD l1 l2) S').toArray,.int .i64 0])/\SlAt w' S' (newD l1 l2)/\(newD l1 l2).fit/\SlNew (w.heap.size+1) S'/\Below w.heap.size w w':=by
 obtain ⟨a1,c1,e1⟩:=zaF h1
 obtain ⟨a2,c2,e2⟩:=zaF h2
 subst e1 e2
 have H1:=hid h1
 have H2:=hid h2
 have HR:=hid (Bx.new w (machL zeroM nilS) 41 (b:=w.heap.size) rfl)
 clear h1 h2
 go_enter Tryz.func25,Tryz.ntmps25
 go_wp2
 refine wp_region_held_drew (S:=λ_=>True) (by kernel_rfl) trivial ?_
 intro _
 refine tqK 0 ⟨some 9,_,_,_,_,none⟩ trivial ?_
 simp only [Act.put,xA,xB,xC]
 refine tqK 1 ⟨some 10,_,_,_,_,none⟩ trivial ?_
 simp only [Act.put,xA,xB,xC]
 refine wpAnyH_ready (rs:=[2,3,4]) (by kernel_rfl) (by simp) ?_
 refine zaz (op:=⟨some 11,_,_,_,_,none⟩) rfl rfl 26 _ _ rfl (.int .i64 128) (.int .i64 128) _ rfl rfl (mk128 _ (w.heap.size+1) (by simp)) trivial ?_ (zaz (op:=⟨some 12,_,_,_,_,none⟩) rfl rfl 26 _ _ rfl (.int .i64 64) (.int .i64 64) _ rfl rfl (mk64 _ (w.heap.size+1) (by simp)) trivial ?_ (zaz (op:=⟨some 13,_,_,_,_,none⟩) rfl rfl 26 _ _ rfl (.int .i64 256) (.int .i64 256) _ rfl rfl (mkV _ (w.heap.size+1) (by simp)) trivial ?_ AllReadyH.nil))
 all_goals simp only [Act.put,xA,xB,xC]
 refine wpAnyH_ready (rs:=[3,4]) (by kernel_rfl) (by simp) ?_
 refine zaz (op:=⟨some 12,_,_,_,_,none⟩) rfl rfl 26 _ _ rfl (.int .i64 64) (.int .i64 64) _ rfl rfl (mk64 _ (w.heap.size+1+1) (by simp)) trivial ?_ (zaz (op:=⟨some 13,_,_,_,_,none⟩) rfl rfl 26 _ _ rfl (.int .i64 256) (.int .i64 256) _ rfl rfl (mkV _ (w.heap.size+1+1) (by simp)) trivial ?_ AllReadyH.nil)
 rotate_left 2
 refine wpAnyH_ready (rs:=[2,4]) (by kernel_rfl) (by simp) ?_
 refine zaz (op:=⟨some 11,_,_,_,_,none⟩) rfl rfl 26 _ _ rfl (.int .i64 128) (.int .i64 128) _ rfl rfl (mk128 _ (w.heap.size+1+1) (by simp)) trivial ?_ (zaz (op:=⟨some 13,_,_,_,_,none⟩) rfl rfl 26 _ _ rfl (.int .i64 256) (.int .i64 256) _ rfl rfl (mkV _ (w.heap.size+1+1) (by simp)) trivial ?_ AllReadyH.nil)
 rotate_left 2
 refine wpAnyH_ready (rs:=[2,3]) (by kernel_rfl) (by simp) ?_
 refine zaz (op:=⟨some 11,_,_,_,_,none⟩) rfl rfl 26 _ _ rfl (.int .i64 128) (.int .i64 128) _ rfl rfl (mk128 _ (w.heap.size+1+1) (by simp)) trivial ?_ (zaz (op:=⟨some 12,_,_,_,_,none⟩) rfl rfl 26 _ _ rfl (.int .i64 64) (.int .i64 64) _ rfl rfl (mk64 _ (w.heap.size+1+1) (by simp)) trivial ?_ AllReadyH.nil)
 rotate_left 2
 all_goals simp only [Act.put,xA,xB,xC]
 refine wpAnyH_ready (rs:=[4]) (by kernel_rfl) (by simp) ?_
 refine zaz (op:=⟨some 13,_,_,_,_,none⟩) rfl rfl 26 _ _ rfl (.int .i64 256) (.int .i64 256) _ rfl rfl (mkV _ (w.heap.size+1+1+1) (by simp)) trivial ?_ AllReadyH.nil
 simp only [Act.put,xA,xB,xC]
 refine cutH (NF w l1 l2 ⟨.slice a1 l1.length c1,.slice a2 l2.length c2,.slice (some ⟨_,0,none⟩) 128 128,.slice (some ⟨_,0,none⟩) 64 64,.slice (some ⟨_,0,none⟩) 256 256⟩) (NF.of (b1:=w.heap.size+1) (b2:=w.heap.size+1+1) (b3:=w.heap.size+1+1+1) H1.out H2.out ?_ ?_ ?_ ?_ ?_) ?_
 ·repeat' (first|exact st0 _|refine Below.drew ?_|refine stA ?_ _)
 ·repeat' (first|exact HR.out|refine Bx.drew ?_|refine Bx.over ?_ _)
 ·repeat' (first|exact Bx.new _ (List.replicate 128 (.int .u8 0)) _ (by simp)|refine Bx.drew ?_|refine Bx.over ?_ _)
 ·repeat' (first|exact Bx.new _ (List.replicate 64 (.int .u8 0)) _ (by simp)|refine Bx.drew ?_|refine Bx.over ?_ _)
 ·repeat' (first|exact Bx.new _ (List.replicate 256 (.int .u8 0)) _ (by simp)|refine Bx.drew ?_|refine Bx.over ?_ _)
 intro Y hY
 have HY:=hid hY
 clear hY
 refine wpAnyH_take (i:=5) (oi:=⟨some 14,_,_,_,_,none⟩) (v:=.agg (machL (newM l1 l2) ⟨.slice a1 l1.length c1,.slice a2 l2.length c2,.slice (some ⟨w.heap.size+1,0,none⟩) 128 128,.slice (some ⟨w.heap.size+1+1,0,none⟩) 64 64,.slice (some ⟨w.heap.size+1+1+1,0,none⟩) 256 256⟩).toArray) rfl (by kernel_rfl) (by kernel_rfl) (by kernel_rfl) (λ_ _ _ h=>h) (Or.inl ⟨by rfl,λw' _=>za6 41 2 3 4 5 6 14 _ _ _ _ _ _ rfl _ _ _ _ _ _ _ rfl rfl rfl rfl rfl rfl (zcK a1 a2 l1.length c1 l2.length c2 (w.heap.size+1) (w.heap.size+1+1) (w.heap.size+1+1+1) l1 l2 w')⟩) trivial ?_
 simp only [Act.put,xA,xB,xC]
 rotate_left 1
 refine wpAnyH_ready (rs:=[3]) (by kernel_rfl) (by simp) ?_
 refine zaz (op:=⟨some 12,_,_,_,_,none⟩) rfl rfl 26 _ _ rfl (.int .i64 64) (.int .i64 64) _ rfl rfl (mk64 _ (w.heap.size+1+1+1) (by simp)) trivial ?_ AllReadyH.nil
 simp only [Act.put,xA,xB,xC]
 refine cutH (NF w l1 l2 ⟨.slice a1 l1.length c1,.slice a2 l2.length c2,.slice (some ⟨_,0,none⟩) 128 128,.slice (some ⟨_,0,none⟩) 64 64,.slice (some ⟨_,0,none⟩) 256 256⟩) (NF.of (b1:=w.heap.size+1) (b2:=w.heap.size+1+1+1) (b3:=w.heap.size+1+1) H1.out H2.out ?_ ?_ ?_ ?_ ?_) ?_
 ·repeat' (first|exact st0 _|refine Below.drew ?_|refine stA ?_ _)
 ·repeat' (first|exact HR.out|refine Bx.drew ?_|refine Bx.over ?_ _)
 ·repeat' (first|exact Bx.new _ (List.replicate 128 (.int .u8 0)) _ (by simp)|refine Bx.drew ?_|refine Bx.over ?_ _)
 ·repeat' (first|exact Bx.new _ (List.replicate 64 (.int .u8 0)) _ (by simp)|refine Bx.drew ?_|refine Bx.over ?_ _)
 ·repeat' (first|exact Bx.new _ (List.replicate 256 (.int .u8 0)) _ (by simp)|refine Bx.drew ?_|refine Bx.over ?_ _)
 intro Y hY
 have HY:=hid hY
 clear hY
 refine wpAnyH_take (i:=5) (oi:=⟨some 14,_,_,_,_,none⟩) (v:=.agg (machL (newM l1 l2) ⟨.slice a1 l1.length c1,.slice a2 l2.length c2,.slice (some ⟨w.heap.size+1,0,none⟩) 128 128,.slice (some ⟨w.heap.size+1+1+1,0,none⟩) 64 64,.slice (some ⟨w.heap.size+1+1,0,none⟩) 256 256⟩).toArray) rfl (by kernel_rfl) (by kernel_rfl) (by kernel_rfl) (λ_ _ _ h=>h) (Or.inl ⟨by rfl,λw' _=>za6 41 2 3 4 5 6 14 _ _ _ _ _ _ rfl _ _ _ _ _ _ _ rfl rfl rfl rfl rfl rfl (zcK a1 a2 l1.length c1 l2.length c2 (w.heap.size+1) (w.heap.size+1+1+1) (w.heap.size+1+1) l1 l2 w')⟩) trivial ?_
 simp only [Act.put,xA,xB,xC]
 rotate_left 1
 refine wpAnyH_ready (rs:=[4]) (by kernel_rfl) (by simp) ?_
 refine zaz (op:=⟨some 13,_,_,_,_,none⟩) rfl rfl 26 _ _ rfl (.int .i64 256) (.int .i64 256) _ rfl rfl (mkV _ (w.heap.size+1+1+1) (by simp)) trivial ?_ AllReadyH.nil
 simp only [Act.put,xA,xB,xC]
 refine cutH (NF w l1 l2 ⟨.slice a1 l1.length c1,.slice a2 l2.length c2,.slice (some ⟨_,0,none⟩) 128 128,.slice (some ⟨_,0,none⟩) 64 64,.slice (some ⟨_,0,none⟩) 256 256⟩) (NF.of (b1:=w.heap.size+1+1) (b2:=w.heap.size+1) (b3:=w.heap.size+1+1+1) H1.out H2.out ?_ ?_ ?_ ?_ ?_) ?_
 ·repeat' (first|exact st0 _|refine Below.drew ?_|refine stA ?_ _)
 ·repeat' (first|exact HR.out|refine Bx.drew ?_|refine Bx.over ?_ _)
 ·repeat' (first|exact Bx.new _ (List.replicate 128 (.int .u8 0)) _ (by simp)|refine Bx.drew ?_|refine Bx.over ?_ _)
 ·repeat' (first|exact Bx.new _ (List.replicate 64 (.int .u8 0)) _ (by simp)|refine Bx.drew ?_|refine Bx.over ?_ _)
 ·repeat' (first|exact Bx.new _ (List.replicate 256 (.int .u8 0)) _ (by simp)|refine Bx.drew ?_|refine Bx.over ?_ _)
 intro Y hY
 have HY:=hid hY
 clear hY
 refine wpAnyH_take (i:=5) (oi:=⟨some 14,_,_,_,_,none⟩) (v:=.agg (machL (newM l1 l2) ⟨.slice a1 l1.length c1,.slice a2 l2.length c2,.slice (some ⟨w.heap.size+1+1,0,none⟩) 128 128,.slice (some ⟨w.heap.size+1,0,none⟩) 64 64,.slice (some ⟨w.heap.size+1+1+1,0,none⟩) 256 256⟩).toArray) rfl (by kernel_rfl) (by kernel_rfl) (by kernel_rfl) (λ_ _ _ h=>h) (Or.inl ⟨by rfl,λw' _=>za6 41 2 3 4 5 6 14 _ _ _ _ _ _ rfl _ _ _ _ _ _ _ rfl rfl rfl rfl rfl rfl (zcK a1 a2 l1.length c1 l2.length c2 (w.heap.size+1+1) (w.heap.size+1) (w.heap.size+1+1+1) l1 l2 w')⟩) trivial ?_
 simp only [Act.put,xA,xB,xC]
 rotate_left 1
 refine wpAnyH_ready (rs:=[2]) (by kernel_rfl) (by simp) ?_
 refine zaz (op:=⟨some 11,_,_,_,_,none⟩) rfl rfl 26 _ _ rfl (.int .i64 128) (.int .i64 128) _ rfl rfl (mk128 _ (w.heap.size+1+1+1) (by simp)) trivial ?_ AllReadyH.nil
 simp only [Act.put,xA,xB,xC]
 refine cutH (NF w l1 l2 ⟨.slice a1 l1.length c1,.slice a2 l2.length c2,.slice (some ⟨_,0,none⟩) 128 128,.slice (some ⟨_,0,none⟩) 64 64,.slice (some ⟨_,0,none⟩) 256 256⟩) (NF.of (b1:=w.heap.size+1+1+1) (b2:=w.heap.size+1) (b3:=w.heap.size+1+1) H1.out H2.out ?_ ?_ ?_ ?_ ?_) ?_
 ·repeat' (first|exact st0 _|refine Below.drew ?_|refine stA ?_ _)
 ·repeat' (first|exact HR.out|refine Bx.drew ?_|refine Bx.over ?_ _)
 ·repeat' (first|exact Bx.new _ (List.replicate 128 (.int .u8 0)) _ (by simp)|refine Bx.drew ?_|refine Bx.over ?_ _)
 ·repeat' (first|exact Bx.new _ (List.replicate 64 (.int .u8 0)) _ (by simp)|refine Bx.drew ?_|refine Bx.over ?_ _)
 ·repeat' (first|exact Bx.new _ (List.replicate 256 (.int .u8 0)) _ (by simp)|refine Bx.drew ?_|refine Bx.over ?_ _)
 intro Y hY
 have HY:=hid hY
 clear hY
 refine wpAnyH_take (i:=5) (oi:=⟨some 14,_,_,_,_,none⟩) (v:=.agg (machL (newM l1 l2) ⟨.slice a1 l1.length c1,.slice a2 l2.length c2,.slice (some ⟨w.heap.size+1+1+1,0,none⟩) 128 128,.slice (some ⟨w.heap.size+1,0,none⟩) 64 64,.slice (some ⟨w.heap.size+1+1,0,none⟩) 256 256⟩).toArray) rfl (by kernel_rfl) (by kernel_rfl) (by kernel_rfl) (λ_ _ _ h=>h) (Or.inl ⟨by rfl,λw' _=>za6 41 2 3 4 5 6 14 _ _ _ _ _ _ rfl _ _ _ _ _ _ _ rfl rfl rfl rfl rfl rfl (zcK a1 a2 l1.length c1 l2.length c2 (w.heap.size+1+1+1) (w.heap.size+1) (w.heap.size+1+1) l1 l2 w')⟩) trivial ?_
 simp only [Act.put,xA,xB,xC]
 rotate_left 1
 refine wpAnyH_ready (rs:=[3]) (by kernel_rfl) (by simp) ?_
 refine zaz (op:=⟨some 12,_,_,_,_,none⟩) rfl rfl 26 _ _ rfl (.int .i64 64) (.int .i64 64) _ rfl rfl (mk64 _ (w.heap.size+1+1+1) (by simp)) trivial ?_ AllReadyH.nil
 simp only [Act.put,xA,xB,xC]
 refine cutH (NF w l1 l2 ⟨.slice a1 l1.length c1,.slice a2 l2.length c2,.slice (some ⟨_,0,none⟩) 128 128,.slice (some ⟨_,0,none⟩) 64 64,.slice (some ⟨_,0,none⟩) 256 256⟩) (NF.of (b1:=w.heap.size+1+1) (b2:=w.heap.size+1+1+1) (b3:=w.heap.size+1) H1.out H2.out ?_ ?_ ?_ ?_ ?_) ?_
 ·repeat' (first|exact st0 _|refine Below.drew ?_|refine stA ?_ _)
 ·repeat' (first|exact HR.out|refine Bx.drew ?_|refine Bx.over ?_ _)
 ·repeat' (first|exact Bx.new _ (List.replicate 128 (.int .u8 0)) _ (by simp)|refine Bx.drew ?_|refine Bx.over ?_ _)
 ·repeat' (first|exact Bx.new _ (List.replicate 64 (.int .u8 0)) _ (by simp)|refine Bx.drew ?_|refine Bx.over ?_ _)
 ·repeat' (first|exact Bx.new _ (List.replicate 256 (.int .u8 0)) _ (by simp)|refine Bx.drew ?_|refine Bx.over ?_ _)
 intro Y hY
 have HY:=hid hY
 clear hY
 refine wpAnyH_take (i:=5) (oi:=⟨some 14,_,_,_,_,none⟩) (v:=.agg (machL (newM l1 l2) ⟨.slice a1 l1.length c1,.slice a2 l2.length c2,.slice (some ⟨w.heap.size+1+1,0,none⟩) 128 128,.slice (some ⟨w.heap.size+1+1+1,0,none⟩) 64 64,.slice (some ⟨w.heap.size+1,0,none⟩) 256 256⟩).toArray) rfl (by kernel_rfl) (by kernel_rfl) (by kernel_rfl) (λ_ _ _ h=>h) (Or.inl ⟨by rfl,λw' _=>za6 41 2 3 4 5 6 14 _ _ _ _ _ _ rfl _ _ _ _ _ _ _ rfl rfl rfl rfl rfl rfl (zcK a1 a2 l1.length c1 l2.length c2 (w.heap.size+1+1) (w.heap.size+1+1+1) (w.heap.size+1) l1 l2 w')⟩) trivial ?_
 simp only [Act.put,xA,xB,xC]
 rotate_left 1
 refine wpAnyH_ready (rs:=[2]) (by kernel_rfl) (by simp) ?_
 refine zaz (op:=⟨some 11,_,_,_,_,none⟩) rfl rfl 26 _ _ rfl (.int .i64 128) (.int .i64 128) _ rfl rfl (mk128 _ (w.heap.size+1+1+1) (by simp)) trivial ?_ AllReadyH.nil
 simp only [Act.put,xA,xB,xC]
 refine cutH (NF w l1 l2 ⟨.slice a1 l1.length c1,.slice a2 l2.length c2,.slice (some ⟨_,0,none⟩) 128 128,.slice (some ⟨_,0,none⟩) 64 64,.slice (some ⟨_,0,none⟩) 256 256⟩) (NF.of (b1:=w.heap.size+1+1+1) (b2:=w.heap.size+1+1) (b3:=w.heap.size+1) H1.out H2.out ?_ ?_ ?_ ?_ ?_) ?_
 ·repeat' (first|exact st0 _|refine Below.drew ?_|refine stA ?_ _)
 ·repeat' (first|exact HR.out|refine Bx.drew ?_|refine Bx.over ?_ _)
 ·repeat' (first|exact Bx.new _ (List.replicate 128 (.int .u8 0)) _ (by simp)|refine Bx.drew ?_|refine Bx.over ?_ _)
 ·repeat' (first|exact Bx.new _ (List.replicate 64 (.int .u8 0)) _ (by simp)|refine Bx.drew ?_|refine Bx.over ?_ _)
 ·repeat' (first|exact Bx.new _ (List.replicate 256 (.int .u8 0)) _ (by simp)|refine Bx.drew ?_|refine Bx.over ?_ _)
 intro Y hY
 have HY:=hid hY
 clear hY
 refine wpAnyH_take (i:=5) (oi:=⟨some 14,_,_,_,_,none⟩) (v:=.agg (machL (newM l1 l2) ⟨.slice a1 l1.length c1,.slice a2 l2.length c2,.slice (some ⟨w.heap.size+1+1+1,0,none⟩) 128 128,.slice (some ⟨w.heap.size+1+1,0,none⟩) 64 64,.slice (some ⟨w.heap.size+1,0,none⟩) 256 256⟩).toArray) rfl (by kernel_rfl) (by kernel_rfl) (by kernel_rfl) (λ_ _ _ h=>h) (Or.inl ⟨by rfl,λw' _=>za6 41 2 3 4 5 6 14 _ _ _ _ _ _ rfl _ _ _ _ _ _ _ rfl rfl rfl rfl rfl rfl (zcK a1 a2 l1.length c1 l2.length c2 (w.heap.size+1+1+1) (w.heap.size+1+1) (w.heap.size+1) l1 l2 w')⟩) trivial ?_
 simp only [Act.put,xA,xB,xC]
 rotate_left 1
 all_goals
  refine wpAnyH_ready (rs:=[6]) (by kernel_rfl) (by simp) ?_
  refine AllReadyH.cons (o:=⟨some 15,_,_,_,_,none⟩) rfl (λK hK=>?_) AllReadyH.nil
  go_simp
  go_at_call 51
  refine (zeq (newM l1 l2) _ _ HY.out.sl.lens HY.out.sl (zlb l1 l2 hl1 hl2) (by show (0:Int)<=20000;decide)).mono ?_
  rintro e w1 ⟨F,hFB,rfl,hr,hB1,hb1⟩
  have HN:=hid (NB.mk hB1 (stp HY.out.low hb1) (HY.out.res.kept hb1) (by rw [hFB];exact HY.out.res.z) hr)
  clear hB1 hb1 hFB hr
  try go_wp2_with fail
  refine hK.out _ _ trivial (λ_=>?_)
  clear hK K HY
  try simp only [Act.put,xA,xB,xC]
  refine tqK 7 ⟨some 8,_,_,_,_,none⟩ trivial ?_
  simp only [Act.put,xA,xB,xC]
  refine tqK 8 ⟨some 16,_,_,_,_,none⟩ trivial ?_
  simp only [Act.put,xA,xB,xC]
  refine tqK 9 ⟨some 17,_,_,_,_,none⟩ trivial ?_
  simp only [Act.put,xA,xB,xC]
  refine tqK 10 ⟨some 6,_,_,_,_,none⟩ trivial ?_
  simp only [Act.put,xA,xB,xC]
  refine tqK 11 ⟨some 7,_,_,_,_,none⟩ trivial ?_
  simp only [Act.put,xA,xB,xC]
  refine wpAnyH_done (by kernel_rfl) ?_ _
  refine Pl.cutE (NB w F (newM l1 l2) Tk.zero (machL zeroM nilS)) HN.out ?_
  intro X hX
  have HX:=hid hX
  clear hX HN
  go_wp2_with (first
   | (go_at_call 53;refine (zdj F.g _).mono ?_;rintro e w2 ⟨rfl,hb2⟩;have HX2:=hid (HX.out.kept hb2);clear hb2)
   | (go_at_call 52;refine (zcT HX2.out.bd 77 _ _ (zes 0 (by omega)) (zes 1 (by omega)) (zbW _ _) (zbW _ _)).mono ?_;rintro e w3 ⟨rfl,hB3,hT3⟩;have HX3:=hid (HX2.out.go hB3 hT3);clear hB3 hT3)
   | (refine wpList_store_mid rfl 25 _ _ rfl F.g 0 (begL ((newM l1 l2).lookM 0*256+(newM l1 l2).lookM 1)).toArray rfl rfl (Bx.there HX3.out.bd.bx 0 15 (by rw [Fx.len];omega)) zbB (ziv _) ?_
      refine Pl.cutL (NB w F (newD l1 l2) Tk.zero (machL zeroM nilS)) (zm8 HX3.out) ?_
      intro Z hZ
      have HZ:=hid hZ
      clear hZ)
   | (refine wpList_load_mid rfl 41 _ rfl F.g 0 rfl (machL (newD l1 l2) F.S) _ HZ.out.bd.row Tryz.underlying41 rfl zad ?_)
   | (refine wpList_store_mid rfl 41 _ _ rfl w.heap.size 0 (machL (newD l1 l2) F.S).toArray rfl rfl (HZ.out.res.there 0 75 (by rw [zah];omega)) zad (zaC _ _ HZ.out.bd.isSl) ?_
      refine Pl.cutL (λV=>Below w.heap.size w V/\Bx V w.heap.size (machL (newD l1 l2) F.S)/\SlAt V F.S (newD l1 l2)) (HZ.out.fin rfl) ?_
      rintro V ⟨hV1,hV2,hV3⟩
      have HV1:=hid hV1
      have HV2:=hid hV2
      have HV3:=hid hV3
      clear hV1 hV2 hV3))
  have hl:=zck _ _ HV2.out.c
  refine bodyPost_ret (v:=.tuple #[.agg (machL (newD l1 l2) F.S).toArray,.int .i64 0]) ?_ rfl ⟨F.S,rfl,HV3.out,HZ.out.bd.fit,(HZ.out.bd.slNew HZ.out.r).mono HZ.out.B,HV1.out⟩
  simp only [results,Tryz.results25]
  simp
  show (Result.andThen (Sem.run Tryz.prog (loadVar 41 ⟨w.heap.size,0,none⟩) V) _)=_
  rw [hl]
  rfl
theorem SlUn.mono {g g':Nat} {W:World} {v:Value} {l:List UInt8} (h:SlUn g W v l) (hg:g<=g'):SlUn g' W v l:=by
 rcases h with h|⟨b,o,c,h1,h2,h3,h4,h5⟩
 ·exact Or.inl h
 ·exact Or.inr ⟨b,o,c,h1,h2,by omega,h4,h5⟩
theorem Sv.written (M:Mach) (S:Sl) (w:World) (hs:SlAt w S M) (hf:M.wok) :
 Calls Tryz.prog 45 #[.agg (machL M S).toArray] w λe w'=>∃ v,e = .returned v/\w'.ownsRow w.heap.size 5 1 v (enc M).length (bcs (enc M))/\Below w.heap.size w w':=by
 have hsr:Src M S w.heap.size (w.heap.size+1) ((w.alloc (.cells (machL M S).toArray 41)).alloc (.cells #[.slice none 0 0] 150)):=by
  refine ⟨(Bx.new w (machL M S) 41 rfl).over _,by omega,λj hj=>?_,hf⟩
  exact (((SlUn.of (hs j hj) (Nat.le_refl _)).kept (stA (stA (st0 w) _) _)).mono (by omega))
 have h0:StW M (w.heap.size+1) ((w.alloc (.cells (machL M S).toArray 41)).alloc (.cells #[.slice none 0 0] 150)) 0 ((w.alloc (.cells (machL M S).toArray 41)).alloc (.cells #[.slice none 0 0] 150)) :=
  ⟨⟨.slice none 0 0,Bx.new (w.alloc (.cells (machL M S).toArray 41)) [.slice none 0 0] 150 (by simp),⟨rfl,Or.inl ⟨rfl,rfl⟩⟩⟩,Below.refl _ _⟩
 have HC:=hid (Sv.carry (Sv.wcar hsr) _ h0)
 have hlo:Below w.heap.size w ((w.alloc (.cells (machL M S).toArray 41)).alloc (.cells #[.slice none 0 0] 150)):=stA (stA (st0 w) _) _
 have HLO:=hid hlo
 clear hsr h0 hs hlo
 go_enter Tryz.func45,Tryz.ntmps45
 go_wp2_with (go_at_call 67;refine HC.out.mono ?_;rintro e w1 (⟨_,h1⟩|⟨rfl,h1⟩);exact h1.elim;obtain ⟨v,hv⟩:=h1.w;obtain ⟨a,c,ev⟩:=hv.slice;subst ev;have c0:=hv.b.at 0 _ rfl;have cz:=hv.b.z;have HV:=hid hv;have HL:=hid (HLO.out.trans (h1.low.mono (Nat.le_succ _)));clear hv h1)
 go_ret
 have ho:=HV.out.o
 have e:wrL ((svX M).take 75)=enc M:=rfl
 rw [e] at ho
 refine ⟨_,rfl,?_,HL.out⟩
 rw [e]
 refine ⟨ho.1,?_⟩
 rcases ho.2 with h|⟨gg,cap,cur,e1,e2,r⟩
 ·exact Or.inl h
 ·exact Or.inr ⟨gg,cap,cur,e1,by omega,r⟩
theorem Sv.idle (p q:Option Addr) (w:World) :
 CallsD Tryz.prog 68 #[.pointer p,.pointer q] .returning w λe u' w'=>e = .returned (.tuple #[])/\u' = .returning/\w'=w:=by
 refine callsD_of_wpS Tryz.func68 rfl λc₀ cs hu=>?_
 apply wpS_seq
 apply wpS_region
 simp [wpOpsS,go_sem,recoverD,hu,Tryz.ntmps68,Exit.thenS]
 apply wpS_seq
 apply wpS_seq
 apply wpS_region
 simp [wpOpsS,go_sem,Exit.thenS]
 refine wpS_cond (t:=true) (by simp [Act.eval,Array.replicate]) ?_
 simp only [if_true]
 refine wpS_of_wp (wp_ret ?_)
 cases c₀
 simp_all [Exit.thenS,bodyPostS,results,Tryz.results68]
theorem All2.mk {B:Nat} {W:World} {c:Ct} {v:Value} {cs:List Ct} {vs:List Value} (h:c.is B W v) (t:All2 B W cs vs):All2 B W (c::cs) (v::vs):=⟨h,t⟩
theorem ziU {B:Nat} {W:World} {M:Mach} {S:Sl} (h:∀ j,j<5->SlNw B W (S.get j) (M.byt j)):All2 B W (machC M) (machL M S) :=
 All2.mk rfl (All2.mk rfl (All2.mk rfl (All2.mk rfl (All2.mk rfl (All2.mk rfl (All2.mk rfl (All2.mk rfl (All2.mk rfl (All2.mk rfl (All2.mk rfl (All2.mk rfl (All2.mk rfl (All2.mk rfl (All2.mk rfl (All2.mk rfl (All2.mk rfl (All2.mk rfl (All2.mk rfl (All2.mk rfl (All2.mk rfl (All2.mk rfl (All2.mk rfl (All2.mk rfl (All2.mk rfl (All2.mk rfl (All2.mk rfl (All2.mk rfl (All2.mk rfl (All2.mk rfl (All2.mk (h 0 (by omega)) (All2.mk (h 1 (by omega)) (All2.mk (h 2 (by omega)) (All2.mk (h 3 (by omega)) (All2.mk (h 4 (by omega)) (All2.mk rfl (All2.mk rfl (All2.mk rfl (All2.mk rfl (All2.mk rfl (All2.mk rfl (All2.mk rfl (All2.mk rfl (All2.mk rfl (All2.mk rfl (All2.mk rfl (All2.mk rfl (All2.mk rfl (All2.mk rfl (All2.mk rfl (All2.mk rfl (All2.mk rfl (All2.mk rfl (All2.mk rfl (All2.mk rfl (All2.mk rfl (All2.mk rfl (All2.mk rfl (All2.mk rfl (All2.mk rfl (All2.mk rfl (All2.mk rfl (All2.mk rfl (All2.mk rfl (All2.mk rfl (All2.mk rfl (All2.mk rfl (All2.mk rfl (All2.mk rfl (All2.mk rfl (All2.mk rfl (All2.mk rfl (All2.mk rfl (All2.mk rfl (All2.mk rfl trivial))))))))))))))))))))))))))))))))))))))))))))))))))))))))))))))))))))))))))
theorem zm9 (B:Nat) (W:World):∀ j,j<5->SlNw B W (nilS.get j) (zeroM.byt j):=λj hj=>by
 rcases five hj with rfl|rfl|rfl|rfl|rfl <;> exact Or.inl ⟨rfl,rfl⟩
def SlNs (B:Nat) (W:World) (S:Sl) (M:Mach):Prop:=∀ j,j<5->SlNw B W (S.get j) (M.byt j)
theorem SlNs.at {B:Nat} {W:World} {S:Sl} {M:Mach} (h:SlNs B W S M):SlAt W S M:=λj hj=>(h j hj).slice
theorem SlNs.isSl {B:Nat} {W:World} {S:Sl} {M:Mach} (h:SlNs B W S M):S.isSl:=λj hj=>by
 obtain ⟨a,c,e⟩:=zaF (h j hj).slice
 exact ⟨_,_,_,e⟩
theorem SlNs.kept {B:Nat} {W w1:World} {S:Sl} {M:Mach} (h:SlNs B W S M) (hb:Below W.heap.size W w1):SlNs B w1 S M:=λj hj=>(h j hj).kept hb
theorem ziV {Y:World} {b:Nat} {x:Bool} (h:Y.cell? ⟨b,0,none⟩=some (.bool x)):(loadVar 4 ⟨b,0,none⟩).run Tryz.prog Y = .ok (.bool x) Y:=by
 simp [go_sem,h]
theorem zoz:svI.take 75=svI:=by kernel_rfl
theorem zoA:svK.take 75=svK:=by kernel_rfl
theorem StR.done {N g m:Nat} {l:List UInt8} {W0 W:World} {M:Mach} (h:StR N g m l (machC zeroM) W0 75 W) (hrd:rdL svK l=some (svX M,[])):Rr N g [] W /\ ∃ S,Bx W m (machL M S) /\ ∀ j,j<5->SlNw W0.heap.size W (S.get j) (M.byt j):=by
 obtain ⟨ys,lj,h2,h3,L,h5,h6⟩:=h.r
 rw [zoA,hrd] at h2
 have h8:=Option.some.inj h2
 have e1:svX M=ys:=congrArg Prod.fst h8
 have e2:[]=lj:=congrArg Prod.snd h8
 rw [<- e1,zoz,zmZ] at h6
 rw [<- e2] at h3
 obtain ⟨S,e,hS⟩:=ziG h6
 rw [e] at h5
 exact ⟨h3,S,h5,hS⟩
structure RdK (w : World) (q : Nat) (M : Mach) (S : Sl) (V : World) : Prop where
 m:Bx V w.heap.size (machL M S)
 qq:Bx V q [.bool false]
 low:Below w.heap.size w V
 s:SlNs (w.heap.size+1+1+1) V S M
theorem RdK.of {w W0 w1:World} {M:Mach} {S:Sl} (hx:Bx w1 w.heap.size (machL M S)) (hq:Bx W0 (w.heap.size+1) [.bool false]) (hb:Below w.heap.size w W0) (hm:Mv w.heap.size (λk=>k=w.heap.size+1+1 \/ k=w.heap.size) (λk=>k=w.heap.size+1+1 \/ k=w.heap.size) W0 w1) (hs:∀ j,j<5->SlNw W0.heap.size w1 (S.get j) (M.byt j)) (hz:w.heap.size+1+1+1<=W0.heap.size):RdK w (w.heap.size+1) M S (w1.setCells w.heap.size 0 (machL M S)):=by
 have h1:=hx.puts 0 (machL M S) (by rw [zah];omega)
 rw [zau _ _ rfl] at h1
 refine ⟨h1,(hq.same hm.size (hm.block _ hq.z (λe=>by rcases e with e|e <;> omega))).fars (by omega) 0 _,Bl.puts (hb.trans hm.below) (Nat.le_refl _) _,λj hj=>?_⟩
 rcases hs j hj with h|⟨b,c,e1,e2,e3,e4⟩
 ·exact Or.inl h
 ·exact Or.inr ⟨b,c,e1,e2,by omega,e4.fars (by omega) 0 _⟩
theorem RdK.put {w V:World} {M:Mach} {S:Sl} (h:RdK w (w.heap.size+1) M S V):SlNs w.heap.size (V.setCell ⟨w.heap.size+1,0,none⟩ (.bool true)) S M:=λj hj=>by
 rcases h.s j hj with h|⟨b,c,e1,e2,e3,e4⟩
 ·exact Or.inl h
 ·exact Or.inr ⟨b,c,e1,e2,by omega,e4.far (by omega) _⟩
section
variable {w : World} {a : Option Addr} {c : Nat} {l : List UInt8}
theorem zlc (h:sliceAt w (.slice a l.length c) l):Dst w.heap.size (w.heap.size+1+1) w.heap.size (((w.alloc (.cells (machL zeroM nilS).toArray 41)).alloc (.cells #[.bool false] 4)).alloc (.cells #[.slice a l.length c] 157))/\StR w.heap.size (w.heap.size+1+1) w.heap.size l (machC zeroM) (((w.alloc (.cells (machL zeroM nilS).toArray 41)).alloc (.cells #[.bool false] 4)).alloc (.cells #[.slice a l.length c] 157)) 0 (((w.alloc (.cells (machL zeroM nilS).toArray 41)).alloc (.cells #[.bool false] 4)).alloc (.cells #[.slice a l.length c] 157))/\Below w.heap.size w (((w.alloc (.cells (machL zeroM nilS).toArray 41)).alloc (.cells #[.bool false] 4)).alloc (.cells #[.slice a l.length c] 157))/\Bx (((w.alloc (.cells (machL zeroM nilS).toArray 41)).alloc (.cells #[.bool false] 4)).alloc (.cells #[.slice a l.length c] 157)) (w.heap.size+1) [.bool false]/\Bx (((w.alloc (.cells (machL zeroM nilS).toArray 41)).alloc (.cells #[.bool false] 4)).alloc (.cells #[.slice a l.length c] 157)) w.heap.size (machL zeroM nilS):=by
 have hb:Below w.heap.size w (((w.alloc (.cells (machL zeroM nilS).toArray 41)).alloc (.cells #[.bool false] 4)).alloc (.cells #[.slice a l.length c] 157)):=stA (stA (stA (st0 w) _) _) _
 have b0:Bx (((w.alloc (.cells (machL zeroM nilS).toArray 41)).alloc (.cells #[.bool false] 4)).alloc (.cells #[.slice a l.length c] 157)) w.heap.size (machL zeroM nilS):=((Bx.new w (machL zeroM nilS) 41 rfl).over _).over _
 refine ⟨⟨Nat.le_refl _,by omega,by simp;omega,by simp⟩,⟨⟨[],l,rfl,⟨by omega,a,c,Bx.new ((w.alloc (.cells (machL zeroM nilS).toArray 41)).alloc (.cells #[.bool false] 4)) [.slice a l.length c] 157 (by simp),(SlUn.of h (Nat.le_refl _)).kept hb⟩,_,b0,ziU (zm9 _ _)⟩,Mv.refl _ _ _,Kx.refl _⟩,hb,(Bx.new (w.alloc (.cells (machL zeroM nilS).toArray 41)) [.bool false] 4 (by simp)).over _,b0⟩
end
theorem zhB (v:Value) (l:List UInt8) (w:World) (hv:sliceAt w v l) (hl:l.length<=9223372036854775807) (M:Mach) (hrd:rdL svK l=some (svX M,[])) :
 Calls Tryz.prog 46 #[v] w λe w'=>∃ S,e = .returned (.tuple #[.agg (machL M S).toArray,.bool true])/\SlNs w.heap.size w' S M/\Below w.heap.size w w':=by
 have hmf:∀ (fn:Fn) (first cap:Array Value) (w:World),(Instr.makeFunc fn first cap).run Tryz.prog w = .ok (.func fn first cap) w:=λ_ _ _ _=>rfl
 obtain ⟨a,c,ev⟩:=zaF hv
 subst ev
 obtain ⟨hd,h0,hb0,hq,hz⟩:=zlc hv
 have HC:=hid (Sv.carry (Sv.rcar hd rfl hl) _ h0)
 have HD:=hid hd
 have HB0:=hid hb0
 have HQ:=hid hq
 have HZ:=hid hz
 have HRD:=hid hrd
 clear hd h0 hb0 hq hz hrd hv
 go_enter_defers Tryz.func46,Tryz.ntmps46
 go_wp2_with (first
  | (go_at_call 67;refine HC.out.mono ?_;rintro e w1 (⟨rfl,h1⟩|⟨rfl,h1⟩);exact (by have h3:=h1.r.symm.trans HRD.out;cases h3);have HM:=hid h1.mv;have HK:=hid h1.kx;obtain ⟨h3,S,h5,hS⟩:=h1.done HRD.out;have HR:=hid h3;have HX:=hid h5;have HS:=hid hS;clear h1 h3 h5 hS)
  | (go_at_call 69;refine (zil _ HR.out).mono ?_;rintro e w9 ⟨rfl,rfl⟩)
  | (refine wpList_load_mid rfl 41 _ rfl w.heap.size 0 rfl (machL M S) _ HX.out.c Tryz.underlying41 rfl zad ?_)
  | (refine wpList_store_mid rfl 41 _ _ rfl w.heap.size 0 (machL M S).toArray rfl rfl (HX.out.there 0 75 (by rw [zah];omega)) zad (zaC _ _ (SlNs.isSl (B:=_) (W:=w1) (M:=M) HS.out)) ?_;refine Pl.cutL (RdK w (w.heap.size+1) M S) ?_ ?_;exact RdK.of HX.out HQ.out HB0.out HM.out HS.out (by simp);intro V hV;have q0:=hV.qq.at 0 _ rfl;have qz:=hV.qq.z;have qf:=hV.qq.f 0;have HV:=hid hV;clear hV))
 refine leaves_cons (f:=68) (args:=#[.pointer (some ⟨w.heap.size,0,none⟩),.pointer (some ⟨w.heap.size+1,0,none⟩)]) (by simp) (by simp [go_sem]) ?_
 refine (Sv.idle _ _ _).mono ?_
 rintro e u' w2 ⟨rfl,rfl,rfl⟩
 have hl2:=zck _ _ (HV.out.m.far (b':=w.heap.size+1) (o':=0) (by omega) (.bool true)).c
 have d2:=(HV.out.qq.set 0 (.bool true) (by simp)).at 0 _ rfl
 have hsn:SlNs w.heap.size (V.setCell ⟨w.heap.size+1,0,none⟩ (.bool true)) S M:=HV.out.put
 have hfin:Below w.heap.size w (V.setCell ⟨w.heap.size+1,0,none⟩ (.bool true)):=HV.out.low.setCell (by simp) _
 generalize V.setCell ⟨w.heap.size+1,0,none⟩ (.bool true)=w2 at *
 simp [Leaves,settle]
 refine ⟨_,?_,S,rfl,hsn,hfin⟩
 simp only [results,Tryz.results46]
 simp
 show (Result.andThen (Sem.run Tryz.prog (loadVar 41 ⟨w.heap.size,0,none⟩) w2) _)=_
 rw [hl2]
 show (Result.andThen (Sem.run Tryz.prog (loadVar 4 ⟨w.heap.size+1,0,none⟩) w2) _)=_
 rw [ziV d2]
 rfl
end Go.Proofs.YtbennamieealbaaGreatDoor
