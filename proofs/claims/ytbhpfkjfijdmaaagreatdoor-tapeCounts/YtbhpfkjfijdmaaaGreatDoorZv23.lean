/-
  Parts of a proof, joined.
-/
import Derived.Deep.RegionHeld3
import Derived.Test.YtbhpfkjfijdmaaaGreatDoorZv22
import Derived.Test.YtbhpfkjfijdmaaaGreatDoorZv16
namespace Go.Proofs.YtbhpfkjfijdmaaaGreatDoor
open Go.ChangeShapes Go.WideShapes Go.ChangeAt Go.RowKit
set_option linter.unusedVariables false
set_option maxRecDepth 100000
set_option maxHeartbeats 3200000
def sl0:Sl:=⟨.nilFunc,.nilFunc,.nilFunc,.nilFunc,.nilFunc⟩
def fxE (g:Nat) (E:Env):Fx:=⟨0,g,0,0,0,0,0,sl0,E⟩
def EnvM (g:Nat) (E:Env) (W:World):Prop:=Bx W E.mb [pt g 0]/\Bx W E.q0 [pt g 0]/\Bx W E.w0 [.int .i64 0]/\Bx W E.q1 [pt g 0]/\Bx W E.w1 [.int .i64 1]/\Bx W E.h2 [pt g 41]/\Bx W E.h3 [pt g 41]/\Bx W E.h10 [pt g 65]/\Bx W E.h11 [pt g 65]/\Bx W E.h12 [pt g 66]/\Bx W E.h13 [pt g 66]
def mE (n:Nat):Env:=⟨n+1,n+2,n+3,n+4,n+5,n+6,n+7,n+8,n+9,n+10,n+11,0,fun _=>0,fun _=>0⟩
def nil64:List Value:=List.replicate 64 .nilFunc
theorem load_ports {Y:World} {b:Nat} {L:List Value} (hl:L.length=64) (h:Bx Y b L):(loadVar 130 ⟨b,0,none⟩).run Tryz.prog Y = .ok (.agg L.toArray) Y :=
 run_loadVar_mid Y b 0 130 _ _ h.c Tryz.underlying130 rfl (info_ports.trans (by rw [hl]))
def mpL (g:Nat) (w:World):List Value:=[fval 160 #[pt (w.heap.size+2) 0,pt (w.heap.size+3) 0],mval 115 g 0,fval 160 #[pt (w.heap.size+4) 0,pt (w.heap.size+5) 0],.nilFunc,.nilFunc,fval 163 #[pt (w.heap.size+6) 0],.nilFunc,fval 164 #[pt (w.heap.size+7) 0],mval 118 g 0,mval 119 g 0,.nilFunc,.nilFunc,fval 120 #[pt (w.heap.size+1) 0],.nilFunc,fval 121 #[pt (w.heap.size+1) 0],.nilFunc,mval 122 g 0,mval 123 g 0,.nilFunc,.nilFunc,.nilFunc,fval 163 #[pt (w.heap.size+8) 0],.nilFunc,fval 164 #[pt (w.heap.size+9) 0],.nilFunc,fval 163 #[pt (w.heap.size+10) 0],.nilFunc,fval 164 #[pt (w.heap.size+11) 0],.nilFunc,mval 124 g 0,.nilFunc,.nilFunc,mval 125 g 0,mval 126 g 0,fval 127 #[pt (w.heap.size+1) 0],mval 128 g 0,.nilFunc,.nilFunc,.nilFunc,.nilFunc,.nilFunc,.nilFunc,.nilFunc,.nilFunc,.nilFunc,.nilFunc,.nilFunc,.nilFunc,.nilFunc,.nilFunc,.nilFunc,.nilFunc,.nilFunc,.nilFunc,.nilFunc,.nilFunc,.nilFunc,.nilFunc,.nilFunc,.nilFunc,.nilFunc,.nilFunc,.nilFunc,.nilFunc]
theorem mpL_eq (g:Nat) (w:World):mpL g w=portsN (fxE g (mE w.heap.size)).rdM (fxE g (mE w.heap.size)).wrM 32:=by kernel_rfl
theorem oneR (F:Fx) (i:Nat):(F.rdM i).oneCell'=true:=by unfold Fx.rdM;split <;> rfl
theorem oneW (F:Fx) (i:Nat):(F.wrM i).oneCell'=true:=by unfold Fx.wrM;split <;> rfl
theorem mem_ports (r w:Nat->Value) (v:Value):∀ n,v ∈ portsN r w n->∃ i,v=r i \/ v=w i
 | 0,h=>by simp [portsN] at h
 | n+1,h=>by
  simp only [portsN,List.mem_append,List.mem_cons,List.not_mem_nil,or_false] at h
  rcases h with h | h | h
  ·exact mem_ports r w v n h
  ·exact ⟨n,Or.inl h⟩
  ·exact ⟨n,Or.inr h⟩
theorem mpL_one (g:Nat) (w:World):∀ v ∈ mpL g w,v.oneCell'=true:=fun v hv=>by
 rw [mpL_eq] at hv
 obtain ⟨i,rfl | rfl⟩:=mem_ports _ _ v 32 hv
 ·exact oneR _ _
 ·exact oneW _ _
theorem mp_keep {W w':World} {b c:Nat} {v:Value} (h:W.cell? ⟨c,0,none⟩=some v/\W.there b 0 64) (hb:b < W.heap.size) (hc:c < W.heap.size) (hl:Below W.heap.size W w'):w'.cell? ⟨c,0,none⟩=some v/\w'.there b 0 64 :=
 ⟨(hl.cell (p:=⟨c,0,none⟩) hc).trans h.1,Pl.there_old h.2 hl hb⟩
theorem putL_all (L L':List Value) (h:L'.length=L.length):putL L 0 L'=L':=by
 have:=putL_mid [] L' L [] h
 simpa using this
theorem mpL_len (g:Nat) (w:World):(mpL g w).length=64:=rfl
theorem mp_box (g:Nat) (w:World) {Y:World} {b:Nat} (h:Bx Y b nil64):Bx (Y.setCells b 0 (mpL g w).toArray.toList) b (mpL g w):=by
 have hx:=h.puts 0 (mpL g w) (by rw [mpL_len];simp [nil64])
 rw [putL_all _ _ (by rw [mpL_len];simp [nil64])] at hx
 exact hx
theorem mp_last {W:World} {n:Nat} {v:Value} {vs:List Value} (h:W.cell? ⟨n+1,0,none⟩=some v/\W.there n 0 64):(W.setCells n 0 vs).cell? ⟨n+1,0,none⟩=some v/\(W.setCells n 0 vs).there n 0 64 :=
 ⟨(World.cell?_of_block (heap_sets_far (x:=n+1) (b:=n) (by omega) _ _ _)).trans h.1,World.there_setCells h.2 _ _ _⟩
theorem Bu.mports_any (g:Nat) (w:World):Calls Tryz.prog 78 #[pt g 0] w fun e w' =>
 e = .returned (.agg (portsN (fxE g (mE w.heap.size)).rdM (fxE g (mE w.heap.size)).wrM 32).toArray)/\Below w.heap.size w w'/\EnvM g (mE w.heap.size) w':=by
 go_enter Tryz.func78,Tryz.ntmps78
 go_wp2
 try simp only [List.append]
 refine wp_region_held_drew (S:=fun w'=>w'.cell? ⟨w.heap.size+1,0,none⟩=some (pt g 0)/\w'.there w.heap.size 0 64) (by kernel_rfl) ⟨by simp,World.there_alloc (Pl.there_new w _ _ 64 _ rfl rfl) _⟩ ?_
 intro hS
 refine wpAnyH_take (i:=0) (oi:=⟨some 7,_,_,_,_,none⟩) (v:=?_) rfl (by kernel_rfl) (by kernel_rfl) (by kernel_rfl) (fun _ _ _ h=>h) (Or.inl ⟨by rfl,?_⟩) hS ?_
 rotate_left 1
 focus (intro w hSw;(try dsimp only at hSw);go_simp;try (with_reducible rfl))
 simp only [Act.put,xA,xB,xC]
 refine wpAnyH_take (i:=2) (oi:=⟨some 9,_,_,_,_,none⟩) (v:=?_) rfl (by kernel_rfl) (by kernel_rfl) (by kernel_rfl) (fun _ _ _ h=>h) (Or.inl ⟨by rfl,?_⟩) hS ?_
 rotate_left 1
 focus (intro w hSw;(try dsimp only at hSw);go_simp;try (with_reducible rfl))
 simp only [Act.put,xA,xB,xC]
 refine wpAnyH_take (i:=3) (oi:=⟨some 10,_,_,_,_,none⟩) (v:=?_) rfl (by kernel_rfl) (by kernel_rfl) (by kernel_rfl) (fun _ _ _ h=>h) (Or.inl ⟨by rfl,?_⟩) hS ?_
 rotate_left 1
 focus (intro w hSw;(try dsimp only at hSw);go_simp;try (with_reducible rfl))
 simp only [Act.put,xA,xB,xC]
 refine wpAnyH_take (i:=5) (oi:=⟨some 12,_,_,_,_,none⟩) (v:=?_) rfl (by kernel_rfl) (by kernel_rfl) (by kernel_rfl) (fun _ _ _ h=>h) (Or.inl ⟨by rfl,?_⟩) hS ?_
 rotate_left 1
 focus (intro w hSw;(try dsimp only at hSw);go_simp;try (with_reducible rfl))
 simp only [Act.put,xA,xB,xC]
 refine wpAnyH_take (i:=8) (oi:=⟨some 15,_,_,_,_,none⟩) (v:=?_) rfl (by kernel_rfl) (by kernel_rfl) (by kernel_rfl) (fun _ _ _ h=>h) (Or.inl ⟨by rfl,?_⟩) hS ?_
 rotate_left 1
 focus (intro w hSw;(try dsimp only at hSw);go_simp;try (with_reducible rfl))
 simp only [Act.put,xA,xB,xC]
 refine wpAnyH_take (i:=9) (oi:=⟨some 16,_,_,_,_,none⟩) (v:=?_) rfl (by kernel_rfl) (by kernel_rfl) (by kernel_rfl) (fun _ _ _ h=>h) (Or.inl ⟨by rfl,?_⟩) hS ?_
 rotate_left 1
 focus (intro w hSw;(try dsimp only at hSw);go_simp;try (with_reducible rfl))
 simp only [Act.put,xA,xB,xC]
 refine wpAnyH_take (i:=10) (oi:=⟨some 17,_,_,_,_,none⟩) (v:=?_) rfl (by kernel_rfl) (by kernel_rfl) (by kernel_rfl) (fun _ _ _ h=>h) (Or.inl ⟨by rfl,?_⟩) hS ?_
 rotate_left 1
 focus (intro w hSw;(try dsimp only at hSw);go_simp;try (with_reducible rfl))
 simp only [Act.put,xA,xB,xC]
 refine wpAnyH_take (i:=11) (oi:=⟨some 18,_,_,_,_,none⟩) (v:=?_) rfl (by kernel_rfl) (by kernel_rfl) (by kernel_rfl) (fun _ _ _ h=>h) (Or.inl ⟨by rfl,?_⟩) hS ?_
 rotate_left 1
 focus (intro w hSw;(try dsimp only at hSw);go_simp;try (with_reducible rfl))
 simp only [Act.put,xA,xB,xC]
 refine wpAnyH_take (i:=14) (oi:=⟨some 21,_,_,_,_,none⟩) (v:=?_) rfl (by kernel_rfl) (by kernel_rfl) (by kernel_rfl) (fun _ _ _ h=>h) (Or.inl ⟨by rfl,?_⟩) hS ?_
 rotate_left 1
 focus (intro w hSw;(try dsimp only at hSw);go_simp;try (with_reducible rfl))
 simp only [Act.put,xA,xB,xC]
 refine wpAnyH_take (i:=15) (oi:=⟨some 22,_,_,_,_,none⟩) (v:=?_) rfl (by kernel_rfl) (by kernel_rfl) (by kernel_rfl) (fun _ _ _ h=>h) (Or.inl ⟨by rfl,?_⟩) hS ?_
 rotate_left 1
 focus (intro w hSw;(try dsimp only at hSw);go_simp;try (with_reducible rfl))
 simp only [Act.put,xA,xB,xC]
 refine wpAnyH_take (i:=16) (oi:=⟨some 23,_,_,_,_,none⟩) (v:=?_) rfl (by kernel_rfl) (by kernel_rfl) (by kernel_rfl) (fun _ _ _ h=>h) (Or.inl ⟨by rfl,?_⟩) hS ?_
 rotate_left 1
 focus (intro w hSw;(try dsimp only at hSw);go_simp;try (with_reducible rfl))
 simp only [Act.put,xA,xB,xC]
 refine wpAnyH_take (i:=17) (oi:=⟨some 24,_,_,_,_,none⟩) (v:=?_) rfl (by kernel_rfl) (by kernel_rfl) (by kernel_rfl) (fun _ _ _ h=>h) (Or.inl ⟨by rfl,?_⟩) hS ?_
 rotate_left 1
 focus (intro w hSw;(try dsimp only at hSw);go_simp;try (with_reducible rfl))
 simp only [Act.put,xA,xB,xC]
 refine wpAnyH_take (i:=20) (oi:=⟨some 27,_,_,_,_,none⟩) (v:=?_) rfl (by kernel_rfl) (by kernel_rfl) (by kernel_rfl) (fun _ _ _ h=>h) (Or.inl ⟨by rfl,?_⟩) hS ?_
 rotate_left 1
 focus (intro w hSw;(try dsimp only at hSw);go_simp;try (with_reducible rfl))
 simp only [Act.put,xA,xB,xC]
 refine wpAnyH_take (i:=21) (oi:=⟨some 28,_,_,_,_,none⟩) (v:=?_) rfl (by kernel_rfl) (by kernel_rfl) (by kernel_rfl) (fun _ _ _ h=>h) (Or.inl ⟨by rfl,?_⟩) hS ?_
 rotate_left 1
 focus (intro w hSw;(try dsimp only at hSw);go_simp;try (with_reducible rfl))
 simp only [Act.put,xA,xB,xC]
 refine wpAnyH_take (i:=22) (oi:=⟨some 29,_,_,_,_,none⟩) (v:=?_) rfl (by kernel_rfl) (by kernel_rfl) (by kernel_rfl) (fun _ _ _ h=>h) (Or.inl ⟨by rfl,?_⟩) hS ?_
 rotate_left 1
 focus (intro w hSw;(try dsimp only at hSw);go_simp;try (with_reducible rfl))
 simp only [Act.put,xA,xB,xC]
 refine wpAnyH_take (i:=23) (oi:=⟨some 30,_,_,_,_,none⟩) (v:=?_) rfl (by kernel_rfl) (by kernel_rfl) (by kernel_rfl) (fun _ _ _ h=>h) (Or.inl ⟨by rfl,?_⟩) hS ?_
 rotate_left 1
 focus (intro w hSw;(try dsimp only at hSw);go_simp;try (with_reducible rfl))
 simp only [Act.put,xA,xB,xC]
 refine wpAnyH_take (i:=24) (oi:=⟨some 31,_,_,_,_,none⟩) (v:=?_) rfl (by kernel_rfl) (by kernel_rfl) (by kernel_rfl) (fun _ _ _ h=>h) (Or.inl ⟨by rfl,?_⟩) hS ?_
 rotate_left 1
 focus (intro w hSw;(try dsimp only at hSw);go_simp;try (with_reducible rfl))
 simp only [Act.put,xA,xB,xC]
 refine wpAnyH_take (i:=25) (oi:=⟨some 32,_,_,_,_,none⟩) (v:=?_) rfl (by kernel_rfl) (by kernel_rfl) (by kernel_rfl) (fun _ _ _ h=>h) (Or.inl ⟨by rfl,?_⟩) hS ?_
 rotate_left 1
 focus (intro w hSw;(try dsimp only at hSw);go_simp;try (with_reducible rfl))
 simp only [Act.put,xA,xB,xC]
 refine wpAnyH_take (i:=26) (oi:=⟨some 33,_,_,_,_,none⟩) (v:=?_) rfl (by kernel_rfl) (by kernel_rfl) (by kernel_rfl) (fun _ _ _ h=>h) (Or.inl ⟨by rfl,?_⟩) hS ?_
 rotate_left 1
 focus (intro w hSw;(try dsimp only at hSw);go_simp;try (with_reducible rfl))
 simp only [Act.put,xA,xB,xC]
 refine wpAnyH_take (i:=27) (oi:=⟨some 34,_,_,_,_,none⟩) (v:=?_) rfl (by kernel_rfl) (by kernel_rfl) (by kernel_rfl) (fun _ _ _ h=>h) (Or.inl ⟨by rfl,?_⟩) hS ?_
 rotate_left 1
 focus (intro w hSw;(try dsimp only at hSw);go_simp;try (with_reducible rfl))
 simp only [Act.put,xA,xB,xC]
 refine wpAnyH_take (i:=28) (oi:=⟨some 35,_,_,_,_,none⟩) (v:=?_) rfl (by kernel_rfl) (by kernel_rfl) (by kernel_rfl) (fun _ _ _ h=>h) (Or.inl ⟨by rfl,?_⟩) hS ?_
 rotate_left 1
 focus (intro w hSw;(try dsimp only at hSw);go_simp;try (with_reducible rfl))
 simp only [Act.put,xA,xB,xC]
 refine wpAnyH_take (i:=29) (oi:=⟨some 36,_,_,_,_,none⟩) (v:=?_) rfl (by kernel_rfl) (by kernel_rfl) (by kernel_rfl) (fun _ _ _ h=>h) (Or.inl ⟨by rfl,?_⟩) hS ?_
 rotate_left 1
 focus (intro w hSw;(try dsimp only at hSw);go_simp;try (with_reducible rfl))
 simp only [Act.put,xA,xB,xC]
 refine wpAnyH_take (i:=30) (oi:=⟨some 37,_,_,_,_,none⟩) (v:=?_) rfl (by kernel_rfl) (by kernel_rfl) (by kernel_rfl) (fun _ _ _ h=>h) (Or.inl ⟨by rfl,?_⟩) hS ?_
 rotate_left 1
 focus (intro w hSw;(try dsimp only at hSw);go_simp;try (with_reducible rfl))
 simp only [Act.put,xA,xB,xC]
 refine wpAnyH_take (i:=31) (oi:=⟨some 38,_,_,_,_,none⟩) (v:=?_) rfl (by kernel_rfl) (by kernel_rfl) (by kernel_rfl) (fun _ _ _ h=>h) (Or.inl ⟨by rfl,?_⟩) hS ?_
 rotate_left 1
 focus (intro w hSw;(try dsimp only at hSw);go_simp;try (with_reducible rfl))
 simp only [Act.put,xA,xB,xC]
 refine wpAnyH_take (i:=32) (oi:=⟨some 39,_,_,_,_,none⟩) (v:=?_) rfl (by kernel_rfl) (by kernel_rfl) (by kernel_rfl) (fun _ _ _ h=>h) (Or.inl ⟨by rfl,?_⟩) hS ?_
 rotate_left 1
 focus (intro w hSw;(try dsimp only at hSw);go_simp;try (with_reducible rfl))
 simp only [Act.put,xA,xB,xC]
 refine wpAnyH_take (i:=33) (oi:=⟨some 40,_,_,_,_,none⟩) (v:=?_) rfl (by kernel_rfl) (by kernel_rfl) (by kernel_rfl) (fun _ _ _ h=>h) (Or.inl ⟨by rfl,?_⟩) hS ?_
 rotate_left 1
 focus (intro w hSw;(try dsimp only at hSw);go_simp;try (with_reducible rfl))
 simp only [Act.put,xA,xB,xC]
 refine wpAnyH_take (i:=34) (oi:=⟨some 41,_,_,_,_,none⟩) (v:=?_) rfl (by kernel_rfl) (by kernel_rfl) (by kernel_rfl) (fun _ _ _ h=>h) (Or.inl ⟨by rfl,?_⟩) hS ?_
 rotate_left 1
 focus (intro w hSw;(try dsimp only at hSw);go_simp;try (with_reducible rfl))
 simp only [Act.put,xA,xB,xC]
 refine wpAnyH_take (i:=35) (oi:=⟨some 42,_,_,_,_,none⟩) (v:=?_) rfl (by kernel_rfl) (by kernel_rfl) (by kernel_rfl) (fun _ _ _ h=>h) (Or.inl ⟨by rfl,?_⟩) hS ?_
 rotate_left 1
 focus (intro w hSw;(try dsimp only at hSw);go_simp;try (with_reducible rfl))
 simp only [Act.put,xA,xB,xC]
 refine wpAnyH_take (i:=36) (oi:=⟨some 43,_,_,_,_,none⟩) (v:=?_) rfl (by kernel_rfl) (by kernel_rfl) (by kernel_rfl) (fun _ _ _ h=>h) (Or.inl ⟨by rfl,?_⟩) hS ?_
 rotate_left 1
 focus (intro w hSw;(try dsimp only at hSw);go_simp;try (with_reducible rfl))
 simp only [Act.put,xA,xB,xC]
 refine wpAnyH_take (i:=39) (oi:=⟨some 46,_,_,_,_,none⟩) (v:=?_) rfl (by kernel_rfl) (by kernel_rfl) (by kernel_rfl) (fun _ _ _ h=>h) (Or.inl ⟨by rfl,?_⟩) hS ?_
 rotate_left 1
 focus (intro w hSw;(try dsimp only at hSw);go_simp;try (with_reducible rfl))
 simp only [Act.put,xA,xB,xC]
 refine wpAnyH_take (i:=40) (oi:=⟨some 47,_,_,_,_,none⟩) (v:=?_) rfl (by kernel_rfl) (by kernel_rfl) (by kernel_rfl) (fun _ _ _ h=>h) (Or.inl ⟨by rfl,?_⟩) hS ?_
 rotate_left 1
 focus (intro w hSw;(try dsimp only at hSw);go_simp;try (with_reducible rfl))
 simp only [Act.put,xA,xB,xC]
 refine wpAnyH_take (i:=41) (oi:=⟨some 48,_,_,_,_,none⟩) (v:=?_) rfl (by kernel_rfl) (by kernel_rfl) (by kernel_rfl) (fun _ _ _ h=>h) (Or.inl ⟨by rfl,?_⟩) hS ?_
 rotate_left 1
 focus (intro w hSw;(try dsimp only at hSw);go_simp;try (with_reducible rfl))
 simp only [Act.put,xA,xB,xC]
 refine wpAnyH_take (i:=44) (oi:=⟨some 51,_,_,_,_,none⟩) (v:=?_) rfl (by kernel_rfl) (by kernel_rfl) (by kernel_rfl) (fun _ _ _ h=>h) (Or.inl ⟨by rfl,?_⟩) hS ?_
 rotate_left 1
 focus (intro w hSw;(try dsimp only at hSw);go_simp;try (with_reducible rfl))
 simp only [Act.put,xA,xB,xC]
 refine wpAnyH_take (i:=45) (oi:=⟨some 52,_,_,_,_,none⟩) (v:=?_) rfl (by kernel_rfl) (by kernel_rfl) (by kernel_rfl) (fun _ _ _ h=>h) (Or.inl ⟨by rfl,?_⟩) hS ?_
 rotate_left 1
 focus (intro w hSw;(try dsimp only at hSw);go_simp;try (with_reducible rfl))
 simp only [Act.put,xA,xB,xC]
 refine wpAnyH_take (i:=46) (oi:=⟨some 53,_,_,_,_,none⟩) (v:=?_) rfl (by kernel_rfl) (by kernel_rfl) (by kernel_rfl) (fun _ _ _ h=>h) (Or.inl ⟨by rfl,?_⟩) hS ?_
 rotate_left 1
 focus (intro w hSw;(try dsimp only at hSw);go_simp;try (with_reducible rfl))
 simp only [Act.put,xA,xB,xC]
 refine wpAnyH_take (i:=49) (oi:=⟨some 56,_,_,_,_,none⟩) (v:=?_) rfl (by kernel_rfl) (by kernel_rfl) (by kernel_rfl) (fun _ _ _ h=>h) (Or.inl ⟨by rfl,?_⟩) hS ?_
 rotate_left 1
 focus (intro w hSw;(try dsimp only at hSw);go_simp;try (with_reducible rfl))
 simp only [Act.put,xA,xB,xC]
 refine wpAnyH_take (i:=50) (oi:=⟨some 57,_,_,_,_,none⟩) (v:=?_) rfl (by kernel_rfl) (by kernel_rfl) (by kernel_rfl) (fun _ _ _ h=>h) (Or.inl ⟨by rfl,?_⟩) hS ?_
 rotate_left 1
 focus (intro w hSw;(try dsimp only at hSw);go_simp;try (with_reducible rfl))
 simp only [Act.put,xA,xB,xC]
 refine wpAnyH_take (i:=51) (oi:=⟨some 58,_,_,_,_,none⟩) (v:=?_) rfl (by kernel_rfl) (by kernel_rfl) (by kernel_rfl) (fun _ _ _ h=>h) (Or.inl ⟨by rfl,?_⟩) hS ?_
 rotate_left 1
 focus (intro w hSw;(try dsimp only at hSw);go_simp;try (with_reducible rfl))
 simp only [Act.put,xA,xB,xC]
 refine wpAnyH_take (i:=54) (oi:=⟨some 61,_,_,_,_,none⟩) (v:=?_) rfl (by kernel_rfl) (by kernel_rfl) (by kernel_rfl) (fun _ _ _ h=>h) (Or.inl ⟨by rfl,?_⟩) hS ?_
 rotate_left 1
 focus (intro w hSw;(try dsimp only at hSw);go_simp;try (with_reducible rfl))
 simp only [Act.put,xA,xB,xC]
 refine wpAnyH_take (i:=55) (oi:=⟨some 62,_,_,_,_,none⟩) (v:=?_) rfl (by kernel_rfl) (by kernel_rfl) (by kernel_rfl) (fun _ _ _ h=>h) (Or.inl ⟨by rfl,?_⟩) hS ?_
 rotate_left 1
 focus (intro w hSw;(try dsimp only at hSw);go_simp;try (with_reducible rfl))
 simp only [Act.put,xA,xB,xC]
 refine wpAnyH_take (i:=56) (oi:=⟨some 63,_,_,_,_,none⟩) (v:=?_) rfl (by kernel_rfl) (by kernel_rfl) (by kernel_rfl) (fun _ _ _ h=>h) (Or.inl ⟨by rfl,?_⟩) hS ?_
 rotate_left 1
 focus (intro w hSw;(try dsimp only at hSw);go_simp;try (with_reducible rfl))
 simp only [Act.put,xA,xB,xC]
 refine wpAnyH_take (i:=57) (oi:=⟨some 64,_,_,_,_,none⟩) (v:=?_) rfl (by kernel_rfl) (by kernel_rfl) (by kernel_rfl) (fun _ _ _ h=>h) (Or.inl ⟨by rfl,?_⟩) hS ?_
 rotate_left 1
 focus (intro w hSw;(try dsimp only at hSw);go_simp;try (with_reducible rfl))
 simp only [Act.put,xA,xB,xC]
 refine wpAnyH_take (i:=58) (oi:=⟨some 65,_,_,_,_,none⟩) (v:=?_) rfl (by kernel_rfl) (by kernel_rfl) (by kernel_rfl) (fun _ _ _ h=>h) (Or.inl ⟨by rfl,?_⟩) hS ?_
 rotate_left 1
 focus (intro w hSw;(try dsimp only at hSw);go_simp;try (with_reducible rfl))
 simp only [Act.put,xA,xB,xC]
 refine wpAnyH_take (i:=59) (oi:=⟨some 66,_,_,_,_,none⟩) (v:=?_) rfl (by kernel_rfl) (by kernel_rfl) (by kernel_rfl) (fun _ _ _ h=>h) (Or.inl ⟨by rfl,?_⟩) hS ?_
 rotate_left 1
 focus (intro w hSw;(try dsimp only at hSw);go_simp;try (with_reducible rfl))
 simp only [Act.put,xA,xB,xC]
 refine wpAnyH_take (i:=60) (oi:=⟨some 67,_,_,_,_,none⟩) (v:=?_) rfl (by kernel_rfl) (by kernel_rfl) (by kernel_rfl) (fun _ _ _ h=>h) (Or.inl ⟨by rfl,?_⟩) hS ?_
 rotate_left 1
 focus (intro w hSw;(try dsimp only at hSw);go_simp;try (with_reducible rfl))
 simp only [Act.put,xA,xB,xC]
 refine wpAnyH_take (i:=61) (oi:=⟨some 68,_,_,_,_,none⟩) (v:=?_) rfl (by kernel_rfl) (by kernel_rfl) (by kernel_rfl) (fun _ _ _ h=>h) (Or.inl ⟨by rfl,?_⟩) hS ?_
 rotate_left 1
 focus (intro w hSw;(try dsimp only at hSw);go_simp;try (with_reducible rfl))
 simp only [Act.put,xA,xB,xC]
 refine wpAnyH_take (i:=62) (oi:=⟨some 69,_,_,_,_,none⟩) (v:=?_) rfl (by kernel_rfl) (by kernel_rfl) (by kernel_rfl) (fun _ _ _ h=>h) (Or.inl ⟨by rfl,?_⟩) hS ?_
 rotate_left 1
 focus (intro w hSw;(try dsimp only at hSw);go_simp;try (with_reducible rfl))
 simp only [Act.put,xA,xB,xC]
 refine wpAnyH_take (i:=63) (oi:=⟨some 70,_,_,_,_,none⟩) (v:=?_) rfl (by kernel_rfl) (by kernel_rfl) (by kernel_rfl) (fun _ _ _ h=>h) (Or.inl ⟨by rfl,?_⟩) hS ?_
 rotate_left 1
 focus (intro w hSw;(try dsimp only at hSw);go_simp;try (with_reducible rfl))
 simp only [Act.put,xA,xB,xC]
 refine wpAnyH_take (i:=64) (oi:=⟨some 71,_,_,_,_,none⟩) (v:=?_) rfl (by kernel_rfl) (by kernel_rfl) (by kernel_rfl) (fun _ _ _ h=>h) (Or.inl ⟨by rfl,?_⟩) hS ?_
 rotate_left 1
 focus (intro w hSw;(try dsimp only at hSw);go_simp;try (with_reducible rfl))
 simp only [Act.put,xA,xB,xC]
 refine wpAnyH_take (i:=65) (oi:=⟨some 72,_,_,_,_,none⟩) (v:=?_) rfl (by kernel_rfl) (by kernel_rfl) (by kernel_rfl) (fun _ _ _ h=>h) (Or.inl ⟨by rfl,?_⟩) hS ?_
 rotate_left 1
 focus (intro w hSw;(try dsimp only at hSw);go_simp;try (with_reducible rfl))
 simp only [Act.put,xA,xB,xC]
 refine wpAnyH_ready (rs:=[1]) (by kernel_rfl) (by simp) ?_
 refine AllReadyH.cons (o:=⟨some 8,_,_,_,_,none⟩) rfl (fun K hK=>?_) AllReadyH.nil
 go_simp
 go_at_call 114
 refine (Bu.pad_n g _ _).mono ?_
 rintro e w1 ⟨rfl,rfl⟩
 try go_wp2_with fail
 refine hK.out _ _ (mp_keep hS (by first | (simp;done) | (simp;omega)) (by first | (simp;done) | (simp;omega)) (stA (stA (st0 _) _) _)) (fun hS'=>?_)
 clear hK K hS
 have hS:=hS'
 clear hS'
 try simp only [Act.put,xA,xB,xC]
 refine wpAnyH_take (i:=4) (oi:=⟨some 11,_,_,_,_,none⟩) (v:=?_) rfl (by kernel_rfl) (by kernel_rfl) (by kernel_rfl) (fun _ _ _ h=>h) (Or.inl ⟨by rfl,?_⟩) hS ?_
 rotate_left 1
 focus (intro w hSw;(try dsimp only at hSw);go_simp;try (with_reducible rfl))
 simp only [Act.put,xA,xB,xC]
 refine wpAnyH_ready (rs:=[6]) (by kernel_rfl) (by simp) ?_
 refine AllReadyH.cons (o:=⟨some 13,_,_,_,_,none⟩) rfl (fun K hK=>?_) AllReadyH.nil
 go_simp
 go_at_call 114
 refine (Bu.pad_n g _ _).mono ?_
 rintro e w1 ⟨rfl,rfl⟩
 try go_wp2_with fail
 refine hK.out _ _ (mp_keep hS (by first | (simp;done) | (simp;omega)) (by first | (simp;done) | (simp;omega)) (stA (stA (st0 _) _) _)) (fun hS'=>?_)
 clear hK K hS
 have hS:=hS'
 clear hS'
 try simp only [Act.put,xA,xB,xC]
 refine wpAnyH_take (i:=7) (oi:=⟨some 14,_,_,_,_,none⟩) (v:=?_) rfl (by kernel_rfl) (by kernel_rfl) (by kernel_rfl) (fun _ _ _ h=>h) (Or.inl ⟨by rfl,?_⟩) hS ?_
 rotate_left 1
 focus (intro w hSw;(try dsimp only at hSw);go_simp;try (with_reducible rfl))
 simp only [Act.put,xA,xB,xC]
 refine wpAnyH_ready (rs:=[12]) (by kernel_rfl) (by simp) ?_
 refine AllReadyH.cons (o:=⟨some 19,_,_,_,_,none⟩) rfl (fun K hK=>?_) AllReadyH.nil
 go_simp
 go_at_call 116
 refine (Bu.high_n g _ _).mono ?_
 rintro e w1 ⟨rfl,rfl⟩
 try go_wp2_with fail
 refine hK.out _ _ (mp_keep hS (by first | (simp;done) | (simp;omega)) (by first | (simp;done) | (simp;omega)) (stA (st0 _) _)) (fun hS'=>?_)
 clear hK K hS
 have hS:=hS'
 clear hS'
 try simp only [Act.put,xA,xB,xC]
 refine wpAnyH_take (i:=13) (oi:=⟨some 20,_,_,_,_,none⟩) (v:=?_) rfl (by kernel_rfl) (by kernel_rfl) (by kernel_rfl) (fun _ _ _ h=>h) (Or.inl ⟨by rfl,?_⟩) hS ?_
 rotate_left 1
 focus (intro w hSw;(try dsimp only at hSw);go_simp;try (with_reducible rfl))
 simp only [Act.put,xA,xB,xC]
 refine wpAnyH_ready (rs:=[18]) (by kernel_rfl) (by simp) ?_
 refine AllReadyH.cons (o:=⟨some 25,_,_,_,_,none⟩) rfl (fun K hK=>?_) AllReadyH.nil
 go_simp
 go_at_call 117
 refine (Bu.low_n g _ _).mono ?_
 rintro e w1 ⟨rfl,rfl⟩
 try go_wp2_with fail
 refine hK.out _ _ (mp_keep hS (by first | (simp;done) | (simp;omega)) (by first | (simp;done) | (simp;omega)) (stA (st0 _) _)) (fun hS'=>?_)
 clear hK K hS
 have hS:=hS'
 clear hS'
 try simp only [Act.put,xA,xB,xC]
 refine wpAnyH_take (i:=19) (oi:=⟨some 26,_,_,_,_,none⟩) (v:=?_) rfl (by kernel_rfl) (by kernel_rfl) (by kernel_rfl) (fun _ _ _ h=>h) (Or.inl ⟨by rfl,?_⟩) hS ?_
 rotate_left 1
 focus (intro w hSw;(try dsimp only at hSw);go_simp;try (with_reducible rfl))
 simp only [Act.put,xA,xB,xC]
 refine wpAnyH_ready (rs:=[37]) (by kernel_rfl) (by simp) ?_
 refine AllReadyH.cons (o:=⟨some 44,_,_,_,_,none⟩) rfl (fun K hK=>?_) AllReadyH.nil
 go_simp
 go_at_call 116
 refine (Bu.high_n g _ _).mono ?_
 rintro e w1 ⟨rfl,rfl⟩
 try go_wp2_with fail
 refine hK.out _ _ (mp_keep hS (by first | (simp;done) | (simp;omega)) (by first | (simp;done) | (simp;omega)) (stA (st0 _) _)) (fun hS'=>?_)
 clear hK K hS
 have hS:=hS'
 clear hS'
 try simp only [Act.put,xA,xB,xC]
 refine wpAnyH_take (i:=38) (oi:=⟨some 45,_,_,_,_,none⟩) (v:=?_) rfl (by kernel_rfl) (by kernel_rfl) (by kernel_rfl) (fun _ _ _ h=>h) (Or.inl ⟨by rfl,?_⟩) hS ?_
 rotate_left 1
 focus (intro w hSw;(try dsimp only at hSw);go_simp;try (with_reducible rfl))
 simp only [Act.put,xA,xB,xC]
 refine wpAnyH_ready (rs:=[42]) (by kernel_rfl) (by simp) ?_
 refine AllReadyH.cons (o:=⟨some 49,_,_,_,_,none⟩) rfl (fun K hK=>?_) AllReadyH.nil
 go_simp
 go_at_call 117
 refine (Bu.low_n g _ _).mono ?_
 rintro e w1 ⟨rfl,rfl⟩
 try go_wp2_with fail
 refine hK.out _ _ (mp_keep hS (by first | (simp;done) | (simp;omega)) (by first | (simp;done) | (simp;omega)) (stA (st0 _) _)) (fun hS'=>?_)
 clear hK K hS
 have hS:=hS'
 clear hS'
 try simp only [Act.put,xA,xB,xC]
 refine wpAnyH_take (i:=43) (oi:=⟨some 50,_,_,_,_,none⟩) (v:=?_) rfl (by kernel_rfl) (by kernel_rfl) (by kernel_rfl) (fun _ _ _ h=>h) (Or.inl ⟨by rfl,?_⟩) hS ?_
 rotate_left 1
 focus (intro w hSw;(try dsimp only at hSw);go_simp;try (with_reducible rfl))
 simp only [Act.put,xA,xB,xC]
 refine wpAnyH_ready (rs:=[47]) (by kernel_rfl) (by simp) ?_
 refine AllReadyH.cons (o:=⟨some 54,_,_,_,_,none⟩) rfl (fun K hK=>?_) AllReadyH.nil
 go_simp
 go_at_call 116
 refine (Bu.high_n g _ _).mono ?_
 rintro e w1 ⟨rfl,rfl⟩
 try go_wp2_with fail
 refine hK.out _ _ (mp_keep hS (by first | (simp;done) | (simp;omega)) (by first | (simp;done) | (simp;omega)) (stA (st0 _) _)) (fun hS'=>?_)
 clear hK K hS
 have hS:=hS'
 clear hS'
 try simp only [Act.put,xA,xB,xC]
 refine wpAnyH_take (i:=48) (oi:=⟨some 55,_,_,_,_,none⟩) (v:=?_) rfl (by kernel_rfl) (by kernel_rfl) (by kernel_rfl) (fun _ _ _ h=>h) (Or.inl ⟨by rfl,?_⟩) hS ?_
 rotate_left 1
 focus (intro w hSw;(try dsimp only at hSw);go_simp;try (with_reducible rfl))
 simp only [Act.put,xA,xB,xC]
 refine wpAnyH_ready (rs:=[52]) (by kernel_rfl) (by simp) ?_
 refine AllReadyH.cons (o:=⟨some 59,_,_,_,_,none⟩) rfl (fun K hK=>?_) AllReadyH.nil
 go_simp
 go_at_call 117
 refine (Bu.low_n g _ _).mono ?_
 rintro e w1 ⟨rfl,rfl⟩
 try go_wp2_with fail
 refine hK.out _ _ (mp_keep hS (by first | (simp;done) | (simp;omega)) (by first | (simp;done) | (simp;omega)) (stA (st0 _) _)) (fun hS'=>?_)
 clear hK K hS
 have hS:=hS'
 clear hS'
 try simp only [Act.put,xA,xB,xC]
 refine wpAnyH_take (i:=53) (oi:=⟨some 60,_,_,_,_,none⟩) (v:=?_) rfl (by kernel_rfl) (by kernel_rfl) (by kernel_rfl) (fun _ _ _ h=>h) (Or.inl ⟨by rfl,?_⟩) hS ?_
 rotate_left 1
 focus (intro w hSw;(try dsimp only at hSw);go_simp;try (with_reducible rfl))
 simp only [Act.put,xA,xB,xC]
 refine wpAnyH_take (i:=66) (oi:=⟨some 73,_,_,_,_,none⟩) (v:=?_) rfl (by kernel_rfl) (by kernel_rfl) (by kernel_rfl) (fun _ _ _ h=>h) (Or.inl ⟨by rfl,?_⟩) hS ?_
 rotate_left 1
 focus (intro w hSw;(try dsimp only at hSw);go_simp;try (with_reducible rfl))
 simp only [Act.put,xA,xB,xC]
 refine wpAnyH_ready (rs:=[67]) (by kernel_rfl) (by simp) ?_
 refine AllReadyH.cons (o:=⟨none,_,_,_,_,none⟩) rfl (fun K hK=>?_) AllReadyH.nil
 refine step_store_mid rfl 130 _ _ rfl w.heap.size 0 (mpL g w).toArray rfl rfl hS.2 info_ports (all_oneCell_toArray (mpL_one g w)) ?_
 refine hK.out _ _ (mp_last hS) (fun _=>?_)
 clear hK K
 refine wpAnyH_done (by kernel_rfl) ?_ _
 refine Pl.cutE (fun Y=>Below w.heap.size w Y/\Bx Y w.heap.size (mpL g w)/\EnvM g (mE w.heap.size) Y) ⟨?_,?_,?_⟩ ?_
 ·refine Bl.puts ?_ (Nat.le_refl _) _
  repeat' (first | exact st0 _ | refine Below.drew ?_ | refine stA ?_ _)
 ·refine mp_box g w ?_
  repeat' (first | exact Bx.new _ nil64 _ rfl | refine Bx.drew ?_ | refine Bx.over ?_ _)
 ·refine ⟨?_,?_,?_,?_,?_,?_,?_,?_,?_,?_,?_⟩
  all_goals refine Bx.fars ?_ (by show w.heap.size ≠ w.heap.size+_;omega) 0 _
  all_goals repeat' (first | exact Bx.new _ _ _ (by simp;rfl) | refine Bx.drew ?_ | refine Bx.over ?_ _)
 rintro Y ⟨hY1,hY2,hY3⟩
 have HY1:=hid hY1
 have HY2:=hid hY2
 have HY3:=hid hY3
 clear hY1 hY2 hY3 hS
 go_wp2
 rw [mpL_eq] at HY2
 exact bodyPost_ret (v:=.agg _) (by simp only [results,Tryz.results78];simp;exact Pl.res (load_ports (by rw [portsN_len]) HY2.out)) rfl ⟨rfl,HY1.out,HY3.out⟩
end Go.Proofs.YtbhpfkjfijdmaaaGreatDoor
