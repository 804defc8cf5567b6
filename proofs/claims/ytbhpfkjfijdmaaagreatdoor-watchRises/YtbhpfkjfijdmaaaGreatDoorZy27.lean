/-
  Parts of a proof, joined.
-/
import Derived.Test.YtbhpfkjfijdmaaaGreatDoorZy26
import Derived.Lib.SlBuf
import Derived.Laws.IdiomCopy
import Derived.Deep.RegionLaw
namespace Go.Proofs.YtbhpfkjfijdmaaaGreatDoor
open Go.ChangeShapes Go.WideShapes Go.ChangeAt Go.RowKit
set_option linter.unusedVariables false
set_option maxRecDepth 100000
set_option maxHeartbeats 3200000
theorem run_copyB {W:World} {b rb:Nat} {L R:List Value} (hb:Bx W b L) (hr:Bx W rb R) (o dLen dCap sCap n:Nat) (ty:TypeId) (hn:n=R.length) (ho:o+R.length<=L.length) (hd:R.length<=dLen) (h1:∀ v ∈ R,v.oneCell'=true) :
 (Builtin.copy_ #[26,26] ty #[.slice (some ⟨b,o,none⟩) dLen dCap,.slice (some ⟨rb,0,none⟩) n sCap]).run Tryz.prog W = .ok (goInt R.length) (W.setCells b o R):=by
 subst hn
 refine run_copy_cells W 26 26 ty 5 b o dLen dCap ⟨rb,0,none⟩ R.length sCap R Tryz.underlying26 (by kernel_rfl) (Nat.min_eq_left hd).symm (fun j v hj=>?_) (fun j hj=>?_) (fun j hj=>hb.f _) h1
 ·rw [addr_add];exact hr.c j v hj
 ·rw [hb.at (o+j) _ (List.getElem?_eq_getElem (by omega))];rfl
theorem info16:(Tryz.prog.info? 56).map (·.size)=some 16:=by kernel_rfl
theorem row16_one (f:Nat->Nat):(row16 f).toArray.all (·.oneCell')=true:=by
 refine all_oneCell_toArray fun v hv=>?_
 unfold row16 at hv
 rw [List.mem_map] at hv
 obtain ⟨x,_,rfl⟩:=hv
 rfl
theorem LnputL_mid (A B vs:List Value) (h:vs.length=B.length):putL (A++B) A.length vs=A++vs:=by
 induction vs generalizing A B with
 | nil=>cases B with
  | nil=>rfl
  | cons b B=>cases h
 | cons v vs ih=>cases B with
  | nil=>cases h
  | cons b B =>
   have:=ih (A++[v]) B (by simpa using h)
   simp only [List.append_assoc,List.singleton_append,List.length_append,List.length_singleton] at this
   rw [putL,<- this]
   congr 1
   rw [List.set_append_right _ _ (Nat.le_refl _)]
   simp
theorem Bx.all {W:World} {b:Nat} {L:List Value} (h:Bx W b L) (vs:List Value) (hl:vs.length=L.length):Bx (W.setCells b 0 vs) b vs:=by
 have:=h.puts 0 vs (by omega)
 rwa [show putL L 0 vs=vs from LnputL_mid [] L vs hl] at this
theorem ld16 {ops:Array Oper} {rest:List Oper} {op:Oper} {a:Act} {w:World} {Q:Exit->Act->World->Prop} (hgd:op.guard=none) (x:Operand) (ho:op.op = .load 56 x) (b:Nat) (f:Nat->Nat) (hx:a.eval x = .pointer (some ⟨b,0,none⟩)) (hb:Bx w b (row16 f))
 (h:wpList Tryz.prog ops Q rest (a.put op.dst (.agg (row16 f).toArray)) w):wpList Tryz.prog ops Q (op :: rest) a w :=
 wpList_load_mid hgd 56 x ho b 0 hx (row16 f) _ hb.c Tryz.underlying56 rfl (by rw [row16_len];exact info16) h
theorem st16 {ops:Array Oper} {rest:List Oper} {op:Oper} {a:Act} {w:World} {Q:Exit->Act->World->Prop} (hgd:op.guard=none) (x z:Operand) (ho:op.op = .store 56 x z) (b:Nat) (f f':Nat->Nat) (hx:a.eval x = .pointer (some ⟨b,0,none⟩)) (hz:a.eval z = .agg (row16 f).toArray) (hb:Bx w b (row16 f'))
 (h:∀ w',w'=w.setCells b 0 (row16 f)->Bx w' b (row16 f)->wpList Tryz.prog ops Q rest (a.put op.dst undef) w'):wpList Tryz.prog ops Q (op :: rest) a w:=by
 refine wpList_store_mid hgd 56 x z ho b 0 (row16 f).toArray hx hz ?_ (by simp only [List.size_toArray,row16_len];exact info16) (row16_one f) ?_
 ·simp only [List.size_toArray,row16_len];exact hb.there 0 16 (by rw [row16_len];omega)
 ·exact h _ rfl (hb.all _ (by rw [row16_len,row16_len]))
theorem lv16 {W:World} {b:Nat} {f:Nat->Nat} (h:Bx W b (row16 f)):(loadVar 56 ⟨b,0,none⟩).run Tryz.prog W = .ok (.agg (row16 f).toArray) W :=
 run_loadVar_mid W b 0 56 _ _ h.c Tryz.underlying56 rfl (by rw [row16_len];exact info16)
theorem ground_put (m:List UInt8) (Y n:Nat) (hn:n < 4):putL (row16 (fun X=>if X < 4 * n then g16 m Y X else 0)) (4 * n) [.int .u8 (td m (gb m (Y / 4 * 4+n)) 0 (Y % 4)),.int .u8 (td m (gb m (Y / 4 * 4+n)) 1 (Y % 4)),.int .u8 (td m (gb m (Y / 4 * 4+n)) 2 (Y % 4)),.int .u8 (td m (gb m (Y / 4 * 4+n)) 3 (Y % 4))]=row16 (fun X=>if X < 4 * (n+1) then g16 m Y X else 0):=by
 simp only [putL]
 rw [row16_set _ _ _ (by omega),row16_set _ _ _ (by omega),row16_set _ _ _ (by omega),row16_set _ _ _ (by omega)]
 apply row16_congr
 intro X hX
 have h:∀ i,i < 4->td m (gb m (Y / 4 * 4+n)) i (Y % 4)=g16 m Y (4 * n+i):=fun i hi=>by
  unfold g16
  rw [show (4 * n+i) / 4=n by omega,show (4 * n+i) % 4=i by omega]
 rw [h 0 (by omega),h 1 (by omega),h 2 (by omega),h 3 (by omega)]
 by_cases e3:X=4 * n+1+1+1
 ·subst e3;simp;intro;omega
 ·by_cases e2:X=4 * n+1+1
  ·subst e2;simp;intro;omega
  ·by_cases e1:X=4 * n+1
   ·subst e1;simp;intro;omega
   ·by_cases e0:X=4 * n
    ·subst e0
     rw [if_neg e3,if_neg e2,if_neg e1,if_pos rfl,if_pos (by omega)]
     rfl
    ·simp only [if_neg e3,if_neg e2,if_neg e1,if_neg e0]
     by_cases hlt:X < 4 * n
     ·rw [if_pos hlt,if_pos (by omega)]
     ·rw [if_neg hlt,if_neg (by omega)]
structure GdW (w : World) (m : List UInt8) (Y n : Nat) (W : World) : Prop where
 low:Below w.heap.size w W
 r:Bx W w.heap.size (row16 fun _=>0)
 g:Bx W (w.heap.size+1) (row16 fun X=>if X < 4 * n then g16 m Y X else 0)
section
variable {w W w1 : World} {m : List UInt8} {Y n : Nat}
theorem GdW.kept (h:GdW w m Y n W) (hb:Below W.heap.size W w1):GdW w m Y n w1:=⟨stp h.low hb,h.r.kept hb,h.g.kept hb⟩
theorem GdW.over (h:GdW w m Y n W) (o:Obj):GdW w m Y n (W.alloc o):=h.kept (stA (st0 W) o)
theorem GdW.drew (h:GdW w m Y n W):GdW w m Y n W.drew:=⟨h.low.drew,h.r.drew,h.g.drew⟩
theorem GdW.put (h:GdW w m Y n W) (hn:n < 4):GdW w m Y (n+1) (W.setCells (w.heap.size+1) (4 * n) [.int .u8 (td m (gb m (Y / 4 * 4+n)) 0 (Y % 4)),.int .u8 (td m (gb m (Y / 4 * 4+n)) 1 (Y % 4)),.int .u8 (td m (gb m (Y / 4 * 4+n)) 2 (Y % 4)),.int .u8 (td m (gb m (Y / 4 * 4+n)) 3 (Y % 4))]) :=
 ⟨Bl.puts h.low (by omega) _,h.r.fars (by omega) _ _,ground_put m Y n hn ▸ h.g.puts (4 * n) _ (by rw [row16_len];simp;omega)⟩
end
structure SnW (w : World) (m : List UInt8) (y x bs : Nat) (W : World) : Prop where
 low:Below w.heap.size w W
 r:Bx W w.heap.size (row16 fun _=>0)
 g:Bx W (w.heap.size+1) (row16 (g16 m ((y+gb m 169) % 16)))
 s:Bx W bs (row16 fun i=>if i < x then gd m y i else 0)
 far:w.heap.size+1 < bs
theorem SnW.put {w W:World} {m:List UInt8} {y x bs:Nat} (h:SnW w m y x bs W) (hx:x < 16):SnW w m y (x+1) bs (W.setCell ⟨bs,x,none⟩ (.int .u8 (g16 m ((y+gb m 169) % 16) ((x+gb m 168) % 16)))):=by
 have hf:=h.far
 refine ⟨Bl.set h.low (by omega) _,h.r.far (by omega) _,h.g.far (by omega) _,?_,hf⟩
 have:=h.s.set x (.int .u8 (gd m y x)) (by rw [row16_len];exact hx)
 rw [row16_set _ _ _ hx] at this
 rwa [row16_congr (g:=fun i=>if i < x+1 then gd m y i else 0) (fun i hi=>?_)] at this
 by_cases e:i=x
 ·subst e;simp
 ·simp only [if_neg e]
  by_cases hlt:i < x
  ·rw [if_pos hlt,if_pos (by omega)]
  ·rw [if_neg hlt,if_neg (by omega)]
theorem ground_any (m:List UInt8) (v:Value) (g o c:Nat) (y:Nat) (w:World) (h:Mm w m v g o c) (hy:y < 8) :
 Calls Tryz.prog 169 #[v,.int .i64 y] w fun e w'=>e = .returned (.agg (row16 (gd m y)).toArray)/\Below w.heap.size w w':=by
 have H:=hid h
 obtain ⟨rfl,hl,hz,hc⟩:=h
 have h1:=hc 169 (by omega)
 have hb:=gb_lt m 169
 obtain ⟨Y,hY⟩:∃ Y,Y=(y+gb m 169) % 16:=⟨_,rfl⟩
 have eY:((y:Int)+(gb m 169:Nat)) % 16=(Y:Int):=by omega
 have HY:=hid hY
 have HE:=hid eY
 have hYl:Y < 16:=by omega
 clear hc eY
 go_enter Tryz.func169,Tryz.ntmps169
 go_wp2
 rw [HE.out]
 clear hY hb h1 hl
 go_loopw [18] (fun i wr=>∃ n:Nat,n<=4/\i = .int .i64 n/\GdW w m Y n wr) (fun i _=>4 - (intOf i).toNat)
 case atStart=>exact ⟨0,Nat.zero_le _,rfl,stA (stA (st0 w) _) _,(Bx.new w (row16 fun _=>0) _ rfl).over _,Bx.new _ (row16 fun _=>0) _ (by simp)⟩
 case round =>
  obtain ⟨n,hn,rfl,hG⟩:=hrel
  have HG:=hid hG
  have HM:=hid (H.out.kept hG.low)
  clear hG
  by_cases h4:n < 4
  ·have h4':(n:Int) < 4:=by omega
   have hc:=HM.out.c (Y / 4 * 4+n) (by omega)
   have hcl:=gb_lt m (Y / 4 * 4+n)
   have ym:Y % 4 < 4:=Nat.mod_lt _ (by decide)
   go_wp2_with (first
    | (go_at_call 200;refine (rowOf_any m _ g o c (gb m (Y / 4 * 4+n)) (Y % 4) _ HM.out hcl ym).mono ?_;rintro e w1 ⟨rfl,hb1⟩))
   obtain ⟨W2,hcp,hG2⟩:∃ W2,(Builtin.copy_ #[26,26] 3 #[.slice (some ⟨w.heap.size+1,4 * n,none⟩) (16 - 4 * n) (16 - 4 * n),.slice (some ⟨w1.heap.size,0,none⟩) 4 4]).run Tryz.prog (w1.alloc (.cells #[.int .u8 (td m (gb m (Y / 4 * 4+n)) 0 (Y % 4)),.int .u8 (td m (gb m (Y / 4 * 4+n)) 1 (Y % 4)),.int .u8 (td m (gb m (Y / 4 * 4+n)) 2 (Y % 4)),.int .u8 (td m (gb m (Y / 4 * 4+n)) 3 (Y % 4))] 250)).drew = .ok (.int .i64 4) W2/\GdW w m Y (n+1) W2 :=
    ⟨_,run_copyB ((HG.out.kept hb1).over _).drew.g (Bx.new w1 [.int .u8 (td m (gb m (Y / 4 * 4+n)) 0 (Y % 4)),.int .u8 (td m (gb m (Y / 4 * 4+n)) 1 (Y % 4)),.int .u8 (td m (gb m (Y / 4 * 4+n)) 2 (Y % 4)),.int .u8 (td m (gb m (Y / 4 * 4+n)) 3 (Y % 4))] 250 rfl).drew (4 * n) _ _ _ _ _ rfl (by rw [row16_len];simp;omega) (by simp;omega) (by simp [Value.oneCell']),((HG.out.kept hb1).over _).drew.put h4⟩
   have HG2:=hid hG2
   clear hG2
   have q0:(0:Int)<=(n:Int) * 4:=by omega
   have q1:(n:Int) * 4<=16:=by omega
   have q2:((n:Int) * 4).toNat=4 * n:=by omega
   have q3:IntKind.i64.wrap ((n:Int) * 4)=(n:Int) * 4:=by rw [IntKind.wrap_i64];omega
   have q4:¬ (16=4 * n):=by omega
   go_region
   go_wp2
   exact ⟨⟨n+1,h4,by go_num,HG2.out⟩,by simp [intOf];omega⟩
  ·have h9:¬ (n:Int) < 4:=by omega
   have e4:n=4:=by omega
   subst e4
   have hY:Y=(y+gb m 169) % 16:=HY.out
   have h168:=gb_lt m 168
   have HS0:Hid (SnW w m y 0 wr.heap.size (wr.alloc (.cells (row16 fun _=>0).toArray 56))):=by
    refine ⟨stA HG.out.low _,HG.out.r.over _,?_,Bx.new wr (row16 fun _=>0) _ rfl,HG.out.g.z⟩
    have:=HG.out.g.over (.cells (row16 fun _=>0).toArray 56)
    rw [hY] at this
    rwa [row16_congr (fun X hX=>if_pos (show X < 4 * 4 by omega))] at this
   clear h4 hn h9 hY
   go_wp2
   go_loopw [39] (fun i W=>∃ x:Nat,x<=16/\i = .int .i64 x/\SnW w m y x wr.heap.size W) (fun i _=>16 - (intOf i).toNat)
   case atStart=>exact ⟨0,Nat.zero_le _,rfl,HS0.out⟩
   case round =>
    obtain ⟨x,hx,rfl,hS⟩:=hrel
    have HS:=hid hS
    clear hS HS0
    by_cases h16:x < 16
    ·have h16':(x:Int) < 16:=by omega
     have c0:=(H.out.kept HS.out.low).c 168 (by omega)
     have c1:=HS.out.g.at ((x+gb m 168) % 16) _ (row16_at _ (Nat.mod_lt _ (by decide)))
     have c2:=HS.out.s.at x _ (row16_at _ h16)
     have f2:=HS.out.s.f x
     go_wp2
     exact ⟨⟨x+1,h16,by go_num,HS.out.put h16⟩,by simp [intOf];omega⟩
    ·have h17:¬ (x:Int) < 16:=by omega
     have e16:x=16:=by omega
     subst e16
     have hs:=HS.out.s
     rw [row16_congr (fun X hX=>if_pos hX)] at hs
     have HSS:=hid hs
     clear hs
     go_wp2_with (first
      | (refine ld16 rfl _ rfl _ _ rfl HSS.out ?_)
      | (refine st16 rfl _ _ rfl w.heap.size (gd m y) _ rfl rfl HS.out.r ?_;rintro w' hw' hB';have HB':=hid hB';have HW':=hid hw';clear hB' hw'))
     have hl:=lv16 HB'.out
     refine bodyPost_ret (v:=.agg (row16 (gd m y)).toArray) ?_ rfl ⟨rfl,?_⟩
     ·simp only [results,Tryz.results169]
      simp
      exact hl
     ·rw [HW'.out];exact Bl.puts HS.out.low (Nat.le_refl _) _
theorem idx16_0 (f:Nat->Nat) (w:World):(Instr.index 56 (.agg (row16 f).toArray) (.int .i64 0)).run Tryz.prog w = .ok (.int .u8 (f 0)) w:=by kernel_rfl
theorem idx16_1 (f:Nat->Nat) (w:World):(Instr.index 56 (.agg (row16 f).toArray) (.int .i64 1)).run Tryz.prog w = .ok (.int .u8 (f 1)) w:=by kernel_rfl
theorem idx16_2 (f:Nat->Nat) (w:World):(Instr.index 56 (.agg (row16 f).toArray) (.int .i64 2)).run Tryz.prog w = .ok (.int .u8 (f 2)) w:=by kernel_rfl
theorem idx16_3 (f:Nat->Nat) (w:World):(Instr.index 56 (.agg (row16 f).toArray) (.int .i64 3)).run Tryz.prog w = .ok (.int .u8 (f 3)) w:=by kernel_rfl
theorem idx16_4 (f:Nat->Nat) (w:World):(Instr.index 56 (.agg (row16 f).toArray) (.int .i64 4)).run Tryz.prog w = .ok (.int .u8 (f 4)) w:=by kernel_rfl
theorem idx16_5 (f:Nat->Nat) (w:World):(Instr.index 56 (.agg (row16 f).toArray) (.int .i64 5)).run Tryz.prog w = .ok (.int .u8 (f 5)) w:=by kernel_rfl
theorem idx16_6 (f:Nat->Nat) (w:World):(Instr.index 56 (.agg (row16 f).toArray) (.int .i64 6)).run Tryz.prog w = .ok (.int .u8 (f 6)) w:=by kernel_rfl
theorem idx16_7 (f:Nat->Nat) (w:World):(Instr.index 56 (.agg (row16 f).toArray) (.int .i64 7)).run Tryz.prog w = .ok (.int .u8 (f 7)) w:=by kernel_rfl
theorem idx16_8 (f:Nat->Nat) (w:World):(Instr.index 56 (.agg (row16 f).toArray) (.int .i64 8)).run Tryz.prog w = .ok (.int .u8 (f 8)) w:=by kernel_rfl
theorem idx16_9 (f:Nat->Nat) (w:World):(Instr.index 56 (.agg (row16 f).toArray) (.int .i64 9)).run Tryz.prog w = .ok (.int .u8 (f 9)) w:=by kernel_rfl
theorem idx16_10 (f:Nat->Nat) (w:World):(Instr.index 56 (.agg (row16 f).toArray) (.int .i64 10)).run Tryz.prog w = .ok (.int .u8 (f 10)) w:=by kernel_rfl
theorem idx16_11 (f:Nat->Nat) (w:World):(Instr.index 56 (.agg (row16 f).toArray) (.int .i64 11)).run Tryz.prog w = .ok (.int .u8 (f 11)) w:=by kernel_rfl
theorem idx16_12 (f:Nat->Nat) (w:World):(Instr.index 56 (.agg (row16 f).toArray) (.int .i64 12)).run Tryz.prog w = .ok (.int .u8 (f 12)) w:=by kernel_rfl
theorem idx16_13 (f:Nat->Nat) (w:World):(Instr.index 56 (.agg (row16 f).toArray) (.int .i64 13)).run Tryz.prog w = .ok (.int .u8 (f 13)) w:=by kernel_rfl
theorem idx16_14 (f:Nat->Nat) (w:World):(Instr.index 56 (.agg (row16 f).toArray) (.int .i64 14)).run Tryz.prog w = .ok (.int .u8 (f 14)) w:=by kernel_rfl
theorem idx16_15 (f:Nat->Nat) (w:World):(Instr.index 56 (.agg (row16 f).toArray) (.int .i64 15)).run Tryz.prog w = .ok (.int .u8 (f 15)) w:=by kernel_rfl
theorem idx16 (f:Nat->Nat) (x:Nat) (h:x < 16) (w:World):(Instr.index 56 (.agg (row16 f).toArray) (.int .i64 (x:Nat))).run Tryz.prog w = .ok (.int .u8 (f x)) w:=by
 have hx:x=0 \/ x=1 \/ x=2 \/ x=3 \/ x=4 \/ x=5 \/ x=6 \/ x=7 \/ x=8 \/ x=9 \/ x=10 \/ x=11 \/ x=12 \/ x=13 \/ x=14 \/ x=15:=by omega
 rcases hx with rfl | rfl | rfl | rfl | rfl | rfl | rfl | rfl | rfl | rfl | rfl | rfl | rfl | rfl | rfl | rfl
 ·exact idx16_0 f w
 ·exact idx16_1 f w
 ·exact idx16_2 f w
 ·exact idx16_3 f w
 ·exact idx16_4 f w
 ·exact idx16_5 f w
 ·exact idx16_6 f w
 ·exact idx16_7 f w
 ·exact idx16_8 f w
 ·exact idx16_9 f w
 ·exact idx16_10 f w
 ·exact idx16_11 f w
 ·exact idx16_12 f w
 ·exact idx16_13 f w
 ·exact idx16_14 f w
 ·exact idx16_15 f w
theorem idx4_0 (f:Nat->Nat) (w:World):(Instr.index 250 (.agg #[.int .u8 (f 0),.int .u8 (f 1),.int .u8 (f 2),.int .u8 (f 3)]) (.int .i64 0)).run Tryz.prog w = .ok (.int .u8 (f 0)) w:=by kernel_rfl
theorem idx4_1 (f:Nat->Nat) (w:World):(Instr.index 250 (.agg #[.int .u8 (f 0),.int .u8 (f 1),.int .u8 (f 2),.int .u8 (f 3)]) (.int .i64 1)).run Tryz.prog w = .ok (.int .u8 (f 1)) w:=by kernel_rfl
theorem idx4_2 (f:Nat->Nat) (w:World):(Instr.index 250 (.agg #[.int .u8 (f 0),.int .u8 (f 1),.int .u8 (f 2),.int .u8 (f 3)]) (.int .i64 2)).run Tryz.prog w = .ok (.int .u8 (f 2)) w:=by kernel_rfl
theorem idx4_3 (f:Nat->Nat) (w:World):(Instr.index 250 (.agg #[.int .u8 (f 0),.int .u8 (f 1),.int .u8 (f 2),.int .u8 (f 3)]) (.int .i64 3)).run Tryz.prog w = .ok (.int .u8 (f 3)) w:=by kernel_rfl
theorem idx4 (f:Nat->Nat) (x:Nat) (h:x < 4) (w:World):(Instr.index 250 (.agg #[.int .u8 (f 0),.int .u8 (f 1),.int .u8 (f 2),.int .u8 (f 3)]) (.int .i64 (x:Nat))).run Tryz.prog w = .ok (.int .u8 (f x)) w:=by
 have hx:x=0 \/ x=1 \/ x=2 \/ x=3:=by omega
 rcases hx with rfl | rfl | rfl | rfl
 ·exact idx4_0 f w
 ·exact idx4_1 f w
 ·exact idx4_2 f w
 ·exact idx4_3 f w
structure P0W (w : World) (m : List UInt8) (y bg bo : Nat) (fo : Nat -> Nat) (W : World) : Prop where
 low:Below w.heap.size w W
 r:Bx W w.heap.size (row16 fun _=>0)
 g:Bx W bg (row16 (gd m y))
 o:Bx W bo (row16 fo)
 d1:w.heap.size < bg
 d2:bg < bo
structure PxW (w : World) (m : List UInt8) (y bg bo bt : Nat) (fo : Nat -> Nat) (ft : Nat -> Bool) (W : World) : Prop extends P0W w m y bg bo fo W where
 t:Bx W bt (brow16 ft)
 d3:bo < bt
section
variable {w W w1 : World} {m : List UInt8} {y bg bo bt : Nat} {fo fo' : Nat -> Nat} {ft ft' : Nat -> Bool}
theorem P0W.kept (h:P0W w m y bg bo fo W) (hb:Below W.heap.size W w1):P0W w m y bg bo fo w1:=⟨stp h.low hb,h.r.kept hb,h.g.kept hb,h.o.kept hb,h.d1,h.d2⟩
theorem P0W.over (h:P0W w m y bg bo fo W) (o:Obj):P0W w m y bg bo fo (W.alloc o):=h.kept (stA (st0 W) o)
theorem P0W.congr (h:P0W w m y bg bo fo W) (e:∀ x,x < 16->fo x=fo' x):P0W w m y bg bo fo' W:=⟨h.low,h.r,h.g,row16_congr e ▸ h.o,h.d1,h.d2⟩
theorem P0W.put (h:P0W w m y bg bo fo W) (x n:Nat) (hx:x < 16):P0W w m y bg bo (fun i=>if i=x then n else fo i) (W.setCell ⟨bo,x,none⟩ (.int .u8 n)):=by
 have h1:=h.d1
 have h2:=h.d2
 exact ⟨Bl.set h.low (by omega) _,h.r.far (by omega) _,h.g.far (by omega) _,row16_set fo x n hx ▸ h.o.set x (.int .u8 n) (by rw [row16_len];exact hx),h1,h2⟩
theorem PxW.kept (h:PxW w m y bg bo bt fo ft W) (hb:Below W.heap.size W w1):PxW w m y bg bo bt fo ft w1:=⟨h.toP0W.kept hb,h.t.kept hb,h.d3⟩
theorem PxW.over (h:PxW w m y bg bo bt fo ft W) (o:Obj):PxW w m y bg bo bt fo ft (W.alloc o):=h.kept (stA (st0 W) o)
theorem PxW.congr (h:PxW w m y bg bo bt fo ft W) (e:∀ x,x < 16->fo x=fo' x) (e':∀ x,x < 16->ft x=ft' x):PxW w m y bg bo bt fo' ft' W:=⟨h.toP0W.congr e,brow16_congr e' ▸ h.t,h.d3⟩
theorem PxW.take (h:PxW w m y bg bo bt fo ft W) (x:Nat) (hx:x < 16):PxW w m y bg bo bt fo (fun i=>if i=x then true else ft i) (W.setCell ⟨bt,x,none⟩ (.bool true)):=by
 have h1:=h.d1
 have h2:=h.d2
 have h3:=h.d3
 exact ⟨⟨Bl.set h.low (by omega) _,h.r.far (by omega) _,h.g.far (by omega) _,h.o.far (by omega) _,h1,h2⟩,brow16_set ft x true hx ▸ h.t.set x (.bool true) (by rw [brow16_len];exact hx),h3⟩
theorem PxW.put (h:PxW w m y bg bo bt fo ft W) (x n:Nat) (hx:x < 16):PxW w m y bg bo bt (fun i=>if i=x then n else fo i) ft (W.setCell ⟨bo,x,none⟩ (.int .u8 n)):=by
 have h3:=h.d3
 exact ⟨h.toP0W.put x n hx,h.t.far (by omega) _,h3⟩
end
def mxN (m:List UInt8) (y:Nat) (ks:List Nat) (k i x:Nat):Nat:=if clS m k<=x/\x < clS m k+i then pxL m y (ks++[k]) x else pxL m y ks x
def mxB (m:List UInt8) (y:Nat) (ks:List Nat) (k i x:Nat):Bool:=if clS m k<=x/\x < clS m k+i then tkL m y (ks++[k]) x else tkL m y ks x
section
variable {m : List UInt8} {y : Nat} {ks : List Nat} {k i : Nat}
theorem mxN_zero (x:Nat):mxN m y ks k 0 x=pxL m y ks x:=by unfold mxN;rw [if_neg (by omega)]
theorem mxB_zero (x:Nat):mxB m y ks k 0 x=tkL m y ks x:=by unfold mxB;rw [if_neg (by omega)]
theorem sx_at (hi:i < 4):sxS m y k (clS m k+i)=sdS m y k i:=by
 unfold sxS
 rw [if_pos (by omega),show clS m k+i - clS m k=i by omega]
theorem sx_far {x:Nat} (h:¬ (clS m k<=x/\x < clS m k+4)):sxS m y k x=0:=by unfold sxS;rw [if_neg h]
theorem mxN_four (x:Nat):mxN m y ks k 4 x=pxL m y (ks++[k]) x:=by
 unfold mxN
 split
 ·rfl
 ·rename_i h
  exact (pxL_snoc_none (sx_far h)).symm
theorem mxB_four (x:Nat):mxB m y ks k 4 x=tkL m y (ks++[k]) x:=by
 unfold mxB
 split
 ·rfl
 ·rename_i h
  rw [tkL_snoc,sx_far h];simp
theorem mxN_succ (x:Nat):mxN m y ks k (i+1) x=if x=clS m k+i then pxL m y (ks++[k]) x else mxN m y ks k i x:=by
 unfold mxN
 by_cases e:x=clS m k+i
 ·rw [if_pos e,if_pos (by omega)]
 ·rw [if_neg e]
  by_cases h:clS m k<=x/\x < clS m k+i
  ·rw [if_pos h,if_pos (by omega)]
  ·rw [if_neg h,if_neg (by omega)]
theorem mxB_succ (x:Nat):mxB m y ks k (i+1) x=if x=clS m k+i then tkL m y (ks++[k]) x else mxB m y ks k i x:=by
 unfold mxB
 by_cases e:x=clS m k+i
 ·rw [if_pos e,if_pos (by omega)]
 ·rw [if_neg e]
  by_cases h:clS m k<=x/\x < clS m k+i
  ·rw [if_pos h,if_pos (by omega)]
  ·rw [if_neg h,if_neg (by omega)]
theorem mxN_at:mxN m y ks k i (clS m k+i)=pxL m y ks (clS m k+i):=by unfold mxN;rw [if_neg (by omega)]
theorem mxB_at:mxB m y ks k i (clS m k+i)=tkL m y ks (clS m k+i):=by unfold mxB;rw [if_neg (by omega)]
theorem mx_right (h:16<=clS m k+i):(∀ x,x < 16->mxN m y ks k i x=mxN m y ks k (i+1) x)/\(∀ x,x < 16->mxB m y ks k i x=mxB m y ks k (i+1) x) :=
 ⟨fun x hx=>by rw [mxN_succ,if_neg (by omega)],fun x hx=>by rw [mxB_succ,if_neg (by omega)]⟩
theorem mx_none (hi:i < 4) (h:sdS m y k i=0):(∀ x,x < 16->mxN m y ks k i x=mxN m y ks k (i+1) x)/\(∀ x,x < 16->mxB m y ks k i x=mxB m y ks k (i+1) x):=by
 have h0:sxS m y k (clS m k+i)=0:=by rw [sx_at hi];exact h
 refine ⟨fun x hx=>?_,fun x hx=>?_⟩
 ·rw [mxN_succ]
  by_cases e:x=clS m k+i
  ·rw [if_pos e,e,mxN_at,pxL_snoc_none h0]
  ·rw [if_neg e]
 ·rw [mxB_succ]
  by_cases e:x=clS m k+i
  ·rw [if_pos e,e,mxB_at,tkL_snoc,h0];simp
  ·rw [if_neg e]
theorem mx_taken (h:tkL m y ks (clS m k+i)=true):(∀ x,x < 16->mxN m y ks k i x=mxN m y ks k (i+1) x)/\(∀ x,x < 16->mxB m y ks k i x=mxB m y ks k (i+1) x):=by
 refine ⟨fun x hx=>?_,fun x hx=>?_⟩
 ·rw [mxN_succ]
  by_cases e:x=clS m k+i
  ·rw [if_pos e,e,mxN_at,pxL_snoc_taken h]
  ·rw [if_neg e]
 ·rw [mxB_succ]
  by_cases e:x=clS m k+i
  ·rw [if_pos e,e,mxB_at,tkL_snoc,h];simp
  ·rw [if_neg e]
theorem mx_hidden (hi:i < 4) (h:sdS m y k i ≠ 0) (ht:tkL m y ks (clS m k+i)=false) (hb:128<=hwS m k) (hg:gd m y (clS m k+i) ≠ 0):(∀ x,x < 16->mxN m y ks k i x=mxN m y ks k (i+1) x)/\(∀ x,x < 16->(if x=clS m k+i then true else mxB m y ks k i x)=mxB m y ks k (i+1) x):=by
 have h0:sxS m y k (clS m k+i) ≠ 0:=by rw [sx_at hi];exact h
 refine ⟨fun x hx=>?_,fun x hx=>?_⟩
 ·rw [mxN_succ]
  by_cases e:x=clS m k+i
  ·rw [if_pos e,e,mxN_at,pxL_snoc_new ht h0,if_pos ⟨hb,hg⟩]
  ·rw [if_neg e]
 ·rw [mxB_succ]
  by_cases e:x=clS m k+i
  ·rw [if_pos e,if_pos e,e,tkL_snoc];simp [h0]
  ·rw [if_neg e,if_neg e]
theorem mx_seen (hi:i < 4) (h:sdS m y k i ≠ 0) (ht:tkL m y ks (clS m k+i)=false) (hb:¬ (128<=hwS m k/\gd m y (clS m k+i) ≠ 0)):(∀ x,x < 16->(if x=clS m k+i then gb m (164+sdS m y k i) else mxN m y ks k i x)=mxN m y ks k (i+1) x)/\(∀ x,x < 16->(if x=clS m k+i then true else mxB m y ks k i x)=mxB m y ks k (i+1) x):=by
 have h0:sxS m y k (clS m k+i) ≠ 0:=by rw [sx_at hi];exact h
 refine ⟨fun x hx=>?_,fun x hx=>?_⟩
 ·rw [mxN_succ]
  by_cases e:x=clS m k+i
  ·rw [if_pos e,if_pos e,e,pxL_snoc_new ht h0,if_neg hb,sx_at hi]
  ·rw [if_neg e,if_neg e]
 ·rw [mxB_succ]
  by_cases e:x=clS m k+i
  ·rw [if_pos e,if_pos e,e,tkL_snoc];simp [h0]
  ·rw [if_neg e,if_neg e]
end
structure Lst (W : World) (gl : Nat) (ks : List Nat) : Prop where
 z:gl < W.heap.size
 c:∀ j k,ks[j]? = some k->W.cell? ⟨gl,j,none⟩=some (.int .i64 (k:Nat))
theorem Lst.kept {W w1:World} {gl:Nat} {ks:List Nat} (h:Lst W gl ks) (hb:Below W.heap.size W w1):Lst w1 gl ks:=⟨Nat.lt_of_lt_of_le h.z hb.size,fun j k hj=>(hb.cell (p:=⟨gl,j,none⟩) h.z).trans (h.c j k hj)⟩
theorem Lst.far {W:World} {gl:Nat} {ks:List Nat} (h:Lst W gl ks) {b o:Nat} (hne:b ≠ gl) (v:Value):Lst (W.setCell ⟨b,o,none⟩ v) gl ks:=⟨by simpa using h.z,fun j k hj=>(World.cell?_setCell_far W _ _ v hne).trans (h.c j k hj)⟩
theorem Lst.of {W:World} {B:Nat} {v:Value} {ks:List Nat} (h:W.ownsRow B 3 1 v ks.length (ics ks)) (h0:ks ≠ []):∃ gl c,v = .slice (some ⟨gl,0,none⟩) ks.length c/\B<=gl/\Lst W gl ks:=by
 rcases h.2 with ⟨rfl,h2⟩ | ⟨g,cap,cur,rfl,hb,hg,hn,hm,hs,ht⟩
 ·exact absurd (List.length_eq_zero_iff.1 h2) h0
 ·refine ⟨g,cap,rfl,hb,(Array.getElem?_eq_some_iff.1 hg).1,fun j k hj=>?_⟩
  have hjl:=(List.getElem?_eq_some_iff.1 hj).1
  rw [Lib.cell_of_heap hg j]
  have e:cur[j]? = (cur.toList.take (ks.length * 1))[j]?:=by rw [List.getElem?_take,if_pos (by omega)];simp
  rw [e,ht,ics,List.getElem?_map,hj]
  rfl
theorem P0W.init {w w1 w2:World} {m:List UInt8} {y:Nat} {t:TypeId} (hb1:Below (w.alloc (.cells (row16 fun _=>0).toArray t)).heap.size (w.alloc (.cells (row16 fun _=>0).toArray t)) w1)
 (hw2:w2=(w1.alloc (.cells (row16 fun _=>0).toArray t)).setCells w1.heap.size 0 (row16 (gd m y))) (hB:Bx w2 w1.heap.size (row16 (gd m y))) :
 P0W w m y w1.heap.size w2.heap.size (fun i=>if i < 0 then gb m (160+gd m y i) else 0) (w2.alloc (.cells (row16 fun _=>0).toArray t)):=by
 have hs:w.heap.size < w1.heap.size:=Nat.lt_of_lt_of_le (by simp) hb1.size
 refine ⟨stA ?_ _,Bx.over ?_ _,hB.over _,?_,hs,hB.z⟩
 ·rw [hw2];exact Bl.puts (stA (stp (stA (st0 w) _) hb1) _) (by omega) _
 ·rw [hw2];exact (((Bx.new w (row16 fun _=>0) t rfl).kept hb1).over _).fars (by omega) _ _
 ·exact Bx.new w2 (row16 fun _=>0) t rfl
theorem P0W.step {w W:World} {m:List UInt8} {y bg bo x:Nat} (h:P0W w m y bg bo (fun i=>if i < x then gb m (160+gd m y i) else 0) W) (hx:x < 16):P0W w m y bg bo (fun i=>if i < x+1 then gb m (160+gd m y i) else 0) (W.setCell ⟨bo,x,none⟩ (.int .u8 (gb m (160+gd m y x)))):=by
 refine (h.put x _ hx).congr fun i hi=>?_
 by_cases e:i=x
 ·subst e;simp
 ·simp only [if_neg e]
  by_cases hlt:i < x
  ·rw [if_pos hlt,if_pos (by omega)]
  ·rw [if_neg hlt,if_neg (by omega)]
structure InW (w : World) (m : List UInt8) (y bg bo bt gl bs : Nat) (ks pre : List Nat) (k i : Nat) (W : World) : Prop extends PxW w m y bg bo bt (mxN m y pre k i) (mxB m y pre k i) W where
 s:Bx W bs (scS m k)
 d4:bt < bs
 l:Lst W gl ks
 d5:bt < gl
section
variable {w W w1 : World} {m : List UInt8} {y bg bo bt gl bs : Nat} {ks pre : List Nat} {k i : Nat}
theorem InW.same (h:InW w m y bg bo bt gl bs ks pre k i W) (e:(∀ x,x < 16->mxN m y pre k i x=mxN m y pre k (i+1) x)/\(∀ x,x < 16->mxB m y pre k i x=mxB m y pre k (i+1) x)):InW w m y bg bo bt gl bs ks pre k (i+1) W :=
 ⟨h.toPxW.congr e.1 e.2,h.s,h.d4,h.l,h.d5⟩
theorem InW.hid (h:InW w m y bg bo bt gl bs ks pre k i W) (hx:clS m k+i < 16) (e:(∀ x,x < 16->mxN m y pre k i x=mxN m y pre k (i+1) x)/\(∀ x,x < 16->(if x=clS m k+i then true else mxB m y pre k i x)=mxB m y pre k (i+1) x)):InW w m y bg bo bt gl bs ks pre k (i+1) (W.setCell ⟨bt,clS m k+i,none⟩ (.bool true)):=by
 have h4:=h.d4
 have h5:=h.d5
 exact ⟨(h.toPxW.take _ hx).congr e.1 e.2,h.s.far (by omega) _,h4,h.l.far (by omega) _,h5⟩
theorem InW.seen (h:InW w m y bg bo bt gl bs ks pre k i W) (hx:clS m k+i < 16) (e:(∀ x,x < 16->(if x=clS m k+i then gb m (164+sdS m y k i) else mxN m y pre k i x)=mxN m y pre k (i+1) x)/\(∀ x,x < 16->(if x=clS m k+i then true else mxB m y pre k i x)=mxB m y pre k (i+1) x)):InW w m y bg bo bt gl bs ks pre k (i+1) ((W.setCell ⟨bt,clS m k+i,none⟩ (.bool true)).setCell ⟨bo,clS m k+i,none⟩ (.int .u8 (gb m (164+sdS m y k i)))):=by
 have h3:=h.d3
 have h4:=h.d4
 have h5:=h.d5
 exact ⟨((h.toPxW.take _ hx).put _ _ hx).congr e.1 e.2,(h.s.far (by omega) _).far (by omega) _,h4,(h.l.far (by omega) _).far (by omega) _,h5⟩
end
theorem pixels_any (m:List UInt8) (v:Value) (g o c:Nat) (y:Nat) (w:World) (h:Mm w m v g o c) (hy:y < 8) :
 Calls Tryz.prog 140 #[v,.int .i64 y] w fun e w'=>e = .returned (.agg (row16 (px m y)).toArray)/\Below w.heap.size w w':=by
 have H:=hid h
 obtain ⟨rfl,hl,hz,hc⟩:=h
 obtain ⟨ks,hks⟩:∃ ks,ks=(drS m y 8).take 2:=⟨_,rfl⟩
 have HKs:Hid (∀ k ∈ ks,k < 8/\onS m y k=true):=fun k hk=>by rw [hks] at hk;exact ⟨drS_lt (List.mem_of_mem_take hk),drS_on (List.mem_of_mem_take hk)⟩
 have HPx:px m y=pxL m y ks:=by funext x;rw [hks];rfl
 have klen:ks.length<=2:=by rw [hks,List.length_take];omega
 rw [HPx]
 have HKe:=hid hks
 clear hc hks HPx
 go_enter Tryz.func140,Tryz.ntmps140
 go_wp2_with (first
  | (go_at_call 169;refine (ground_any m _ g o c y _ (H.out.kept (stA (st0 w) _)) hy).mono ?_;rintro e w1 ⟨rfl,hb1⟩)
  | (refine st16 rfl _ _ rfl w1.heap.size (gd m y) (fun _=>0) rfl rfl (Bx.new w1 (row16 fun _=>0) _ rfl) ?_;rintro w2 hw2 hB2;have HB2:=hid hB2;have HW2:=hid hw2;clear hB2 hw2)
  | (refine ld16 rfl _ rfl w1.heap.size (gd m y) rfl (HB2.out.over _) ?_))
 have HP0:Hid (P0W w m y w1.heap.size w2.heap.size (fun i=>if i < 0 then gb m (160+gd m y i) else 0) (w2.alloc (.cells (row16 fun _=>0).toArray 56))):=P0W.init hb1 HW2.out HB2.out
 clear hb1 HW2 HB2
 go_loopw [22] (fun i wr=>∃ x:Nat,x<=16/\i = .int .i64 x/\P0W w m y w1.heap.size w2.heap.size (fun i=>if i < x then gb m (160+gd m y i) else 0) wr) (fun i _=>16 - (intOf i).toNat)
 case atStart=>exact ⟨0,Nat.zero_le _,rfl,HP0.out⟩
 case round =>
  clear HP0
  obtain ⟨x,hx,rfl,hP⟩:=hrel
  have HP:=hid hP
  clear hP
  by_cases h16:x < 16
  ·have h16':(x:Int) < 16:=by omega
   have hd:=gd_lt m y x
   have ix:=fun W=>idx16 (gd m y) x h16 W
   have c0:=(H.out.kept HP.out.low).c (160+gd m y x) (by omega)
   have c1:=HP.out.o.at x _ (row16_at _ h16)
   have f1:=HP.out.o.f x
   go_wp2
   exact ⟨⟨x+1,h16,by go_num,HP.out.step h16⟩,by simp [intOf];omega⟩
  ·have h17:¬ (x:Int) < 16:=by omega
   have e16:x=16:=by omega
   subst e16
   clear hx h16 h17
   go_wp2_with (first
    | (go_at_call 170;refine (drawn_any m _ g o c y _ (H.out.kept (stA HP.out.low _)) hy).mono ?_;rw [<- HKe.out];rintro e w4 ⟨s,rfl,hown,hb4⟩;have HOwn:=hid hown;have HB4:=hid hb4;obtain ⟨sa,sc,rfl⟩:=own_len hown;clear hown hb4))
   have HX0:Hid (PxW w m y w1.heap.size w2.heap.size wr.heap.size (pxL m y []) (tkL m y []) w4):=by
    have hb:=(HP.out.over (.cells (brow16 fun _=>false).toArray 242)).congr (fo':=pxL m y []) (fun x hx=>by rw [if_pos hx];rfl)
    exact (⟨hb,Bx.new wr (brow16 fun _=>false) _ rfl,HP.out.o.z⟩:PxW w m y w1.heap.size w2.heap.size wr.heap.size (pxL m y []) (tkL m y []) _).kept HB4.out
   obtain ⟨bt,hbt⟩:∃ bt,bt=wr.heap.size:=⟨_,rfl⟩
   have HBt:=hid hbt
   rw [<- hbt] at HX0
   rw [<- hbt]
   clear HP HB4 hz hl hbt
   by_cases hk0:ks=[]
   ·subst hk0
    go_loopw [43] (fun i W=>i = .int .i64 0/\PxW w m y w1.heap.size w2.heap.size bt (pxL m y []) (tkL m y []) W) (fun _ _=>0)
    case atStart=>exact ⟨rfl,HX0.out⟩
    case round =>
     obtain ⟨rfl,hX⟩:=hrel
     have HX:=hid hX
     clear hX HX0
     go_wp2_with (first
      | (refine ld16 rfl _ rfl _ _ rfl HX.out.o ?_)
      | (refine st16 rfl _ _ rfl w.heap.size (pxL m y []) _ rfl rfl HX.out.r ?_;rintro w' hw' hB';have HB':=hid hB';have HW':=hid hw';clear hB' hw'))
     have hl:=lv16 HB'.out
     refine bodyPost_ret (v:=.agg (row16 (pxL m y [])).toArray) ?_ rfl ⟨rfl,?_⟩
     ·simp only [results,Tryz.results140]
      simp
      exact hl
     ·rw [HW'.out];exact Bl.puts HX.out.low (Nat.le_refl _) _
   ·obtain ⟨gl,lc,hse,hgl,hLst⟩:=Lst.of HOwn.out hk0
    simp only [Value.slice.injEq] at hse
    obtain ⟨rfl,_,rfl⟩:=hse
    have HL0:Hid (bt < gl):=Nat.lt_of_lt_of_le (by rw [HBt.out];simp) hgl
    have HLs:=hid hLst
    clear HOwn hgl hLst hk0
    go_loopw [43] (fun i W=>∃ j:Nat,j<=ks.length/\i = .int .i64 j/\PxW w m y w1.heap.size w2.heap.size bt (pxL m y (ks.take j)) (tkL m y (ks.take j)) W/\Lst W gl ks) (fun i _=>ks.length - (intOf i).toNat)
    case atStart=>exact ⟨0,Nat.zero_le _,rfl,HX0.out,HLs.out⟩
    case round =>
     clear HX0 HLs
     obtain ⟨j,hj,rfl,hX,hL⟩:=hrel
     have HX:=hid hX
     have HL:=hid hL
     clear hX hL
     by_cases hjl:j < ks.length
     ·have hjl':(j:Int) < ks.length:=by omega
      obtain ⟨k,hk⟩:∃ k,ks[j]? = some k:=⟨ks[j],List.getElem?_eq_getElem hjl⟩
      have HK:=hid (HKs.out k (List.mem_of_getElem? hk))
      have hcl:=HL.out.c j k hk
      have HJ:Hid (ks.take (j+1)=ks.take j++[k]):=by rw [List.take_add_one,hk];rfl
      clear hk
      go_wp2_with (first
       | (go_at_call 171;refine (spriteOf_any m _ g o c k _ (H.out.kept HX.out.low) HK.out.1).mono ?_;rintro e w5 ⟨rfl,hb5⟩;have HX5:=hid (HX.out.kept hb5);have HL5:=hid (HL.out.kept hb5);clear hb5)
       | (go_at_call 172;refine (dots_any m _ g o c k y _ (H.out.kept (stA HX5.out.low _)) HK.out.2 hy).mono ?_;rintro e w6 ⟨rfl,hb6⟩;have HB6:=hid hb6;clear hb6))
      have HI0:Hid (InW w m y w1.heap.size w2.heap.size bt gl w5.heap.size ks (ks.take j) k 0 w6) :=
       ⟨((HX5.out.over _).kept HB6.out).congr (fun x _=>(mxN_zero x).symm) (fun x _=>(mxB_zero x).symm),(Bx.new w5 (scS m k) 247 rfl).kept HB6.out,HX5.out.t.z,(HL5.out.kept (stA (st0 w5) _)).kept HB6.out,HL0.out⟩
      clear HX HL HX5 HL5 HB6 hcl
      go_loopw [54] (fun i W=>∃ n:Nat,n<=4/\i = .int .i64 n/\InW w m y w1.heap.size w2.heap.size bt gl w5.heap.size ks (ks.take j) k n W) (fun i _=>4 - (intOf i).toNat)
      case atStart=>exact ⟨0,Nat.zero_le _,rfl,HI0.out⟩
      case round =>
       clear HI0
       obtain ⟨n,hn,rfl,hI⟩:=hrel
       have HI:=hid hI
       clear hI
       by_cases h4:n < 4
       ·have h4':(n:Int) < 4:=by omega
        have ix:=fun W=>idx4 (sdS m y k) n h4 W
        have hcb:clS m k < 256:=gb_lt _ _
        have s1:=HI.out.s.at 1 _ rfl
        by_cases hR:16<=clS m k+n
        ·have hR':(16:Int)<=(clS m k:Int)+n:=by omega
         go_wp2
         exact ⟨⟨n+1,h4,by go_num,HI.out.same (mx_right hR)⟩,by simp [intOf];omega⟩
        ·have hR':¬ (16:Int)<=(clS m k:Int)+n:=by omega
         have hX:clS m k+n < 16:=by omega
         have hsl:=sdS_lt m y k n
         by_cases hd:sdS m y k n=0
         ·have hd':((sdS m y k n:Int) == 0)=true:=by rw [hd];rfl
          have HD:=hid hd
          clear hd
          go_wp2
          exact ⟨⟨n+1,h4,by go_num,HI.out.same (mx_none h4 HD.out)⟩,by simp [intOf];omega⟩
         ·have hd':((sdS m y k n:Int) == 0)=false:=by simp;omega
          have HD:=hid hd
          clear hd
          have ct:=HI.out.t.at (clS m k+n) _ (brow16_at _ hX)
          rw [mxB_at] at ct
          cases ht:tkL m y (ks.take j) (clS m k+n) with
          | true =>
           rw [ht] at ct
           have HT:=hid ht
           clear ht
           go_wp2
           exact ⟨⟨n+1,h4,by go_num,HI.out.same (mx_taken HT.out)⟩,by simp [intOf];omega⟩
          | false =>
           rw [ht] at ct
           have HT:=hid ht
           clear ht
           have ft:=HI.out.t.f (clS m k+n)
           have s5:=(HI.out.s.far (b':=bt) (o':=clS m k+n) (Nat.ne_of_lt HI.out.d4) (.bool true)).at 5 _ rfl
           have cg:=(HI.out.g.far (b':=bt) (o':=clS m k+n) (Nat.ne_of_gt (Nat.lt_trans HI.out.d2 HI.out.d3)) (.bool true)).at _ _ (row16_at _ hX)
           have co:=(HI.out.o.far (b':=bt) (o':=clS m k+n) (Nat.ne_of_gt HI.out.d3) (.bool true)).at _ _ (row16_at _ hX)
           have fo:=(HI.out.o.far (b':=bt) (o':=clS m k+n) (Nat.ne_of_gt HI.out.d3) (.bool true)).f (clS m k+n)
           have cm:=(H.out.kept (HI.out.toPxW.take _ hX).low).c (164+sdS m y k n) (by omega)
           by_cases hbh:128<=hwS m k
           ·rw [decide_eq_true hbh] at s5
            by_cases hg0:gd m y (clS m k+n)=0
            ·have hg':((gd m y (clS m k+n):Int) == 0)=true:=by rw [hg0];rfl
             have HS:=hid (mx_seen h4 HD.out HT.out (fun hh=>hh.2 hg0))
             clear hg0
             go_wp2
             exact ⟨⟨n+1,h4,by go_num,HI.out.seen hX HS.out⟩,by simp [intOf];omega⟩
            ·have hg':((gd m y (clS m k+n):Int) == 0)=false:=by simp;omega
             have HS:=hid (mx_hidden h4 HD.out HT.out hbh hg0)
             clear hg0
             go_wp2
             exact ⟨⟨n+1,h4,by go_num,HI.out.hid hX HS.out⟩,by simp [intOf];omega⟩
           ·rw [decide_eq_false hbh] at s5
            have HS:=hid (mx_seen h4 HD.out HT.out (fun hh=>hbh hh.1))
            go_wp2
            exact ⟨⟨n+1,h4,by go_num,HI.out.seen hX HS.out⟩,by simp [intOf];omega⟩
       ·have h9:¬ (n:Int) < 4:=by omega
        have e4:n=4:=by omega
        subst e4
        clear h4 hn
        go_wp2
        refine ⟨⟨j+1,hjl,by go_num,?_,HI.out.l⟩,by simp [intOf];omega⟩
        rw [HJ.out]
        exact HI.out.toPxW.congr (fun x _=>mxN_four x) (fun x _=>mxB_four x)
     ·have hj9:¬ (j:Int) < ks.length:=by omega
      have ej:ks.take j=ks:=List.take_of_length_le (by omega)
      rw [ej] at HX
      clear ej
      go_wp2_with (first
       | (refine ld16 rfl _ rfl _ _ rfl HX.out.o ?_)
       | (refine st16 rfl _ _ rfl w.heap.size (pxL m y ks) _ rfl rfl HX.out.r ?_;rintro w' hw' hB';have HB':=hid hB';have HW':=hid hw';clear hB' hw'))
      have hl:=lv16 HB'.out
      refine bodyPost_ret (v:=.agg (row16 (pxL m y ks)).toArray) ?_ rfl ⟨rfl,?_⟩
      ·simp only [results,Tryz.results140]
       simp
       exact hl
      ·rw [HW'.out];exact Bl.puts HX.out.low (Nat.le_refl _) _
def ckP (n:Nat) (y:Int):Int:=if n=256 then (if 0<=y/\y < 8 then 0 else 3) else 4
theorem Lncheck_any (a:Option Addr) (n c:Nat) (y:Int) (w:World):Calls Tryz.prog 139 #[.slice a n c,.int .i64 y] w fun e w'=>e = .returned (.int .i64 (ckP n y))/\w=w':=by
 by_cases hn:n=256
 ·by_cases h1:y < 0
  ·have e:ckP n y=3:=by unfold ckP;rw [if_pos hn,if_neg (by omega)]
   rw [e]
   subst hn
   go_enter Tryz.func139,Tryz.ntmps139
   go_wp2
   go_ret
   exact ⟨rfl,rfl⟩
  ·by_cases h2:(8:Int)<=y
   ·have e:ckP n y=3:=by unfold ckP;rw [if_pos hn,if_neg (by omega)]
    rw [e]
    subst hn
    go_enter Tryz.func139,Tryz.ntmps139
    go_wp2
    go_ret
    exact ⟨rfl,rfl⟩
   ·have e:ckP n y=0:=by unfold ckP;rw [if_pos hn,if_pos (by omega)]
    rw [e]
    subst hn
    go_enter Tryz.func139,Tryz.ntmps139
    go_wp2
    go_ret
    exact ⟨rfl,rfl⟩
 ·have e:ckP n y=4:=by unfold ckP;rw [if_neg hn]
  rw [e]
  have hn':((n:Int) != 256)=true:=by simp;omega
  go_enter Tryz.func139,Tryz.ntmps139
  go_wp2
  go_ret
  exact ⟨rfl,rfl⟩
theorem line_ok (m:List UInt8) (v:Value) (g o c:Nat) (y:Nat) (w:World) (h:Mm w m v g o c) (hy:y < 8) :
 Calls Tryz.prog 85 #[v,.int .i64 y] w fun e w'=>e = .returned (.tuple #[.agg (row16 (px m y)).toArray,.int .i64 0])/\Below w.heap.size w w':=by
 have H:=hid h
 obtain ⟨rfl,hl,hz,hc⟩:=h
 have he:ckP 256 y=0:=by unfold ckP;rw [if_pos rfl,if_pos (by omega)]
 have HE:=hid he
 clear hc he
 go_enter Tryz.func85,Tryz.ntmps85
 go_wp2_with (first
  | (go_at_call 139;refine (Lncheck_any _ _ _ _ _).mono ?_;rw [HE.out];rintro e w1 ⟨rfl,rfl⟩)
  | (go_at_call 140;refine (pixels_any m _ g o c y _ (H.out.kept (stA (st0 w) _)) hy).mono ?_;rintro e w2 ⟨rfl,hb2⟩)
  | (refine st16 rfl _ _ rfl w.heap.size (px m y) (fun _=>0) rfl rfl ((Bx.new w (row16 fun _=>0) _ rfl).kept hb2) ?_;rintro w3 hw3 hB3;have HB3:=hid hB3;have HW3:=hid hw3;clear hB3 hw3))
 have hl:=lv16 HB3.out
 refine bodyPost_ret (v:=.tuple #[.agg (row16 (px m y)).toArray,.int .i64 0]) ?_ rfl ⟨rfl,?_⟩
 ·simp only [results,Tryz.results85]
  simp
  show (Result.andThen (Sem.run Tryz.prog (loadVar 56 ⟨w.heap.size,0,none⟩) w3) _)=_
  rw [hl]
  rfl
 ·rw [HW3.out];exact Bl.puts (stp (stA (st0 w) _) hb2) (Nat.le_refl _) _
end Go.Proofs.YtbhpfkjfijdmaaaGreatDoor
