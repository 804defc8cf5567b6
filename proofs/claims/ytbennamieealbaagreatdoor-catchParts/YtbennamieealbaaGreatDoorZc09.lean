/-
  Parts of a proof, joined.
-/
import Derived.Test.YtbennamieealbaaGreatDoorZc08
set_option linter.unusedVariables false
set_option maxRecDepth 100000
set_option maxHeartbeats 1600000
namespace Go.Proofs.YtbennamieealbaaGreatDoor
open Go.ChangeShapes Go.WideShapes Go.ChangeAt Go.RowKit
theorem zp9 (a b:Int) (w:World) (ha:0<=a) (ha':a<=65535) (hb:0<=b) (hb':b<=65535) :
 Calls Tryz.prog 319 #[.int .i64 7,.int .u16 a,.int .u16 b] w λe w'=>e = .returned (.tuple #[.int .u16 (M.addN a b),.bool (M.addN a b == 0),.bool (decide (32768<=M.addN a b)),.bool (M.addC a b),.bool (M.addV a b),.int .i64 0])/\Below w.heap.size w w':=by
 have ht:=M.top_of (M.addN a b) (M.addN_bd a b).1 (M.addN_bd a b).2
 rw [<- ht]
 clear ht
 go_enter Tryz.func319,Tryz.ntmps319
 go_wp2_with (first
  | (go_at_call 331;refine (zaL _).mono ?_;rintro e w1 ⟨bb,c9,c10,c11,rfl,hm,h9,h10,h11,hg⟩;have hl:=za5 zaH Tryz.underlying3 hm 7 _ (zb1 w1);simp [table,fnV,cloV] at hl)
  | (go_at_call 335;refine (zkQ _ _ _ ha ha' hb hb').mono ?_;rintro e w' ⟨rfl,rfl⟩))
 exact bodyPost_ret (v:=.tuple #[.int .u16 (M.addN a b),.bool (M.addN a b == 0),.bool (bits .and .u16 (M.addN a b) 32768 != 0),.bool (M.addC a b),.bool (M.addV a b),.int .i64 0]) (by simp [results,Tryz.results319,go_sem]) rfl ⟨rfl,hg⟩
theorem znM (a b:Int) (w:World) (ha:0<=a) (ha':a<=65535) (hb:0<=b) (hb':b<=65535) :
 Calls Tryz.prog 319 #[.int .i64 15,.int .u16 a,.int .u16 b] w λe w'=>e = .returned (.tuple #[.int .u16 (M.addN a b),.bool (M.addN a b == 0),.bool (decide (32768<=M.addN a b)),.bool (M.addC a b),.bool (M.addV a b),.int .i64 0])/\Below w.heap.size w w':=by
 have ht:=M.top_of (M.addN a b) (M.addN_bd a b).1 (M.addN_bd a b).2
 rw [<- ht]
 clear ht
 go_enter Tryz.func319,Tryz.ntmps319
 go_wp2_with (first
  | (go_at_call 331;refine (zaL _).mono ?_;rintro e w1 ⟨bb,c9,c10,c11,rfl,hm,h9,h10,h11,hg⟩;have hl:=za5 zaH Tryz.underlying3 hm 15 _ (zb1 w1);simp [table,fnV,cloV] at hl)
  | (go_at_call 335;refine (zkQ _ _ _ ha ha' hb hb').mono ?_;rintro e w' ⟨rfl,rfl⟩))
 exact bodyPost_ret (v:=.tuple #[.int .u16 (M.addN a b),.bool (M.addN a b == 0),.bool (bits .and .u16 (M.addN a b) 32768 != 0),.bool (M.addC a b),.bool (M.addV a b),.int .i64 0]) (by simp [results,Tryz.results319,go_sem]) rfl ⟨rfl,hg⟩
theorem zqa (a b:Int) (w:World) (ha:0<=a) (ha':a<=65535) (hb:0<=b) (hb':b<=65535) :
 Calls Tryz.prog 319 #[.int .i64 8,.int .u16 a,.int .u16 b] w λe w'=>e = .returned (.tuple #[.int .u16 (M.subN a b),.bool (M.subN a b == 0),.bool (decide (32768<=M.subN a b)),.bool (M.subC a b),.bool (M.subV a b),.int .i64 0])/\Below w.heap.size w w':=by
 have ht:=M.top_of (M.subN a b) (M.subN_bd a b).1 (M.subN_bd a b).2
 rw [<- ht]
 clear ht
 go_enter Tryz.func319,Tryz.ntmps319
 go_wp2_with (first
  | (go_at_call 331;refine (zaL _).mono ?_;rintro e w1 ⟨bb,c9,c10,c11,rfl,hm,h9,h10,h11,hg⟩;have hl:=za5 zaH Tryz.underlying3 hm 8 _ (zb1 w1);simp [table,fnV,cloV] at hl)
  | (go_at_call 336;refine (zkR _ _ _ ha ha' hb hb').mono ?_;rintro e w' ⟨rfl,rfl⟩))
 exact bodyPost_ret (v:=.tuple #[.int .u16 (M.subN a b),.bool (M.subN a b == 0),.bool (bits .and .u16 (M.subN a b) 32768 != 0),.bool (M.subC a b),.bool (M.subV a b),.int .i64 0]) (by simp [results,Tryz.results319,go_sem]) rfl ⟨rfl,hg⟩
theorem znN (a b:Int) (w:World) (ha:0<=a) (ha':a<=65535) (hb:0<=b) (hb':b<=65535) :
 Calls Tryz.prog 319 #[.int .i64 14,.int .u16 a,.int .u16 b] w λe w'=>e = .returned (.tuple #[.int .u16 (M.subN a b),.bool (M.subN a b == 0),.bool (decide (32768<=M.subN a b)),.bool (M.subC a b),.bool (M.subV a b),.int .i64 0])/\Below w.heap.size w w':=by
 have ht:=M.top_of (M.subN a b) (M.subN_bd a b).1 (M.subN_bd a b).2
 rw [<- ht]
 clear ht
 go_enter Tryz.func319,Tryz.ntmps319
 go_wp2_with (first
  | (go_at_call 331;refine (zaL _).mono ?_;rintro e w1 ⟨bb,c9,c10,c11,rfl,hm,h9,h10,h11,hg⟩;have hl:=za5 zaH Tryz.underlying3 hm 14 _ (zb1 w1);simp [table,fnV,cloV] at hl)
  | (go_at_call 336;refine (zkR _ _ _ ha ha' hb hb').mono ?_;rintro e w' ⟨rfl,rfl⟩))
 exact bodyPost_ret (v:=.tuple #[.int .u16 (M.subN a b),.bool (M.subN a b == 0),.bool (bits .and .u16 (M.subN a b) 32768 != 0),.bool (M.subC a b),.bool (M.subV a b),.int .i64 0]) (by simp [results,Tryz.results319,go_sem]) rfl ⟨rfl,hg⟩
theorem zqb (a b:Int) (w:World) (ha:0<=a) (ha':a<=65535) (hb:0<=b) (hb':b<=65535) :
 Calls Tryz.prog 319 #[.int .i64 9,.int .u16 a,.int .u16 b] w λe w'=>e = .returned (.tuple #[.int .u16 (bits .and .u16 a b),.bool (bits .and .u16 a b == 0),.bool (decide (32768<=bits .and .u16 a b)),.bool false,.bool false,.int .i64 0])/\Below w.heap.size w w':=by
 have ht:=M.top_of (bits .and .u16 a b) (M.and_bd a b ha ha' hb hb').1 (M.and_bd a b ha ha' hb hb').2
 rw [<- ht]
 clear ht
 go_enter Tryz.func319,Tryz.ntmps319
 go_wp2_with (first
  | (go_at_call 331;refine (zaL _).mono ?_;rintro e w1 ⟨bb,c9,c10,c11,rfl,hm,h9,h10,h11,hg⟩;have hl:=za5 zaH Tryz.underlying3 hm 9 _ (zb1 w1);simp [table,fnV,cloV] at hl)
  | (go_at_call 348;refine (zp6 _ _ _ _ h9).mono ?_;rintro e w' ⟨rfl,rfl⟩))
 exact bodyPost_ret (v:=.tuple #[.int .u16 (bits .and .u16 a b),.bool (bits .and .u16 a b == 0),.bool (bits .and .u16 (bits .and .u16 a b) 32768 != 0),.bool false,.bool false,.int .i64 0]) (by simp [results,Tryz.results319,go_sem]) rfl ⟨rfl,hg⟩
theorem znO (a b:Int) (w:World) (ha:0<=a) (ha':a<=65535) (hb:0<=b) (hb':b<=65535) :
 Calls Tryz.prog 319 #[.int .i64 10,.int .u16 a,.int .u16 b] w λe w'=>e = .returned (.tuple #[.int .u16 (bits .or .u16 a b),.bool (bits .or .u16 a b == 0),.bool (decide (32768<=bits .or .u16 a b)),.bool false,.bool false,.int .i64 0])/\Below w.heap.size w w':=by
 have ht:=M.top_of (bits .or .u16 a b) (M.or_bd a b ha ha' hb hb').1 (M.or_bd a b ha ha' hb hb').2
 rw [<- ht]
 clear ht
 go_enter Tryz.func319,Tryz.ntmps319
 go_wp2_with (first
  | (go_at_call 331;refine (zaL _).mono ?_;rintro e w1 ⟨bb,c9,c10,c11,rfl,hm,h9,h10,h11,hg⟩;have hl:=za5 zaH Tryz.underlying3 hm 10 _ (zb1 w1);simp [table,fnV,cloV] at hl)
  | (go_at_call 348;refine (zrF _ _ _ _ h10).mono ?_;rintro e w' ⟨rfl,rfl⟩))
 exact bodyPost_ret (v:=.tuple #[.int .u16 (bits .or .u16 a b),.bool (bits .or .u16 a b == 0),.bool (bits .and .u16 (bits .or .u16 a b) 32768 != 0),.bool false,.bool false,.int .i64 0]) (by simp [results,Tryz.results319,go_sem]) rfl ⟨rfl,hg⟩
theorem znP (a b:Int) (w:World) (ha:0<=a) (ha':a<=65535) (hb:0<=b) (hb':b<=65535) :
 Calls Tryz.prog 319 #[.int .i64 11,.int .u16 a,.int .u16 b] w λe w'=>e = .returned (.tuple #[.int .u16 (bits .xor .u16 a b),.bool (bits .xor .u16 a b == 0),.bool (decide (32768<=bits .xor .u16 a b)),.bool false,.bool false,.int .i64 0])/\Below w.heap.size w w':=by
 have ht:=M.top_of (bits .xor .u16 a b) (M.xor_bd a b ha ha' hb hb').1 (M.xor_bd a b ha ha' hb hb').2
 rw [<- ht]
 clear ht
 go_enter Tryz.func319,Tryz.ntmps319
 go_wp2_with (first
  | (go_at_call 331;refine (zaL _).mono ?_;rintro e w1 ⟨bb,c9,c10,c11,rfl,hm,h9,h10,h11,hg⟩;have hl:=za5 zaH Tryz.underlying3 hm 11 _ (zb1 w1);simp [table,fnV,cloV] at hl)
  | (go_at_call 348;refine (zp7 _ _ _ _ h11).mono ?_;rintro e w' ⟨rfl,rfl⟩))
 exact bodyPost_ret (v:=.tuple #[.int .u16 (bits .xor .u16 a b),.bool (bits .xor .u16 a b == 0),.bool (bits .and .u16 (bits .xor .u16 a b) 32768 != 0),.bool false,.bool false,.int .i64 0]) (by simp [results,Tryz.results319,go_sem]) rfl ⟨rfl,hg⟩
theorem znQ (a b:Int) (w:World) (ha:0<=a) (ha':a<=65535) (hb:0<=b) (hb':b<=65535) :
 Calls Tryz.prog 319 #[.int .i64 28,.int .u16 a,.int .u16 b] w λe w'=>e = .returned (.tuple #[.int .u16 (M.mulN a b),.bool (M.mulN a b == 0),.bool (decide (32768<=M.mulN a b)),.bool (M.mulC a b),.bool false,.int .i64 0])/\Below w.heap.size w w':=by
 have ht:=M.top_of (M.mulN a b) (M.mulN_bd a b).1 (M.mulN_bd a b).2
 rw [<- ht]
 clear ht
 go_enter Tryz.func319,Tryz.ntmps319
 go_wp2_with (first
  | (go_at_call 331;refine (zaL _).mono ?_;rintro e w1 ⟨bb,c9,c10,c11,rfl,hm,h9,h10,h11,hg⟩;have hl:=za5 zaH Tryz.underlying3 hm 28 _ (zb1 w1);simp [table,fnV,cloV] at hl)
  | (go_at_call 341;refine (zp8 _ _ _ ha ha' hb hb').mono ?_;rintro e w' ⟨rfl,rfl⟩))
 exact bodyPost_ret (v:=.tuple #[.int .u16 (M.mulN a b),.bool (M.mulN a b == 0),.bool (bits .and .u16 (M.mulN a b) 32768 != 0),.bool (M.mulC a b),.bool false,.int .i64 0]) (by simp [results,Tryz.results319,go_sem]) rfl ⟨rfl,hg⟩
def isFl (k:Nat):Prop:=k=7 \/ k=15 \/ k=8 \/ k=14 \/ k=9 \/ k=10 \/ k=11 \/ k=28
theorem zkU (k:Nat) (hk:isFl k) (a b:Int) (w:World) (ha:0<=a) (ha':a<=65535) (hb:0<=b) (hb':b<=65535) :
 Calls Tryz.prog 319 #[.int .i64 k,.int .u16 a,.int .u16 b] w λe w'=>e = .returned (.tuple #[.int .u16 (C.flN k a b),.bool (C.flN k a b == 0),.bool (decide (32768<=C.flN k a b)),.bool (C.flC k a b),.bool (C.flV k a b),.int .i64 0])/\Below w.heap.size w w':=by
 rcases hk with rfl|rfl|rfl|rfl|rfl|rfl|rfl|rfl
 ·exact zp9 a b w ha ha' hb hb'
 ·exact znM a b w ha ha' hb hb'
 ·exact zqa a b w ha ha' hb hb'
 ·exact znN a b w ha ha' hb hb'
 ·exact zqb a b w ha ha' hb hb'
 ·exact znO a b w ha ha' hb hb'
 ·exact znP a b w ha ha' hb hb'
 ·exact znQ a b w ha ha' hb hb'
theorem zi2 (k:Nat) (hk:isFl k) (a b:Int) (ha:0<=a) (ha':a<=65535) (hb:0<=b) (hb':b<=65535):0<=C.flN k a b/\C.flN k a b<=65535:=by
 rcases hk with rfl|rfl|rfl|rfl|rfl|rfl|rfl|rfl
 ·exact M.addN_bd a b
 ·exact M.addN_bd a b
 ·exact M.subN_bd a b
 ·exact M.subN_bd a b
 ·exact M.and_bd a b ha ha' hb hb'
 ·exact M.or_bd a b ha ha' hb hb'
 ·exact M.xor_bd a b ha ha' hb hb'
 ·exact M.mulN_bd a b
abbrev ordV (k d s:Nat) (n v:Int):Value:=.agg #[.int .i64 k,.int .i64 d,.int .i64 s,.int .i64 n,.int .i64 v]
section
variable {σ : Type} {m : C.Mem σ} {B nr nw : Nat} {cr cw : Array Value × Array Value} {I : World -> σ -> Prop} {T : σ -> Nat -> Prop}
theorem zc5 (R:RS m B nr nw cr cw I T) (k d s:Nat) (n v b:Int) (hk:isFl k) (hd:d<8) (hb:0<=b) (hb':b<=65535) (w:World) (p:Nat) (x:C.St σ) (hP:PI B nr nw cr cw I T w p x) :
 Calls Tryz.prog 276 #[.pointer (some ⟨p,0,none⟩),ordV k d s n v,.int .u16 b] w λe w'=>e = .returned (.int .u16 (C.flN k (x.c.r d) b))/\PI B nr nw cr cw I T w' p (C.reckon x k (x.c.r d) b)/\PM B T p x.s x.s w w':=by
 have cd:=hP.reg d hd
 have hlt:=hP.lt
 have hne:p≠w.heap.size:=by omega
 have hlt1:p<w.heap.size+1:=by omega
 have hr:=C.Cpu.r_bd hP.ok d
 have h0:(0:Int)<=d:=by omega
 have h8:(d:Int)<8:=by omega
 have HP:=hid hP
 have HR:=hid R
 have HC:=λw=>hid (zkU k hk (x.c.r d) b w hr.1 hr.2 hb hb')
 clear hP R
 unfold C.reckon C.signs
 go_enter Tryz.func276,Tryz.ntmps276
 go_wp2
 go_region_held3 (λw'=>w'.cell? ⟨w.heap.size,0,none⟩=some (.int .i64 k)/\w'.cell? ⟨w.heap.size,1,none⟩=some (.int .i64 d)/\w'.cell? ⟨p,d,none⟩=some (.int .u16 (x.c.r d)))
  ((go_keep;done))
  ((go_at_call 319;refine (HC _).out.mono ?_;rintro e w1 ⟨rfl,hb1⟩;obtain ⟨k1,f1⟩:=bcell hb1))
 have hbw:=stp (stA (st0 w) (.cells #[.int .i64 k,.int .i64 d,.int .i64 s,.int .i64 n,.int .i64 v] 225)).drew hb1
 have hP1:=HP.out.kept HR.out hbw
 obtain ⟨_,e9,e10,e11,e12,_,_,_,_,_⟩:=hP1.cells
 have ef:=hP1.frozen
 have el:=hP1.lt
 have HP1:=hid hP1
 have HBW:=hid hbw
 clear hP1 hbw k1 f1
 go_wp2
 go_ret
 exact ⟨rfl,(((HP1.out.putZ HR.out _).putN HR.out _).putC HR.out _).putV HR.out _,(((((PM.refl B T p x.s w).kept (HP.out.hB HR.out) HBW.out).set HP.out.big 9 _).set HP.out.big 10 _).set HP.out.big 11 _).set HP.out.big 12 _⟩
end
section
variable {σ : Type} {m : C.Mem σ} {B nr nw : Nat} {cr cw : Array Value × Array Value} {I : World -> σ -> Prop} {T : σ -> Nat -> Prop}
def AP (B nr nw:Nat) (cr cw:Array Value × Array Value) (I:World->σ->Prop) (T:σ->Nat->Prop) (w:World) (p:Nat) (x x':C.St σ):Ending->World->Prop :=
 λe w'=>e = .returned (.tuple #[])/\PI B nr nw cr cw I T w' p x'/\PM B T p x.s x'.s w w'
theorem RS.boxS (R:RS m B nr nw cr cw I T) {w w0 w1:World} {s:σ} {cs:Array Value} {t:TypeId} {T':Nat->Prop} (h:I w s) (hm:Mv B (Tw T w0 s) T' w0 w1) (e:w0.heap=(w.alloc (.cells cs t)).heap) (ht:t≠66:=by decide):w.heap.size<w1.heap.size /\ ∀ o,w1.cell? ⟨w.heap.size,o,none⟩=cs[o]?:=by
 have hlt:w.heap.size<w0.heap.size:=by rw [e];simp
 refine ⟨Nat.lt_of_lt_of_le hlt hm.size,λo=>?_⟩
 rw [hm.cell hlt (R.outN h e ht) o]
 exact (World.cell?_of_block (w:=w.alloc (.cells cs t)) (by rw [e])).trans (zai _ _ _ _ rfl)
theorem PI.boxS (R:RS m B nr nw cr cw I T) {w w0 w1:World} {p:Nat} {x:C.St σ} {s':σ} {cs:Array Value} {t:TypeId} (h:PI B nr nw cr cw I T w p x) (hm:PM B T p x.s s' w0 w1) (e:w0.heap=(w.alloc (.cells cs t)).heap) (ht:t≠66:=by decide):w.heap.size<w1.heap.size /\ ∀ o,w1.cell? ⟨w.heap.size,o,none⟩=cs[o]?:=by
 have hlt:w.heap.size<w0.heap.size:=by rw [e];simp
 refine ⟨Nat.lt_of_lt_of_le hlt hm.size,λo=>?_⟩
 rw [PM.cell hm hlt (by have:=h.lt;omega) (R.outN h.inv e ht) o]
 exact (World.cell?_of_block (w:=w.alloc (.cells cs t)) (by rw [e])).trans (zai _ _ _ _ rfl)
theorem PI.regS {w:World} {p:Nat} {x:C.St σ} (h:PI B nr nw cr cw I T w p x) (i:Nat) (hi:i<8) {w':World} (e:w'.heap=w.heap):w'.cell? ⟨p,i,none⟩=some (.int .u16 (x.c.r i)):=(World.cell?_of_block (w:=w) (by rw [e])).trans (h.reg i hi)
theorem PI.ltS {w:World} {p:Nat} {x:C.St σ} (h:PI B nr nw cr cw I T w p x) {w':World} (e:w'.heap=w.heap):p<w'.heap.size:=by rw [e];exact h.lt
theorem PI.box (R:RS m B nr nw cr cw I T) {w:World} {p:Nat} {x:C.St σ} (h:PI B nr nw cr cw I T w p x) (o:Obj):PI B nr nw cr cw I T (w.alloc o) p x:=h.kept R (stA (st0 w) o)
theorem PM.box {w:World} {p:Nat} {x:C.St σ} (R:RS m B nr nw cr cw I T) (h:PI B nr nw cr cw I T w p x) (o:Obj):PM B T p x.s x.s w (w.alloc o):=(PM.refl B T p x.s w).alloc (h.hB R) o
theorem act_0 (R:RS m B nr nw cr cw I T) (d s:Nat) (n v:Int) (hd:d<8) (hs:s<8) (hv:0<=v) (hv':v<=65535) (w:World) (p:Nat) (x:C.St σ) (hP:PI B nr nw cr cw I T w p x) :
 Calls Tryz.prog 261 #[.pointer (some ⟨p,0,none⟩),ordV 0 d s n v] w (AP B nr nw cr cw I T w p x (C.act m x 0 d s n v)):=by
 go_enter Tryz.func261,Tryz.ntmps261
 go_wp2
 go_end0
 exact ⟨rfl,hP.box R _,PM.box R hP _⟩
theorem act_1 (R:RS m B nr nw cr cw I T) (d s:Nat) (n v:Int) (hd:d<8) (hs:s<8) (hv:0<=v) (hv':v<=65535) (w:World) (p:Nat) (x:C.St σ) (hP:PI B nr nw cr cw I T w p x) :
 Calls Tryz.prog 262 #[.pointer (some ⟨p,0,none⟩),ordV 1 d s n v] w (AP B nr nw cr cw I T w p x (C.act m x 1 d s n v)):=by
 have hlt:=hP.lt
 have hne:p≠w.heap.size:=by omega
 have hlt1:p<w.heap.size+1:=by omega
 have hd0:(0:Int)<=d:=by omega
 have hd8:(d:Int)<8:=by omega
 have hs0:(0:Int)<=s:=by omega
 have hs8:(s:Int)<8:=by omega
 have cd:=hP.reg d hd
 have cs:=hP.reg s hs
 have rd:=C.Cpu.r_bd hP.ok d
 have rs:=C.Cpu.r_bd hP.ok s
 have HP:=hid hP
 have HR:=hid R
 have HB:=hid (hP.box R (.cells #[.int .i64 ((1:Nat):Int),.int .i64 d,.int .i64 s,.int .i64 n,.int .i64 v] 225))
 have HM:=hid (PM.box R hP (.cells #[.int .i64 ((1:Nat):Int),.int .i64 d,.int .i64 s,.int .i64 n,.int .i64 v] 225))
 have hf:=hP.frozen d
 clear hP R
 go_enter Tryz.func262,Tryz.ntmps262
 go_wp2
 go_region
 go_wp2
 go_end0
 exact ⟨rfl,((HP.out.putR HR.out d hd _ rs.1 rs.2).box HR.out _).same HR.out rfl,(((PM.refl B T p x.s w).set HP.out.big d _).alloc (HP.out.hB HR.out) _).drew⟩
theorem act_2 (R:RS m B nr nw cr cw I T) (d s:Nat) (n v:Int) (hd:d<8) (hs:s<8) (hv:0<=v) (hv':v<=65535) (w:World) (p:Nat) (x:C.St σ) (hP:PI B nr nw cr cw I T w p x) :
 Calls Tryz.prog 263 #[.pointer (some ⟨p,0,none⟩),ordV 2 d s n v] w (AP B nr nw cr cw I T w p x (C.act m x 2 d s n v)):=by
 have hlt:=hP.lt
 have hne:p≠w.heap.size:=by omega
 have hlt1:p<w.heap.size+1:=by omega
 have hd0:(0:Int)<=d:=by omega
 have hd8:(d:Int)<8:=by omega
 have hs0:(0:Int)<=s:=by omega
 have hs8:(s:Int)<8:=by omega
 have cd:=hP.reg d hd
 have cs:=hP.reg s hs
 have rd:=C.Cpu.r_bd hP.ok d
 have rs:=C.Cpu.r_bd hP.ok s
 have HP:=hid hP
 have HR:=hid R
 have HB:=hid (hP.box R (.cells #[.int .i64 ((2:Nat):Int),.int .i64 d,.int .i64 s,.int .i64 n,.int .i64 v] 225))
 have HM:=hid (PM.box R hP (.cells #[.int .i64 ((2:Nat):Int),.int .i64 d,.int .i64 s,.int .i64 n,.int .i64 v] 225))
 have hf:=hP.frozen d
 have hw:IntKind.u16.wrap v=v:=by rw [u16w];omega
 clear hP R
 go_enter Tryz.func263,Tryz.ntmps263
 go_wp2
 go_region
 go_wp2
 go_end0
 exact ⟨rfl,((HP.out.putR HR.out d hd _ hv hv').box HR.out _).same HR.out rfl,(((PM.refl B T p x.s w).set HP.out.big d _).alloc (HP.out.hB HR.out) _).drew⟩
theorem act_3 (R:RS m B nr nw cr cw I T) (d s:Nat) (n v:Int) (hd:d<8) (hs:s<8) (hv:0<=v) (hv':v<=65535) (w:World) (p:Nat) (x:C.St σ) (hP:PI B nr nw cr cw I T w p x) :
 Calls Tryz.prog 264 #[.pointer (some ⟨p,0,none⟩),ordV 3 d s n v] w (AP B nr nw cr cw I T w p x (C.act m x 3 d s n v)):=by
 have hlt:=hP.lt
 have hne:p≠w.heap.size:=by omega
 have hlt1:p<w.heap.size+1:=by omega
 have hd0:(0:Int)<=d:=by omega
 have hd8:(d:Int)<8:=by omega
 have hs0:(0:Int)<=s:=by omega
 have hs8:(s:Int)<8:=by omega
 have cd:=hP.reg d hd
 have cs:=hP.reg s hs
 have rd:=C.Cpu.r_bd hP.ok d
 have rs:=C.Cpu.r_bd hP.ok s
 have HP:=hid hP
 have HR:=hid R
 have HB:=hid (hP.box R (.cells #[.int .i64 ((3:Nat):Int),.int .i64 d,.int .i64 s,.int .i64 n,.int .i64 v] 225))
 have HM:=hid (PM.box R hP (.cells #[.int .i64 ((3:Nat):Int),.int .i64 d,.int .i64 s,.int .i64 n,.int .i64 v] 225))
 obtain ⟨_,_,_,_,_,_,_,c15,c16,_⟩:=hP.cells
 have HS:Hid (∀ (W:World) (u:Value),(W.cell? ⟨w.heap.size,1,none⟩=some (.int .i64 d)/\W.cell? ⟨w.heap.size,2,none⟩=some (.int .i64 s)/\W.cell? ⟨w.heap.size,3,none⟩=some (.int .i64 n)/\W.cell? ⟨p,15,none⟩=some (fw nr cr)/\W.cell? ⟨p,16,none⟩=some (fw nw cw)) ->
  ((W.setCell ⟨p,d,none⟩ u).cell? ⟨w.heap.size,1,none⟩=some (.int .i64 d)/\(W.setCell ⟨p,d,none⟩ u).cell? ⟨w.heap.size,2,none⟩=some (.int .i64 s)/\(W.setCell ⟨p,d,none⟩ u).cell? ⟨w.heap.size,3,none⟩=some (.int .i64 n)/\(W.setCell ⟨p,d,none⟩ u).cell? ⟨p,15,none⟩=some (fw nr cr)/\(W.setCell ⟨p,d,none⟩ u).cell? ⟨p,16,none⟩=some (fw nw cw))):=by
  rintro W u ⟨h1,h2,h3,h4,h5⟩
  exact ⟨(World.cell?_setCell_other _ _ _ _ (by simp <;> omega)).trans h1,(World.cell?_setCell_other _ _ _ _ (by simp <;> omega)).trans h2,(World.cell?_setCell_other _ _ _ _ (by simp <;> omega)).trans h3,(World.cell?_setCell_other _ _ _ _ (by simp <;> omega)).trans h4,(World.cell?_setCell_other _ _ _ _ (by simp <;> omega)).trans h5⟩
 clear hP R
 go_enter Tryz.func264,Tryz.ntmps264
 go_wp2
 go_region_held3 (λw'=>w'.cell? ⟨w.heap.size,1,none⟩=some (.int .i64 d)/\w'.cell? ⟨w.heap.size,2,none⟩=some (.int .i64 s)/\w'.cell? ⟨w.heap.size,3,none⟩=some (.int .i64 n)/\w'.cell? ⟨p,15,none⟩=some (fw nr cr)/\w'.cell? ⟨p,16,none⟩=some (fw nw cw))
  (first|(go_keep;done)|exact HS.out _ _ (by assumption))
  (first
    | (go_at_call 265;refine (zcb _ p s n (x.c.r s) hs ?_ ?_).mono ?_;(exact HB.out.regS s hs rfl);(exact HB.out.ltS rfl);rintro e w' ⟨rfl,rfl⟩)
    | (go_at_call 91;refine (zca HR.out ((x.c.r s+n)%65536) (by omega) (by omega) _ x.s ?_).mono ?_;(exact HB.out.invS HR.out rfl);rintro e w2 ⟨rfl,hI2,hm2⟩;obtain ⟨k2,f2,z2⟩:=HB.out.after hm2 rfl;obtain ⟨hz2,hq2⟩:=HR.out.boxS HP.out.inv hm2 rfl;have cd2:w2.cell? ⟨p,d,none⟩=some (.int .u16 (x.c.r d)):=(k2 d).trans (HB.out.reg d hd)))
 go_wp2
 go_end0
 exact ⟨rfl,((HB.out.movedS HR.out hI2 hm2 rfl).putR HR.out d hd _ (HR.out.word _ _).1 (HR.out.word _ _).2).same HR.out rfl,((HM.out.drew.moved hm2).set HP.out.big d _)⟩
theorem act_5 (R:RS m B nr nw cr cw I T) (d s:Nat) (n v:Int) (hd:d<8) (hs:s<8) (hv:0<=v) (hv':v<=65535) (w:World) (p:Nat) (x:C.St σ) (hP:PI B nr nw cr cw I T w p x) :
 Calls Tryz.prog 268 #[.pointer (some ⟨p,0,none⟩),ordV 5 d s n v] w (AP B nr nw cr cw I T w p x (C.act m x 5 d s n v)):=by
 have hlt:=hP.lt
 have hne:p≠w.heap.size:=by omega
 have hlt1:p<w.heap.size+1:=by omega
 have hd0:(0:Int)<=d:=by omega
 have hd8:(d:Int)<8:=by omega
 have hs0:(0:Int)<=s:=by omega
 have hs8:(s:Int)<8:=by omega
 have cd:=hP.reg d hd
 have cs:=hP.reg s hs
 have rd:=C.Cpu.r_bd hP.ok d
 have rs:=C.Cpu.r_bd hP.ok s
 have HP:=hid hP
 have HR:=hid R
 have HB:=hid (hP.box R (.cells #[.int .i64 ((5:Nat):Int),.int .i64 d,.int .i64 s,.int .i64 n,.int .i64 v] 225))
 have HM:=hid (PM.box R hP (.cells #[.int .i64 ((5:Nat):Int),.int .i64 d,.int .i64 s,.int .i64 n,.int .i64 v] 225))
 obtain ⟨_,_,_,_,_,_,_,c15,c16,_⟩:=hP.cells
 have HS:Hid (∀ (W:World) (u:Value),(W.cell? ⟨w.heap.size,1,none⟩=some (.int .i64 d)/\W.cell? ⟨w.heap.size,2,none⟩=some (.int .i64 s)/\W.cell? ⟨w.heap.size,3,none⟩=some (.int .i64 n)/\W.cell? ⟨p,15,none⟩=some (fw nr cr)/\W.cell? ⟨p,16,none⟩=some (fw nw cw)) ->
  ((W.setCell ⟨p,d,none⟩ u).cell? ⟨w.heap.size,1,none⟩=some (.int .i64 d)/\(W.setCell ⟨p,d,none⟩ u).cell? ⟨w.heap.size,2,none⟩=some (.int .i64 s)/\(W.setCell ⟨p,d,none⟩ u).cell? ⟨w.heap.size,3,none⟩=some (.int .i64 n)/\(W.setCell ⟨p,d,none⟩ u).cell? ⟨p,15,none⟩=some (fw nr cr)/\(W.setCell ⟨p,d,none⟩ u).cell? ⟨p,16,none⟩=some (fw nw cw))):=by
  rintro W u ⟨h1,h2,h3,h4,h5⟩
  exact ⟨(World.cell?_setCell_other _ _ _ _ (by simp <;> omega)).trans h1,(World.cell?_setCell_other _ _ _ _ (by simp <;> omega)).trans h2,(World.cell?_setCell_other _ _ _ _ (by simp <;> omega)).trans h3,(World.cell?_setCell_other _ _ _ _ (by simp <;> omega)).trans h4,(World.cell?_setCell_other _ _ _ _ (by simp <;> omega)).trans h5⟩
 have hwb:IntKind.u16.wrap (m.rd x.s ((x.c.r s+n)%65536)).1=(m.rd x.s ((x.c.r s+n)%65536)).1:=by have:=R.byte x.s ((x.c.r s+n)%65536);rw [u16w];omega
 clear hP R
 go_enter Tryz.func268,Tryz.ntmps268
 go_wp2
 go_region_held3 (λw'=>w'.cell? ⟨w.heap.size,1,none⟩=some (.int .i64 d)/\w'.cell? ⟨w.heap.size,2,none⟩=some (.int .i64 s)/\w'.cell? ⟨w.heap.size,3,none⟩=some (.int .i64 n)/\w'.cell? ⟨p,15,none⟩=some (fw nr cr)/\w'.cell? ⟨p,16,none⟩=some (fw nw cw))
  (first|(go_keep;done)|exact HS.out _ _ (by assumption))
  (first
    | (go_at_call 265;refine (zcb _ p s n (x.c.r s) hs ?_ ?_).mono ?_;(exact HB.out.regS s hs rfl);(exact HB.out.ltS rfl);rintro e w' ⟨rfl,rfl⟩)
    | (go_at_call 180;refine (HR.out.read _ x.s ((x.c.r s+n)%65536) (by omega) (by omega) ?_).mono ?_;(exact HB.out.invS HR.out rfl);rintro e w2 ⟨rfl,hI2,hm2⟩;obtain ⟨k2,f2,z2⟩:=HB.out.after hm2 rfl;obtain ⟨hz2,hq2⟩:=HR.out.boxS HP.out.inv hm2 rfl;have cd2:w2.cell? ⟨p,d,none⟩=some (.int .u16 (x.c.r d)):=(k2 d).trans (HB.out.reg d hd)))
 go_wp2
 go_end0
 exact ⟨rfl,((HB.out.movedS HR.out hI2 hm2 rfl).putR HR.out d hd _ (HR.out.byte _ _).1 (Int.le_trans (HR.out.byte _ _).2 (by omega))).same HR.out rfl,((HM.out.drew.moved hm2).set HP.out.big d _)⟩
theorem act_4 (R:RS m B nr nw cr cw I T) (d s:Nat) (n v:Int) (hd:d<8) (hs:s<8) (hv:0<=v) (hv':v<=65535) (w:World) (p:Nat) (x:C.St σ) (hfu:2<=m.fuel x.s) (hP:PI B nr nw cr cw I T w p x) :
 Calls Tryz.prog 266 #[.pointer (some ⟨p,0,none⟩),ordV 4 d s n v] w (AP B nr nw cr cw I T w p x (C.act m x 4 d s n v)):=by
 have hlt:=hP.lt
 have hne:p≠w.heap.size:=by omega
 have hlt1:p<w.heap.size+1:=by omega
 have hd0:(0:Int)<=d:=by omega
 have hd8:(d:Int)<8:=by omega
 have hs0:(0:Int)<=s:=by omega
 have hs8:(s:Int)<8:=by omega
 have cd:=hP.reg d hd
 have cs:=hP.reg s hs
 have rd:=C.Cpu.r_bd hP.ok d
 have rs:=C.Cpu.r_bd hP.ok s
 have HP:=hid hP
 have HR:=hid R
 have HB:=hid (hP.box R (.cells #[.int .i64 ((4:Nat):Int),.int .i64 d,.int .i64 s,.int .i64 n,.int .i64 v] 225))
 have HM:=hid (PM.box R hP (.cells #[.int .i64 ((4:Nat):Int),.int .i64 d,.int .i64 s,.int .i64 n,.int .i64 v] 225))
 obtain ⟨_,_,_,_,_,_,_,c15,c16,_⟩:=hP.cells
 have HFU:=hid hfu
 clear hfu
 clear hP R
 go_enter Tryz.func266,Tryz.ntmps266
 go_wp2
 go_region_held3 (λw'=>w'.cell? ⟨w.heap.size,1,none⟩=some (.int .i64 d)/\w'.cell? ⟨w.heap.size,2,none⟩=some (.int .i64 s)/\w'.cell? ⟨w.heap.size,3,none⟩=some (.int .i64 n)/\w'.cell? ⟨p,s,none⟩=some (.int .u16 (x.c.r s))/\w'.cell? ⟨p,15,none⟩=some (fw nr cr)/\w'.cell? ⟨p,16,none⟩=some (fw nw cw))
  ((go_keep;done))
  (first
    | (go_at_call 265;refine (zcb _ p d n (x.c.r d) hd ?_ ?_).mono ?_;(exact HB.out.regS d hd rfl);(exact HB.out.ltS rfl);rintro e w' ⟨rfl,rfl⟩)
    | (go_at_call 267;refine (zdK HR.out ((x.c.r d+n)%65536) (x.c.r s) (by omega) (by omega) rs.1 rs.2 _ x.s HFU.out ?_).mono ?_;(exact HB.out.invS HR.out rfl);rintro e w2 ⟨rfl,hI2,hm2⟩;obtain ⟨k2,f2,z2⟩:=HB.out.after hm2 rfl;obtain ⟨hz2,hq2⟩:=HR.out.boxS HP.out.inv hm2 rfl))
 go_wp2
 go_end0
 exact ⟨rfl,HB.out.movedS HR.out hI2 hm2 rfl,HM.out.drew.moved hm2⟩
theorem act_6 (R:RS m B nr nw cr cw I T) (d s:Nat) (n v:Int) (hd:d<8) (hs:s<8) (hv:0<=v) (hv':v<=65535) (w:World) (p:Nat) (x:C.St σ) (hfu:1<=m.fuel x.s) (hP:PI B nr nw cr cw I T w p x) :
 Calls Tryz.prog 269 #[.pointer (some ⟨p,0,none⟩),ordV 6 d s n v] w (AP B nr nw cr cw I T w p x (C.act m x 6 d s n v)):=by
 have hlt:=hP.lt
 have hne:p≠w.heap.size:=by omega
 have hlt1:p<w.heap.size+1:=by omega
 have hd0:(0:Int)<=d:=by omega
 have hd8:(d:Int)<8:=by omega
 have hs0:(0:Int)<=s:=by omega
 have hs8:(s:Int)<8:=by omega
 have cd:=hP.reg d hd
 have cs:=hP.reg s hs
 have rd:=C.Cpu.r_bd hP.ok d
 have rs:=C.Cpu.r_bd hP.ok s
 have HP:=hid hP
 have HR:=hid R
 have HB:=hid (hP.box R (.cells #[.int .i64 ((6:Nat):Int),.int .i64 d,.int .i64 s,.int .i64 n,.int .i64 v] 225))
 have HM:=hid (PM.box R hP (.cells #[.int .i64 ((6:Nat):Int),.int .i64 d,.int .i64 s,.int .i64 n,.int .i64 v] 225))
 obtain ⟨_,_,_,_,_,_,_,c15,c16,_⟩:=hP.cells
 have hwb:IntKind.u8.wrap (x.c.r s)=x.c.r s%256:=IntKind.wrap_u8 _
 have HFU:=hid hfu
 clear hfu
 clear hP R
 go_enter Tryz.func269,Tryz.ntmps269
 go_wp2
 go_region_held3 (λw'=>w'.cell? ⟨w.heap.size,1,none⟩=some (.int .i64 d)/\w'.cell? ⟨w.heap.size,2,none⟩=some (.int .i64 s)/\w'.cell? ⟨w.heap.size,3,none⟩=some (.int .i64 n)/\w'.cell? ⟨p,s,none⟩=some (.int .u16 (x.c.r s))/\w'.cell? ⟨p,15,none⟩=some (fw nr cr)/\w'.cell? ⟨p,16,none⟩=some (fw nw cw))
  ((go_keep;done))
  (first
    | (go_at_call 265;refine (zcb _ p d n (x.c.r d) hd ?_ ?_).mono ?_;(exact HB.out.regS d hd rfl);(exact HB.out.ltS rfl);rintro e w' ⟨rfl,rfl⟩)
    | (go_at_call 270;refine (HR.out.write _ x.s ((x.c.r d+n)%65536) (x.c.r s%256) (by omega) (by omega) (by omega) (by omega) HFU.out ?_).mono ?_;(exact HB.out.invS HR.out rfl);rintro e w2 ⟨rfl,hI2,hm2⟩;obtain ⟨k2,f2,z2⟩:=HB.out.after hm2 rfl;obtain ⟨hz2,hq2⟩:=HR.out.boxS HP.out.inv hm2 rfl))
 go_wp2
 go_end0
 exact ⟨rfl,HB.out.movedS HR.out hI2 hm2 rfl,HM.out.drew.moved hm2⟩
end
end Go.Proofs.YtbennamieealbaaGreatDoor
