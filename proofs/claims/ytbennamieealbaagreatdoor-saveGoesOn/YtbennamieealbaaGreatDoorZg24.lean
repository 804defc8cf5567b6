/-
  Parts of a proof, joined.
-/
import Derived.Test.YtbennamieealbaaGreatDoorZg23
import Derived.Test.YtbennamieealbaaGreatDoorZg20
import Derived.Test.YtbennamieealbaaGreatDoorZg21
set_option linter.unusedVariables false
set_option maxRecDepth 100000
set_option maxHeartbeats 1600000
namespace Go.Proofs.YtbennamieealbaaGreatDoor
open Go.ChangeShapes Go.WideShapes Go.ChangeAt Go.RowKit
theorem zmD (a:Int) (h:0<=a/\a<=65535):decide (M.low a 16<0)=decide (32768<=a):=by
 unfold M.low
 simp only [show (16:Int).toNat=16 from rfl,Int.reducePow]
 rw [decide_eq_decide]
 split <;> omega
theorem znm (a n:Int) (h:0<=a/\a<=65535):0<=M.shrN a n/\M.shrN a n<=65535:=by
 unfold M.shrN
 have hp:(0:Int)<2 ^ n.toNat:=Int.pow_pos (by omega)
 refine ⟨Int.ediv_nonneg h.1 (by omega),Int.le_trans (Int.ediv_le_self _ h.1) h.2⟩
section
variable {σ : Type} {m : C.Mem σ} {B nr nw : Nat} {cr cw : Array Value × Array Value} {I : World -> σ -> Prop} {T : σ -> Nat -> Prop}
theorem PI.drewN (R:RS m B nr nw cr cw I T) {w:World} {p:Nat} {x:C.St σ} (h:PI B nr nw cr cw I T w p x) (k:Nat):PI B nr nw cr cw I T (w.drewN k) p x:=h.same R rfl
theorem PM.drewN {w w':World} {p:Nat} {s s':σ} (h:PM B T p s s' w w') (k:Nat):PM B T p s s' w (w'.drewN k):=Mv.drewN h k
theorem zoV (R:RS m B nr nw cr cw I T) (d s:Nat) (n v:Int) (hd:d<8) (hs:s<8) (hn:0<=n) (hn':n<=15) (b:Nat) (w:World) (p:Nat) (x:C.St σ) (hP:PI B nr nw cr cw I T w p x) (hb:w.cell? ⟨b,0,none⟩=some (fv 273 #[])) :
 Calls Tryz.prog 316 #[.pointer (some ⟨p,0,none⟩),ordV 12 d s n v,.pointer (some ⟨b,0,none⟩)] w (AP B nr nw cr cw I T w p x (C.act m x 12 d s n v)):=by
 have hlt:=hP.lt
 have hne:p≠w.heap.size:=by omega
 have hlt1:p<w.heap.size+1:=by omega
 have hd0:(0:Int)<=d:=by omega
 have hd8:(d:Int)<8:=by omega
 have hs0:(0:Int)<=s:=by omega
 have hs8:(s:Int)<8:=by omega
 have cd:=hP.reg d hd
 have cs:=hP.reg s hs
 have rd:=C.Cpu.r_bd hP.ok d
 have rs:=C.Cpu.r_bd hP.ok s
 have HP:=hid hP
 have HR:=hid R
 have HB:=hid (hP.box R (.cells #[.int .i64 ((12:Nat):Int),.int .i64 d,.int .i64 s,.int .i64 n,.int .i64 v] 225))
 have HM:=hid (PM.box R hP (.cells #[.int .i64 ((12:Nat):Int),.int .i64 d,.int .i64 s,.int .i64 n,.int .i64 v] 225))
 have hbl:b<w.heap.size:=World.block_lt_of_cell? w _ hb
 have hbne:b≠w.heap.size:=by omega
 have bd:=M.shlN_bd (x.c.r d) n
 have hlow:=zmD (M.shlN (x.c.r d) n) bd
 have H1:=λW:World=>hid (znc (x.c.r d) n W rd.1 rd.2 hn hn')
 have H2:=λW:World=>hid (zbX (M.shlN (x.c.r d) n) 16 W bd.1 bd.2 (by omega) (by omega))
 obtain ⟨_,c9,c10,c11,c12,_,_,_,_,_⟩:=hP.cells
 have hf:=hP.frozen
 clear hP R
 generalize hy:M.shlN (x.c.r d) n=y at bd hlow H1 H2
 have HY:=hid hy
 have HLOW:=hid hlow
 clear hy hlow
 go_enter Tryz.func316,Tryz.ntmps316
 go_wp2
 go_region_held3 (λw'=>w'.cell? ⟨b,0,none⟩=some (fv 273 #[])/\w'.cell? ⟨w.heap.size,1,none⟩=some (.int .i64 d)/\w'.cell? ⟨w.heap.size,3,none⟩=some (.int .i64 n)/\w'.cell? ⟨p,d,none⟩=some (.int .u16 (x.c.r d)))
  ((go_keep;done))
  ((go_at_call 273;refine (H1 _).out.mono ?_;rintro e w2 ⟨rfl,q,rfl⟩))
 go_wp2_with (go_at_call 315;refine (H2 _).out.mono ?_;rintro e w' ⟨rfl,rfl⟩)
 go_region
 go_wp2
 go_end0
 rw [HLOW.out]
 have hy:=HY.out
 subst hy
 exact ⟨rfl,(((((HB.out.drewN HR.out _).putR HR.out d hd _ bd.1 bd.2).putZ HR.out _).putN HR.out _).putC HR.out _).putV HR.out _,(((((HM.out.drewN _).set HP.out.big d _).set HP.out.big 9 _).set HP.out.big 10 _).set HP.out.big 11 _).set HP.out.big 12 _⟩
theorem zoW (R:RS m B nr nw cr cw I T) (d s:Nat) (n v:Int) (hd:d<8) (hs:s<8) (hn:0<=n) (hn':n<=15) (b:Nat) (w:World) (p:Nat) (x:C.St σ) (hP:PI B nr nw cr cw I T w p x) (hb:w.cell? ⟨b,0,none⟩=some (fv 274 #[])) :
 Calls Tryz.prog 316 #[.pointer (some ⟨p,0,none⟩),ordV 13 d s n v,.pointer (some ⟨b,0,none⟩)] w (AP B nr nw cr cw I T w p x (C.act m x 13 d s n v)):=by
 have hlt:=hP.lt
 have hne:p≠w.heap.size:=by omega
 have hlt1:p<w.heap.size+1:=by omega
 have hd0:(0:Int)<=d:=by omega
 have hd8:(d:Int)<8:=by omega
 have hs0:(0:Int)<=s:=by omega
 have hs8:(s:Int)<8:=by omega
 have cd:=hP.reg d hd
 have cs:=hP.reg s hs
 have rd:=C.Cpu.r_bd hP.ok d
 have rs:=C.Cpu.r_bd hP.ok s
 have HP:=hid hP
 have HR:=hid R
 have HB:=hid (hP.box R (.cells #[.int .i64 ((13:Nat):Int),.int .i64 d,.int .i64 s,.int .i64 n,.int .i64 v] 225))
 have HM:=hid (PM.box R hP (.cells #[.int .i64 ((13:Nat):Int),.int .i64 d,.int .i64 s,.int .i64 n,.int .i64 v] 225))
 have hbl:b<w.heap.size:=World.block_lt_of_cell? w _ hb
 have hbne:b≠w.heap.size:=by omega
 have bd:=znm (x.c.r d) n rd
 have hlow:=zmD (M.shrN (x.c.r d) n) bd
 have H1:=λW:World=>hid (zne (x.c.r d) n W rd.1 rd.2 hn hn')
 have H2:=λW:World=>hid (zbX (M.shrN (x.c.r d) n) 16 W bd.1 bd.2 (by omega) (by omega))
 obtain ⟨_,c9,c10,c11,c12,_,_,_,_,_⟩:=hP.cells
 have hf:=hP.frozen
 clear hP R
 generalize hy:M.shrN (x.c.r d) n=y at bd hlow H1 H2
 have HY:=hid hy
 have HLOW:=hid hlow
 clear hy hlow
 go_enter Tryz.func316,Tryz.ntmps316
 go_wp2
 go_region_held3 (λw'=>w'.cell? ⟨b,0,none⟩=some (fv 274 #[])/\w'.cell? ⟨w.heap.size,1,none⟩=some (.int .i64 d)/\w'.cell? ⟨w.heap.size,3,none⟩=some (.int .i64 n)/\w'.cell? ⟨p,d,none⟩=some (.int .u16 (x.c.r d)))
  ((go_keep;done))
  ((go_at_call 274;refine (H1 _).out.mono ?_;rintro e w2 ⟨rfl,q,rfl⟩))
 go_wp2_with (go_at_call 315;refine (H2 _).out.mono ?_;rintro e w' ⟨rfl,rfl⟩)
 go_region
 go_wp2
 go_end0
 rw [HLOW.out]
 have hy:=HY.out
 subst hy
 exact ⟨rfl,(((((HB.out.drewN HR.out _).putR HR.out d hd _ bd.1 bd.2).putZ HR.out _).putN HR.out _).putC HR.out _).putV HR.out _,(((((HM.out.drewN _).set HP.out.big d _).set HP.out.big 9 _).set HP.out.big 10 _).set HP.out.big 11 _).set HP.out.big 12 _⟩
theorem znn (c:C.Cpu) (w:World):Calls Tryz.prog 279 #[cpuV c] w λe w'=>e = .returned (.bool (true))/\Below w.heap.size w w':=by
 go_enter Tryz.func279,Tryz.ntmps279
 go_wp2
 go_ret
 exact ⟨rfl,stA (st0 _) _⟩
theorem zno (c:C.Cpu) (w:World):Calls Tryz.prog 280 #[cpuV c] w λe w'=>e = .returned (.bool (c.Z))/\Below w.heap.size w w':=by
 go_enter Tryz.func280,Tryz.ntmps280
 go_wp2
 go_ret
 exact ⟨rfl,stA (st0 _) _⟩
theorem znp (c:C.Cpu) (w:World):Calls Tryz.prog 281 #[cpuV c] w λe w'=>e = .returned (.bool (c.N))/\Below w.heap.size w w':=by
 go_enter Tryz.func281,Tryz.ntmps281
 go_wp2
 go_ret
 exact ⟨rfl,stA (st0 _) _⟩
theorem znq (c:C.Cpu) (w:World):Calls Tryz.prog 282 #[cpuV c] w λe w'=>e = .returned (.bool (c.C))/\Below w.heap.size w w':=by
 go_enter Tryz.func282,Tryz.ntmps282
 go_wp2
 go_ret
 exact ⟨rfl,stA (st0 _) _⟩
theorem zlp (c:C.Cpu) (w:World):Calls Tryz.prog 293 #[cpuV c] w λe w'=>e = .returned (.bool (!c.Z))/\Below w.heap.size w w':=by
 go_enter Tryz.func293,Tryz.ntmps293
 go_wp2
 go_ret
 exact ⟨rfl,stA (st0 _) _⟩
end
section
variable {σ : Type} {m : C.Mem σ} {B nr nw : Nat} {cr cw : Array Value × Array Value} {I : World -> σ -> Prop} {T : σ -> Nat -> Prop}
theorem zcp (R:RS m B nr nw cr cw I T) (g:Nat) (hg:g=279 \/ g=280 \/ g=281 \/ g=282 \/ g=293) (t:Bool) (k d s:Nat) (n v:Int) (hv:0<=v) (hv':v<=65535) (b:Nat) (w:World) (p:Nat) (x:C.St σ) (hx0:0<=x.n) (hx1:x.n<=100) (hP:PI B nr nw cr cw I T w p x) (z:C.St σ) (hz:z=if t then C.jump x v else x) (hb:w.cell? ⟨b,0,none⟩=some (fv g #[])) (hC:∀ W:World,Calls Tryz.prog g #[cpuV x.c] W λe w'=>e = .returned (.bool t)/\Below W.heap.size W w') :
 Calls Tryz.prog 320 #[.pointer (some ⟨p,0,none⟩),ordV k d s n v,.pointer (some ⟨b,0,none⟩)] w (AP B nr nw cr cw I T w p x z):=by
 have hlt:=hP.lt
 have hne:p≠w.heap.size:=by omega
 have hlt1:p<w.heap.size+1:=by omega
 have hbl:b<w.heap.size:=World.block_lt_of_cell? w _ hb
 have hbne:b≠w.heap.size:=by omega
 have hbl1:b<w.heap.size+1:=by omega
 have hw:IntKind.u16.wrap v=v:=by rw [u16w];omega
 have HP:=hid hP
 have HR:=hid R
 obtain ⟨c8,c9,c10,c11,c12,c13,c14,c15,c16,c17⟩:=hP.cells
 obtain ⟨c0,c1,c2,c3,c4,c5,c6,c7⟩:=hP.regs
 have HC:=hid hC
 have HZ:=hid hz
 clear hP R hC hz
 rcases hg with rfl|rfl|rfl|rfl|rfl
 all_goals
  go_enter Tryz.func320,Tryz.ntmps320
  go_wp2
  first
   | (go_region_held3 (λw'=>w'.cell? ⟨b,0,none⟩=some (fv 279 #[])/\w'.cell? ⟨p,0,none⟩=some (.int .u16 (x.c.r 0))/\w'.cell? ⟨p,1,none⟩=some (.int .u16 (x.c.r 1))/\w'.cell? ⟨p,2,none⟩=some (.int .u16 (x.c.r 2))/\w'.cell? ⟨p,3,none⟩=some (.int .u16 (x.c.r 3))/\w'.cell? ⟨p,4,none⟩=some (.int .u16 (x.c.r 4))/\w'.cell? ⟨p,5,none⟩=some (.int .u16 (x.c.r 5))/\w'.cell? ⟨p,6,none⟩=some (.int .u16 (x.c.r 6))/\w'.cell? ⟨p,7,none⟩=some (.int .u16 (x.c.r 7))/\w'.cell? ⟨p,8,none⟩=some (.int .u16 x.c.PC)/\w'.cell? ⟨p,9,none⟩=some (.bool x.c.Z)/\w'.cell? ⟨p,10,none⟩=some (.bool x.c.N)/\w'.cell? ⟨p,11,none⟩=some (.bool x.c.C)/\w'.cell? ⟨p,12,none⟩=some (.bool x.c.V)/\w'.cell? ⟨p,13,none⟩=some (.bool x.c.May)/\w'.cell? ⟨p,14,none⟩=some (.bool x.c.Waits)) ((go_keep;done)) ((refine (HC.out _).mono ?_;rintro e w2 ⟨rfl,hb2⟩;obtain ⟨k2,f2⟩:=bcell hb2)))
   | (go_region_held3 (λw'=>w'.cell? ⟨b,0,none⟩=some (fv 280 #[])/\w'.cell? ⟨p,0,none⟩=some (.int .u16 (x.c.r 0))/\w'.cell? ⟨p,1,none⟩=some (.int .u16 (x.c.r 1))/\w'.cell? ⟨p,2,none⟩=some (.int .u16 (x.c.r 2))/\w'.cell? ⟨p,3,none⟩=some (.int .u16 (x.c.r 3))/\w'.cell? ⟨p,4,none⟩=some (.int .u16 (x.c.r 4))/\w'.cell? ⟨p,5,none⟩=some (.int .u16 (x.c.r 5))/\w'.cell? ⟨p,6,none⟩=some (.int .u16 (x.c.r 6))/\w'.cell? ⟨p,7,none⟩=some (.int .u16 (x.c.r 7))/\w'.cell? ⟨p,8,none⟩=some (.int .u16 x.c.PC)/\w'.cell? ⟨p,9,none⟩=some (.bool x.c.Z)/\w'.cell? ⟨p,10,none⟩=some (.bool x.c.N)/\w'.cell? ⟨p,11,none⟩=some (.bool x.c.C)/\w'.cell? ⟨p,12,none⟩=some (.bool x.c.V)/\w'.cell? ⟨p,13,none⟩=some (.bool x.c.May)/\w'.cell? ⟨p,14,none⟩=some (.bool x.c.Waits)) ((go_keep;done)) ((refine (HC.out _).mono ?_;rintro e w2 ⟨rfl,hb2⟩;obtain ⟨k2,f2⟩:=bcell hb2)))
   | (go_region_held3 (λw'=>w'.cell? ⟨b,0,none⟩=some (fv 281 #[])/\w'.cell? ⟨p,0,none⟩=some (.int .u16 (x.c.r 0))/\w'.cell? ⟨p,1,none⟩=some (.int .u16 (x.c.r 1))/\w'.cell? ⟨p,2,none⟩=some (.int .u16 (x.c.r 2))/\w'.cell? ⟨p,3,none⟩=some (.int .u16 (x.c.r 3))/\w'.cell? ⟨p,4,none⟩=some (.int .u16 (x.c.r 4))/\w'.cell? ⟨p,5,none⟩=some (.int .u16 (x.c.r 5))/\w'.cell? ⟨p,6,none⟩=some (.int .u16 (x.c.r 6))/\w'.cell? ⟨p,7,none⟩=some (.int .u16 (x.c.r 7))/\w'.cell? ⟨p,8,none⟩=some (.int .u16 x.c.PC)/\w'.cell? ⟨p,9,none⟩=some (.bool x.c.Z)/\w'.cell? ⟨p,10,none⟩=some (.bool x.c.N)/\w'.cell? ⟨p,11,none⟩=some (.bool x.c.C)/\w'.cell? ⟨p,12,none⟩=some (.bool x.c.V)/\w'.cell? ⟨p,13,none⟩=some (.bool x.c.May)/\w'.cell? ⟨p,14,none⟩=some (.bool x.c.Waits)) ((go_keep;done)) ((refine (HC.out _).mono ?_;rintro e w2 ⟨rfl,hb2⟩;obtain ⟨k2,f2⟩:=bcell hb2)))
   | (go_region_held3 (λw'=>w'.cell? ⟨b,0,none⟩=some (fv 282 #[])/\w'.cell? ⟨p,0,none⟩=some (.int .u16 (x.c.r 0))/\w'.cell? ⟨p,1,none⟩=some (.int .u16 (x.c.r 1))/\w'.cell? ⟨p,2,none⟩=some (.int .u16 (x.c.r 2))/\w'.cell? ⟨p,3,none⟩=some (.int .u16 (x.c.r 3))/\w'.cell? ⟨p,4,none⟩=some (.int .u16 (x.c.r 4))/\w'.cell? ⟨p,5,none⟩=some (.int .u16 (x.c.r 5))/\w'.cell? ⟨p,6,none⟩=some (.int .u16 (x.c.r 6))/\w'.cell? ⟨p,7,none⟩=some (.int .u16 (x.c.r 7))/\w'.cell? ⟨p,8,none⟩=some (.int .u16 x.c.PC)/\w'.cell? ⟨p,9,none⟩=some (.bool x.c.Z)/\w'.cell? ⟨p,10,none⟩=some (.bool x.c.N)/\w'.cell? ⟨p,11,none⟩=some (.bool x.c.C)/\w'.cell? ⟨p,12,none⟩=some (.bool x.c.V)/\w'.cell? ⟨p,13,none⟩=some (.bool x.c.May)/\w'.cell? ⟨p,14,none⟩=some (.bool x.c.Waits)) ((go_keep;done)) ((refine (HC.out _).mono ?_;rintro e w2 ⟨rfl,hb2⟩;obtain ⟨k2,f2⟩:=bcell hb2)))
   | (go_region_held3 (λw'=>w'.cell? ⟨b,0,none⟩=some (fv 293 #[])/\w'.cell? ⟨p,0,none⟩=some (.int .u16 (x.c.r 0))/\w'.cell? ⟨p,1,none⟩=some (.int .u16 (x.c.r 1))/\w'.cell? ⟨p,2,none⟩=some (.int .u16 (x.c.r 2))/\w'.cell? ⟨p,3,none⟩=some (.int .u16 (x.c.r 3))/\w'.cell? ⟨p,4,none⟩=some (.int .u16 (x.c.r 4))/\w'.cell? ⟨p,5,none⟩=some (.int .u16 (x.c.r 5))/\w'.cell? ⟨p,6,none⟩=some (.int .u16 (x.c.r 6))/\w'.cell? ⟨p,7,none⟩=some (.int .u16 (x.c.r 7))/\w'.cell? ⟨p,8,none⟩=some (.int .u16 x.c.PC)/\w'.cell? ⟨p,9,none⟩=some (.bool x.c.Z)/\w'.cell? ⟨p,10,none⟩=some (.bool x.c.N)/\w'.cell? ⟨p,11,none⟩=some (.bool x.c.C)/\w'.cell? ⟨p,12,none⟩=some (.bool x.c.V)/\w'.cell? ⟨p,13,none⟩=some (.bool x.c.May)/\w'.cell? ⟨p,14,none⟩=some (.bool x.c.Waits)) ((go_keep;done)) ((refine (HC.out _).mono ?_;rintro e w2 ⟨rfl,hb2⟩;obtain ⟨k2,f2⟩:=bcell hb2)))
  have hbw:=stp (stA (st0 w) (.cells #[.int .i64 k,.int .i64 d,.int .i64 s,.int .i64 n,.int .i64 v] 225)).drew hb2
  have hP1:=HP.out.kept HR.out hbw
  obtain ⟨e8,e9,e10,e11,e12,e13,e14,e15,e16,e17⟩:=hP1.cells
  have ef:=hP1.frozen
  have el:=hP1.lt
  have q4:w2.cell? ⟨w.heap.size,4,none⟩=some (.int .i64 v):=(k2 _ 4 (by simp)).trans (by simp)
  have ql:w.heap.size<w2.heap.size:=by have:=hb2.size;simp at this;omega
  have HP1:=hid hP1
  have HBW:=hid hbw
  clear hP1 hbw k2 f2
  cases t
  ·go_wp2
   go_end0
   rw [HZ.out]
   exact ⟨rfl,HP1.out,(PM.refl B T p x.s w).kept (HP.out.hB HR.out) HBW.out⟩
  ·go_wp2
   go_end0
   rw [HZ.out]
   exact ⟨rfl,(HP1.out.putPC HR.out v hv hv').putCyc HR.out _,(((PM.refl B T p x.s w).kept (HP.out.hB HR.out) HBW.out).set HP.out.big 8 _).set HP.out.big 17 _⟩
end
def wordsAt (w:World) (g:Nat) (l:List Int):Prop:=∀ i,i<l.length->w.cell? ⟨g,i,none⟩=some (.int .u16 (l.getD i 0))
theorem zbx (x:Int) (h:0<=x) (h':x<=65535):bits .and .u16 x 7=x%8/\bits .and .u16 x 15=x%16 :=
 ⟨by have:=M.and_low x 3 (by omega) h h';simpa using this,by have:=M.and_low x 4 (by omega) h h';simpa using this⟩
theorem held8 {w1 w2:World} {n c h a0 a1 a2 a3 a4:Value} {t t':TypeId} (hb:Below ((w1.alloc (.cells #[n,c,h] t)).alloc (.cells #[a0,a1,a2,a3,a4] t')).drew.heap.size ((w1.alloc (.cells #[n,c,h] t)).alloc (.cells #[a0,a1,a2,a3,a4] t')).drew w2) :
 w2.cell? ⟨w1.heap.size,0,none⟩=some n/\w2.cell? ⟨w1.heap.size,1,none⟩=some c/\w2.cell? ⟨w1.heap.size,2,none⟩=some h/\w2.cell? ⟨w1.heap.size+1,0,none⟩=some a0/\w2.cell? ⟨w1.heap.size+1,1,none⟩=some a1 /\
  w2.cell? ⟨w1.heap.size+1,2,none⟩=some a2/\w2.cell? ⟨w1.heap.size+1,3,none⟩=some a3/\w2.cell? ⟨w1.heap.size+1,4,none⟩=some a4:=by
 have e:∀ i,((w1.alloc (.cells #[n,c,h] t)).alloc (.cells #[a0,a1,a2,a3,a4] t')).drew.cell? ⟨w1.heap.size,i,none⟩=#[n,c,h][i]?:=λi =>
  (World.cell?_alloc_lt (w1.alloc (.cells #[n,c,h] t)) _ _ (by simp)).trans (zav _ _ _ _ rfl)
 have e':∀ i,((w1.alloc (.cells #[n,c,h] t)).alloc (.cells #[a0,a1,a2,a3,a4] t')).drew.cell? ⟨w1.heap.size+1,i,none⟩=#[a0,a1,a2,a3,a4][i]?:=λi=>zav (w1.alloc (.cells #[n,c,h] t)) _ _ _ (by simp)
 refine ⟨?_,?_,?_,?_,?_,?_,?_,?_⟩
 ·rw [hb.cell (by simp;omega),e];rfl
 ·rw [hb.cell (by simp;omega),e];rfl
 ·rw [hb.cell (by simp;omega),e];rfl
 ·rw [hb.cell (by simp),e'];rfl
 ·rw [hb.cell (by simp),e'];rfl
 ·rw [hb.cell (by simp),e'];rfl
 ·rw [hb.cell (by simp),e'];rfl
 ·rw [hb.cell (by simp),e'];rfl
theorem far5 (w2:World) (b:Nat) (v0 v1 v2 v3 v4:Value) (p:Addr) (h:b≠p.block) :
 (((((w2.setCell ⟨b,0,none⟩ v0).setCell ⟨b,1,none⟩ v1).setCell ⟨b,2,none⟩ v2).setCell ⟨b,3,none⟩ v3).setCell ⟨b,4,none⟩ v4).cell? p=w2.cell? p:=by
 rw [World.cell?_setCell_far _ _ _ _ h,World.cell?_setCell_far _ _ _ _ h,World.cell?_setCell_far _ _ _ _ h,World.cell?_setCell_far _ _ _ _ h,World.cell?_setCell_far _ _ _ _ h]
theorem held8s {w w1 w2:World} {n c h a0 a1 a2 a3 a4 v0 v1 v2 v3 v4:Value} (hz:w.heap.size<w1.heap.size)
 (hh:w2.cell? ⟨w1.heap.size,0,none⟩=some n/\w2.cell? ⟨w1.heap.size,1,none⟩=some c/\w2.cell? ⟨w1.heap.size,2,none⟩=some h/\w2.cell? ⟨w1.heap.size+1,0,none⟩=some a0/\w2.cell? ⟨w1.heap.size+1,1,none⟩=some a1 /\
   w2.cell? ⟨w1.heap.size+1,2,none⟩=some a2/\w2.cell? ⟨w1.heap.size+1,3,none⟩=some a3/\w2.cell? ⟨w1.heap.size+1,4,none⟩=some a4) :
 (((((w2.setCell ⟨w.heap.size,0,none⟩ v0).setCell ⟨w.heap.size,1,none⟩ v1).setCell ⟨w.heap.size,2,none⟩ v2).setCell ⟨w.heap.size,3,none⟩ v3).setCell ⟨w.heap.size,4,none⟩ v4).cell? ⟨w1.heap.size,0,none⟩=some n/\(((((w2.setCell ⟨w.heap.size,0,none⟩ v0).setCell ⟨w.heap.size,1,none⟩ v1).setCell ⟨w.heap.size,2,none⟩ v2).setCell ⟨w.heap.size,3,none⟩ v3).setCell ⟨w.heap.size,4,none⟩ v4).cell? ⟨w1.heap.size,1,none⟩=some c/\(((((w2.setCell ⟨w.heap.size,0,none⟩ v0).setCell ⟨w.heap.size,1,none⟩ v1).setCell ⟨w.heap.size,2,none⟩ v2).setCell ⟨w.heap.size,3,none⟩ v3).setCell ⟨w.heap.size,4,none⟩ v4).cell? ⟨w1.heap.size,2,none⟩=some h/\(((((w2.setCell ⟨w.heap.size,0,none⟩ v0).setCell ⟨w.heap.size,1,none⟩ v1).setCell ⟨w.heap.size,2,none⟩ v2).setCell ⟨w.heap.size,3,none⟩ v3).setCell ⟨w.heap.size,4,none⟩ v4).cell? ⟨w1.heap.size+1,0,none⟩=some a0/\(((((w2.setCell ⟨w.heap.size,0,none⟩ v0).setCell ⟨w.heap.size,1,none⟩ v1).setCell ⟨w.heap.size,2,none⟩ v2).setCell ⟨w.heap.size,3,none⟩ v3).setCell ⟨w.heap.size,4,none⟩ v4).cell? ⟨w1.heap.size+1,1,none⟩=some a1 /\
  (((((w2.setCell ⟨w.heap.size,0,none⟩ v0).setCell ⟨w.heap.size,1,none⟩ v1).setCell ⟨w.heap.size,2,none⟩ v2).setCell ⟨w.heap.size,3,none⟩ v3).setCell ⟨w.heap.size,4,none⟩ v4).cell? ⟨w1.heap.size+1,2,none⟩=some a2/\(((((w2.setCell ⟨w.heap.size,0,none⟩ v0).setCell ⟨w.heap.size,1,none⟩ v1).setCell ⟨w.heap.size,2,none⟩ v2).setCell ⟨w.heap.size,3,none⟩ v3).setCell ⟨w.heap.size,4,none⟩ v4).cell? ⟨w1.heap.size+1,3,none⟩=some a3/\(((((w2.setCell ⟨w.heap.size,0,none⟩ v0).setCell ⟨w.heap.size,1,none⟩ v1).setCell ⟨w.heap.size,2,none⟩ v2).setCell ⟨w.heap.size,3,none⟩ v3).setCell ⟨w.heap.size,4,none⟩ v4).cell? ⟨w1.heap.size+1,4,none⟩=some a4:=by
 obtain ⟨h1,h2,h3,h4,h5,h6,h7,h8⟩:=hh
 refine ⟨?_,?_,?_,?_,?_,?_,?_,?_⟩
 ·exact (far5 _ _ _ _ _ _ _ _ (by simp;omega)).trans h1
 ·exact (far5 _ _ _ _ _ _ _ _ (by simp;omega)).trans h2
 ·exact (far5 _ _ _ _ _ _ _ _ (by simp;omega)).trans h3
 ·exact (far5 _ _ _ _ _ _ _ _ (by simp;omega)).trans h4
 ·exact (far5 _ _ _ _ _ _ _ _ (by simp;omega)).trans h5
 ·exact (far5 _ _ _ _ _ _ _ _ (by simp;omega)).trans h6
 ·exact (far5 _ _ _ _ _ _ _ _ (by simp;omega)).trans h7
 ·exact (far5 _ _ _ _ _ _ _ _ (by simp;omega)).trans h8
theorem newRes {w w1 w2:World} {o o':Obj} {t:TypeId} (hb1:Below (w.alloc (.cells #[.int .i64 0,.int .i64 0,.int .i64 0,.int .i64 0,.int .i64 0] t)).heap.size (w.alloc (.cells #[.int .i64 0,.int .i64 0,.int .i64 0,.int .i64 0,.int .i64 0] t)) w1)
 (hb2:Below ((w1.alloc o).alloc o').drew.heap.size ((w1.alloc o).alloc o').drew w2) :
 (∀ i,i<5->w2.cell? ⟨w.heap.size,i,none⟩=some (.int .i64 0)) /\ ∀ i,w2.frozen? ⟨w.heap.size,i,none⟩=false:=by
 have hz:w.heap.size<w1.heap.size:=by have:=hb1.size;simp at this;omega
 have b:Below w1.heap.size w1 w2:=((stA (stA (st0 w1) o) o').drew).trans (hb2.mono (by simp;omega))
 refine ⟨λi hi=>?_,λi=>?_⟩
 ·rw [b.cell hz,hb1.cell (by simp),zav _ _ _ _ rfl]
  have hc:i=0 \/ i=1 \/ i=2 \/ i=3 \/ i=4:=by omega
  rcases hc with rfl|rfl|rfl|rfl|rfl <;> rfl
 ·rw [b.frozen hz,hb1.frozen (by simp)]
  simp
theorem zoX (k:Nat) (hk:k<32) (h30:k≠30) (hm:O.mask k=0) (a b:Int) (ha:0<=a) (ha':a<=65535) (hb:0<=b) (hb':b<=65535) (hak:a/2048=k) (w:World) (hs:shapesAt w) :
 Calls Tryz.prog 259 #[.int .u16 a,.int .u16 b] w λe w'=>e = .returned (.tuple #[.agg #[.int .i64 k,.int .i64 (0),.int .i64 (0),.int .i64 (0),.int .i64 (0)],.int .i64 1])/\Below w.heap.size w w':=by
 have hwd:=zaS (.string (O.nameS k)) (.int .i64 (K.cyc k)) k hk
 have HS:=hid hs
 have HM:=hid hm
 have HW:=hid hwd
 rw [hm] at HW
 clear hs hm hwd
 go_enter Tryz.func259,Tryz.ntmps259
 go_wp2_with (first
  | (go_at_call 209;refine (zaW k hk h30 _ (zaB HS.out _)).mono ?_;rw [HM.out];rintro e w1 ⟨rfl,hb1⟩;obtain ⟨hc1,hf1⟩:=bcell hb1;have hz1:w.heap.size<w1.heap.size:=by have:=hb1.size;simp at this;omega))
 go_region_held3 (λw'=>w'.cell? ⟨w1.heap.size,0,none⟩=some (.string (O.nameS k))/\w'.cell? ⟨w1.heap.size,1,none⟩=some (.int .i64 (K.cyc k))/\w'.cell? ⟨w1.heap.size,2,none⟩=some (.int .i64 0)/\w'.cell? ⟨w1.heap.size+1,0,none⟩=some (.int .i64 (k))/\w'.cell? ⟨w1.heap.size+1,1,none⟩=some (.int .i64 (0))/\w'.cell? ⟨w1.heap.size+1,2,none⟩=some (.int .i64 (0))/\w'.cell? ⟨w1.heap.size+1,3,none⟩=some (.int .i64 (0))/\w'.cell? ⟨w1.heap.size+1,4,none⟩=some (.int .i64 (0)))
  (first
    | with_reducible exact held8 hb2
    | with_reducible exact held8s hz1 (by assumption)
    | (go_keep;done))
  ((go_at_call 260;refine (HW.out _).mono ?_;rintro e w2 ⟨rfl,hb2⟩;obtain ⟨hc2,hf2⟩:=newRes hb1 hb2))
 go_wp2
 refine bodyPost_ret (v:=.tuple #[.agg #[.int .i64 k,.int .i64 (0),.int .i64 (0),.int .i64 (0),.int .i64 (0)],.int .i64 1]) (by simp [results,Tryz.results259,go_sem,hc2,lenOf]) rfl ⟨rfl,?_⟩
 exact (((((stp (stA (stA (stp (stA (st0 _) _) hb1) _) _).drew hb2).setCell (Nat.le_refl _) _).setCell (Nat.le_refl _) _).setCell (Nat.le_refl _) _).setCell (Nat.le_refl _) _).setCell (Nat.le_refl _) _
theorem zoY (k:Nat) (hk:k<32) (h30:k≠30) (hm:O.mask k=1) (a b:Int) (ha:0<=a) (ha':a<=65535) (hb:0<=b) (hb':b<=65535) (hak:a/2048=k) (w:World) (hs:shapesAt w) :
 Calls Tryz.prog 259 #[.int .u16 a,.int .u16 b] w λe w'=>e = .returned (.tuple #[.agg #[.int .i64 k,.int .i64 (a/256%8),.int .i64 (0),.int .i64 (0),.int .i64 (0)],.int .i64 1])/\Below w.heap.size w w':=by
 have hwd:=zaS (.string (O.nameS k)) (.int .i64 (K.cyc k)) k hk
 have HS:=hid hs
 have HM:=hid hm
 have HW:=hid hwd
 rw [hm] at HW
 have eD:=(zbx (a/256) (by omega) (by omega)).1
 clear hs hm hwd
 go_enter Tryz.func259,Tryz.ntmps259
 go_wp2_with (first
  | (go_at_call 209;refine (zaW k hk h30 _ (zaB HS.out _)).mono ?_;rw [HM.out];rintro e w1 ⟨rfl,hb1⟩;obtain ⟨hc1,hf1⟩:=bcell hb1;have hz1:w.heap.size<w1.heap.size:=by have:=hb1.size;simp at this;omega))
 clear eD
 go_region_held3 (λw'=>w'.cell? ⟨w1.heap.size,0,none⟩=some (.string (O.nameS k))/\w'.cell? ⟨w1.heap.size,1,none⟩=some (.int .i64 (K.cyc k))/\w'.cell? ⟨w1.heap.size,2,none⟩=some (.int .i64 1)/\w'.cell? ⟨w1.heap.size+1,0,none⟩=some (.int .i64 (k))/\w'.cell? ⟨w1.heap.size+1,1,none⟩=some (.int .i64 (a/256%8))/\w'.cell? ⟨w1.heap.size+1,2,none⟩=some (.int .i64 (0))/\w'.cell? ⟨w1.heap.size+1,3,none⟩=some (.int .i64 (0))/\w'.cell? ⟨w1.heap.size+1,4,none⟩=some (.int .i64 (0)))
  (first
    | with_reducible exact held8 hb2
    | with_reducible exact held8s hz1 (by assumption)
    | (go_keep;done))
  ((go_at_call 260;refine (HW.out _).mono ?_;rintro e w2 ⟨rfl,hb2⟩;obtain ⟨hc2,hf2⟩:=newRes hb1 hb2))
 go_wp2
 refine bodyPost_ret (v:=.tuple #[.agg #[.int .i64 k,.int .i64 (a/256%8),.int .i64 (0),.int .i64 (0),.int .i64 (0)],.int .i64 1]) (by simp [results,Tryz.results259,go_sem,hc2,lenOf]) rfl ⟨rfl,?_⟩
 exact (((((stp (stA (stA (stp (stA (st0 _) _) hb1) _) _).drew hb2).setCell (Nat.le_refl _) _).setCell (Nat.le_refl _) _).setCell (Nat.le_refl _) _).setCell (Nat.le_refl _) _).setCell (Nat.le_refl _) _
theorem zoZ (k:Nat) (hk:k<32) (h30:k≠30) (hm:O.mask k=2) (a b:Int) (ha:0<=a) (ha':a<=65535) (hb:0<=b) (hb':b<=65535) (hak:a/2048=k) (w:World) (hs:shapesAt w) :
 Calls Tryz.prog 259 #[.int .u16 a,.int .u16 b] w λe w'=>e = .returned (.tuple #[.agg #[.int .i64 k,.int .i64 (0),.int .i64 (a/32%8),.int .i64 (0),.int .i64 (0)],.int .i64 1])/\Below w.heap.size w w':=by
 have hwd:=zaS (.string (O.nameS k)) (.int .i64 (K.cyc k)) k hk
 have HS:=hid hs
 have HM:=hid hm
 have HW:=hid hwd
 rw [hm] at HW
 have eS:=(zbx (a/32) (by omega) (by omega)).1
 clear hs hm hwd
 go_enter Tryz.func259,Tryz.ntmps259
 go_wp2_with (first
  | (go_at_call 209;refine (zaW k hk h30 _ (zaB HS.out _)).mono ?_;rw [HM.out];rintro e w1 ⟨rfl,hb1⟩;obtain ⟨hc1,hf1⟩:=bcell hb1;have hz1:w.heap.size<w1.heap.size:=by have:=hb1.size;simp at this;omega))
 clear eS
 go_region_held3 (λw'=>w'.cell? ⟨w1.heap.size,0,none⟩=some (.string (O.nameS k))/\w'.cell? ⟨w1.heap.size,1,none⟩=some (.int .i64 (K.cyc k))/\w'.cell? ⟨w1.heap.size,2,none⟩=some (.int .i64 2)/\w'.cell? ⟨w1.heap.size+1,0,none⟩=some (.int .i64 (k))/\w'.cell? ⟨w1.heap.size+1,1,none⟩=some (.int .i64 (0))/\w'.cell? ⟨w1.heap.size+1,2,none⟩=some (.int .i64 (a/32%8))/\w'.cell? ⟨w1.heap.size+1,3,none⟩=some (.int .i64 (0))/\w'.cell? ⟨w1.heap.size+1,4,none⟩=some (.int .i64 (0)))
  (first
    | with_reducible exact held8 hb2
    | with_reducible exact held8s hz1 (by assumption)
    | (go_keep;done))
  ((go_at_call 260;refine (HW.out _).mono ?_;rintro e w2 ⟨rfl,hb2⟩;obtain ⟨hc2,hf2⟩:=newRes hb1 hb2))
 go_wp2
 refine bodyPost_ret (v:=.tuple #[.agg #[.int .i64 k,.int .i64 (0),.int .i64 (a/32%8),.int .i64 (0),.int .i64 (0)],.int .i64 1]) (by simp [results,Tryz.results259,go_sem,hc2,lenOf]) rfl ⟨rfl,?_⟩
 exact (((((stp (stA (stA (stp (stA (st0 _) _) hb1) _) _).drew hb2).setCell (Nat.le_refl _) _).setCell (Nat.le_refl _) _).setCell (Nat.le_refl _) _).setCell (Nat.le_refl _) _).setCell (Nat.le_refl _) _
theorem zo0 (k:Nat) (hk:k<32) (h30:k≠30) (hm:O.mask k=3) (a b:Int) (ha:0<=a) (ha':a<=65535) (hb:0<=b) (hb':b<=65535) (hak:a/2048=k) (w:World) (hs:shapesAt w) :
 Calls Tryz.prog 259 #[.int .u16 a,.int .u16 b] w λe w'=>e = .returned (.tuple #[.agg #[.int .i64 k,.int .i64 (a/256%8),.int .i64 (a/32%8),.int .i64 (0),.int .i64 (0)],.int .i64 1])/\Below w.heap.size w w':=by
 have hwd:=zaS (.string (O.nameS k)) (.int .i64 (K.cyc k)) k hk
 have HS:=hid hs
 have HM:=hid hm
 have HW:=hid hwd
 rw [hm] at HW
 have eD:=(zbx (a/256) (by omega) (by omega)).1
 have eS:=(zbx (a/32) (by omega) (by omega)).1
 clear hs hm hwd
 go_enter Tryz.func259,Tryz.ntmps259
 go_wp2_with (first
  | (go_at_call 209;refine (zaW k hk h30 _ (zaB HS.out _)).mono ?_;rw [HM.out];rintro e w1 ⟨rfl,hb1⟩;obtain ⟨hc1,hf1⟩:=bcell hb1;have hz1:w.heap.size<w1.heap.size:=by have:=hb1.size;simp at this;omega))
 clear eD eS
 go_region_held3 (λw'=>w'.cell? ⟨w1.heap.size,0,none⟩=some (.string (O.nameS k))/\w'.cell? ⟨w1.heap.size,1,none⟩=some (.int .i64 (K.cyc k))/\w'.cell? ⟨w1.heap.size,2,none⟩=some (.int .i64 3)/\w'.cell? ⟨w1.heap.size+1,0,none⟩=some (.int .i64 (k))/\w'.cell? ⟨w1.heap.size+1,1,none⟩=some (.int .i64 (a/256%8))/\w'.cell? ⟨w1.heap.size+1,2,none⟩=some (.int .i64 (a/32%8))/\w'.cell? ⟨w1.heap.size+1,3,none⟩=some (.int .i64 (0))/\w'.cell? ⟨w1.heap.size+1,4,none⟩=some (.int .i64 (0)))
  (first
    | with_reducible exact held8 hb2
    | with_reducible exact held8s hz1 (by assumption)
    | (go_keep;done))
  ((go_at_call 260;refine (HW.out _).mono ?_;rintro e w2 ⟨rfl,hb2⟩;obtain ⟨hc2,hf2⟩:=newRes hb1 hb2))
 go_wp2
 refine bodyPost_ret (v:=.tuple #[.agg #[.int .i64 k,.int .i64 (a/256%8),.int .i64 (a/32%8),.int .i64 (0),.int .i64 (0)],.int .i64 1]) (by simp [results,Tryz.results259,go_sem,hc2,lenOf]) rfl ⟨rfl,?_⟩
 exact (((((stp (stA (stA (stp (stA (st0 _) _) hb1) _) _).drew hb2).setCell (Nat.le_refl _) _).setCell (Nat.le_refl _) _).setCell (Nat.le_refl _) _).setCell (Nat.le_refl _) _).setCell (Nat.le_refl _) _
theorem zo1 (k:Nat) (hk:k<32) (h30:k≠30) (hm:O.mask k=5) (a b:Int) (ha:0<=a) (ha':a<=65535) (hb:0<=b) (hb':b<=65535) (hak:a/2048=k) (w:World) (hs:shapesAt w) :
 Calls Tryz.prog 259 #[.int .u16 a,.int .u16 b] w λe w'=>e = .returned (.tuple #[.agg #[.int .i64 k,.int .i64 (a/256%8),.int .i64 (0),.int .i64 (M.low a 5),.int .i64 (0)],.int .i64 1])/\Below w.heap.size w w':=by
 have hwd:=zaS (.string (O.nameS k)) (.int .i64 (K.cyc k)) k hk
 have HS:=hid hs
 have HM:=hid hm
 have HW:=hid hwd
 rw [hm] at HW
 have eD:=(zbx (a/256) (by omega) (by omega)).1
 clear hs hm hwd
 go_enter Tryz.func259,Tryz.ntmps259
 go_wp2_with (first
  | (go_at_call 209;refine (zaW k hk h30 _ (zaB HS.out _)).mono ?_;rw [HM.out];rintro e w1 ⟨rfl,hb1⟩;obtain ⟨hc1,hf1⟩:=bcell hb1;have hz1:w.heap.size<w1.heap.size:=by have:=hb1.size;simp at this;omega)
  | (go_at_call 315;refine (zbX _ _ _ (by omega) (by omega) (by omega) (by omega)).mono ?_;rintro e w' ⟨rfl,rfl⟩))
 clear eD
 go_region_held3 (λw'=>w'.cell? ⟨w1.heap.size,0,none⟩=some (.string (O.nameS k))/\w'.cell? ⟨w1.heap.size,1,none⟩=some (.int .i64 (K.cyc k))/\w'.cell? ⟨w1.heap.size,2,none⟩=some (.int .i64 5)/\w'.cell? ⟨w1.heap.size+1,0,none⟩=some (.int .i64 (k))/\w'.cell? ⟨w1.heap.size+1,1,none⟩=some (.int .i64 (a/256%8))/\w'.cell? ⟨w1.heap.size+1,2,none⟩=some (.int .i64 (0))/\w'.cell? ⟨w1.heap.size+1,3,none⟩=some (.int .i64 (M.low a 5))/\w'.cell? ⟨w1.heap.size+1,4,none⟩=some (.int .i64 (0)))
  (first
    | with_reducible exact held8 hb2
    | with_reducible exact held8s hz1 (by assumption)
    | (go_keep;done))
  ((go_at_call 260;refine (HW.out _).mono ?_;rintro e w2 ⟨rfl,hb2⟩;obtain ⟨hc2,hf2⟩:=newRes hb1 hb2))
 go_wp2
 refine bodyPost_ret (v:=.tuple #[.agg #[.int .i64 k,.int .i64 (a/256%8),.int .i64 (0),.int .i64 (M.low a 5),.int .i64 (0)],.int .i64 1]) (by simp [results,Tryz.results259,go_sem,hc2,lenOf]) rfl ⟨rfl,?_⟩
 exact (((((stp (stA (stA (stp (stA (st0 _) _) hb1) _) _).drew hb2).setCell (Nat.le_refl _) _).setCell (Nat.le_refl _) _).setCell (Nat.le_refl _) _).setCell (Nat.le_refl _) _).setCell (Nat.le_refl _) _
end Go.Proofs.YtbennamieealbaaGreatDoor
