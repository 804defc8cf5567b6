/-
  Parts of a proof, joined.
-/
import Derived.Test.YtbennamieealbaaGreatDoorZc11
import Derived.Test.YtbennamieealbaaGreatDoorZc06
set_option linter.unusedVariables false
set_option maxRecDepth 100000
set_option maxHeartbeats 1600000
namespace Go.Proofs.YtbennamieealbaaGreatDoor
open Go.ChangeShapes Go.WideShapes Go.ChangeAt Go.RowKit
theorem rk_bd (a:Int) (h:0<=a/\a<=65535):O.rk a<32/\O.rk a≠30/\O.rOp a=(O.rk a:Int):=by
 unfold O.rk O.rOp
 split <;> omega
theorem rD_bd (a:Int):0<=O.rD a/\O.rD a<=7:=by unfold O.rD;split <;> omega
theorem rS_bd (a:Int):0<=O.rS a/\O.rS a<=7:=by unfold O.rS;split <;> omega
theorem rN_bd (a:Int):-16<=O.rN a/\O.rN a<=15:=by
 unfold O.rN O.nOf
 split
 ·split
  ·omega
  ·split <;> omega
 ·omega
theorem rN_0 (a:Int) (h:O.rk a=12 \/ O.rk a=13):0<=O.rN a:=by
 unfold O.rN O.nOf
 split
 ·first|omega|(rw [if_pos h];omega)
 ·omega
theorem rW_bd (a b:Int) (h:0<=b/\b<=65535):0<=O.rW a b/\O.rW a b<=65535:=by unfold O.rW;split <;> omega
section
variable {σ : Type} {m : C.Mem σ} {B nr nw : Nat} {cr cw : Array Value × Array Value} {I : World -> σ -> Prop} {T : σ -> Nat -> Prop}
theorem zgc (R:RS m B nr nw cr cw I T) (c:C.Cpu) (s:σ):0<=C.word1 m c s/\C.word1 m c s<=65535:=R.word _ _
theorem zn3 (R:RS m B nr nw cr cw I T) (c:C.Cpu) (s:σ):0<=C.word2 m c s/\C.word2 m c s<=65535:=by
 unfold C.word2
 split
 ·exact R.word _ _
 ·omega
theorem RS.fbehind (R:RS m B nr nw cr cw I T) (c:C.Cpu) (s:σ):m.fuel s<=m.fuel (C.behind m c s).s:=by
 unfold C.behind
 simp only
 split
 ·exact Nat.le_trans (R.frdw _ _) (R.frdw _ _)
 ·exact R.frdw _ _
theorem zjI (R:RS m B nr nw cr cw I T) (r:Bool) (w:World) (p:Nat) (x:C.St σ) (hfu:4<=m.fuel x.s) (hP:PI B nr nw cr cw I T w p x) (hr:(r && x.c.May)=false) (hw:x.c.Waits=false) :
 Calls Tryz.prog 193 #[.pointer (some ⟨p,0,none⟩),.bool r] w (AP B nr nw cr cw I T w p x (C.order m x.c x.s)):=by
 have hF:=zkZ R w p x hP
 have b1:=zgc R x.c x.s
 have b2:=zn3 R x.c x.s
 unfold C.order
 generalize C.word1 m x.c x.s=a at hF b1 ⊢
 generalize C.word2 m x.c x.s=b at hF b2 ⊢
 have hfy:4<=m.fuel (C.behind m x.c x.s).s:=Nat.le_trans hfu (R.fbehind _ _)
 generalize C.behind m x.c x.s=y at hF hfy ⊢
 obtain ⟨h32,h30,hop⟩:=rk_bd a b1
 have hd:=rD_bd a
 have hs:=rS_bd a
 have hn:=rN_bd a
 have hv:=rW_bd a b b2
 have hn0:=rN_0 a
 unfold orderV at hF
 rw [hop] at hF
 generalize O.rk a=k at *
 generalize O.rN a=n at *
 generalize O.rW a b=v at *
 obtain ⟨d,ed⟩:=Int.eq_ofNat_of_zero_le hd.1
 obtain ⟨s,es⟩:=Int.eq_ofNat_of_zero_le hs.1
 rw [ed,es] at hF
 rw [ed] at hd
 rw [es] at hs
 rw [ed,es]
 have hd':d<8:=by omega
 have hs':s<8:=by omega
 clear hop
 have hk:k=0 \/ k=1 \/ k=2 \/ k=3 \/ k=4 \/ k=5 \/ k=6 \/ k=7 \/ k=8 \/ k=9 \/ k=10 \/ k=11 \/ k=12 \/ k=13 \/ k=14 \/ k=15 \/ k=16 \/ k=17 \/ k=18 \/ k=19 \/ k=20 \/ k=21 \/ k=22 \/ k=23 \/ k=24 \/ k=25 \/ k=26 \/ k=27 \/ k=28 \/ k=29 \/ k=31:=by omega
 rcases hk with rfl|rfl|rfl|rfl|rfl|rfl|rfl|rfl|rfl|rfl|rfl|rfl|rfl|rfl|rfl|rfl|rfl|rfl|rfl|rfl|rfl|rfl|rfl|rfl|rfl|rfl|rfl|rfl|rfl|rfl|rfl
 ·exact zaq R 0 (by decide) (by decide) 261 (λ_ _=>rfl) znT d s n v r w p x ⟨y.c,y.s,x.n⟩ hP hr hw hF (λW b12 b13 b16 b17 b18 b19 b29 hB h=>act_0 R d s n v hd' hs' hv.1 hv.2 W p _ h)
 ·exact zaq R 1 (by decide) (by decide) 262 (λ_ _=>rfl) znU d s n v r w p x ⟨y.c,y.s,x.n⟩ hP hr hw hF (λW b12 b13 b16 b17 b18 b19 b29 hB h=>act_1 R d s n v hd' hs' hv.1 hv.2 W p _ h)
 ·exact zaq R 2 (by decide) (by decide) 263 (λ_ _=>rfl) znV d s n v r w p x ⟨y.c,y.s,x.n⟩ hP hr hw hF (λW b12 b13 b16 b17 b18 b19 b29 hB h=>act_2 R d s n v hd' hs' hv.1 hv.2 W p _ h)
 ·exact zaq R 3 (by decide) (by decide) 264 (λ_ _=>rfl) znW d s n v r w p x ⟨y.c,y.s,x.n⟩ hP hr hw hF (λW b12 b13 b16 b17 b18 b19 b29 hB h=>act_3 R d s n v hd' hs' hv.1 hv.2 W p _ h)
 ·exact zaq R 4 (by decide) (by decide) 266 (λ_ _=>rfl) znX d s n v r w p x ⟨y.c,y.s,x.n⟩ hP hr hw hF (λW b12 b13 b16 b17 b18 b19 b29 hB h=>act_4 R d s n v hd' hs' hv.1 hv.2 W p _ (Nat.le_trans (by decide) hfy) h)
 ·exact zaq R 5 (by decide) (by decide) 268 (λ_ _=>rfl) znY d s n v r w p x ⟨y.c,y.s,x.n⟩ hP hr hw hF (λW b12 b13 b16 b17 b18 b19 b29 hB h=>act_5 R d s n v hd' hs' hv.1 hv.2 W p _ h)
 ·exact zaq R 6 (by decide) (by decide) 269 (λ_ _=>rfl) znZ d s n v r w p x ⟨y.c,y.s,x.n⟩ hP hr hw hF (λW b12 b13 b16 b17 b18 b19 b29 hB h=>act_6 R d s n v hd' hs' hv.1 hv.2 W p _ (Nat.le_trans (by decide) hfy) h)
 ·exact zaq R 7 (by decide) (by decide) 271 (λ_ _=>rfl) zn0 d s n v r w p x ⟨y.c,y.s,x.n⟩ hP hr hw hF (λW b12 b13 b16 b17 b18 b19 b29 hB h=>zcc R 7 (by unfold isFl;omega) d s n v hd' hs' hn W p _ h)
 ·exact zaq R 8 (by decide) (by decide) 271 (λ_ _=>rfl) zn1 d s n v r w p x ⟨y.c,y.s,x.n⟩ hP hr hw hF (λW b12 b13 b16 b17 b18 b19 b29 hB h=>zcc R 8 (by unfold isFl;omega) d s n v hd' hs' hn W p _ h)
 ·exact zaq R 9 (by decide) (by decide) 271 (λ_ _=>rfl) zn2 d s n v r w p x ⟨y.c,y.s,x.n⟩ hP hr hw hF (λW b12 b13 b16 b17 b18 b19 b29 hB h=>zcc R 9 (by unfold isFl;omega) d s n v hd' hs' hn W p _ h)
 ·exact zaq R 10 (by decide) (by decide) 271 (λ_ _=>rfl) zk0 d s n v r w p x ⟨y.c,y.s,x.n⟩ hP hr hw hF (λW b12 b13 b16 b17 b18 b19 b29 hB h=>zcc R 10 (by unfold isFl;omega) d s n v hd' hs' hn W p _ h)
 ·exact zaq R 11 (by decide) (by decide) 271 (λ_ _=>rfl) zk1 d s n v r w p x ⟨y.c,y.s,x.n⟩ hP hr hw hF (λW b12 b13 b16 b17 b18 b19 b29 hB h=>zcc R 11 (by unfold isFl;omega) d s n v hd' hs' hn W p _ h)
 ·exact zbs R 12 (by decide) (by decide) 316 (λ_ _=>rfl) (λb12 b13 b16 b17 b18 b19 b29=>b12) zk2 d s n v r w p x ⟨y.c,y.s,x.n⟩ hP hr hw hF (λW b12 b13 b16 b17 b18 b19 b29 hB h=>zrR R d s n v hd' hs' (hn0 (by decide)) hn.2 b12 W p _ h hB.1)
 ·exact zbs R 13 (by decide) (by decide) 316 (λ_ _=>rfl) (λb12 b13 b16 b17 b18 b19 b29=>b13) zk3 d s n v r w p x ⟨y.c,y.s,x.n⟩ hP hr hw hF (λW b12 b13 b16 b17 b18 b19 b29 hB h=>zrS R d s n v hd' hs' (hn0 (by decide)) hn.2 b13 W p _ h hB.2.1)
 ·exact zaq R 14 (by decide) (by decide) 275 (λ_ _=>rfl) zk4 d s n v r w p x ⟨y.c,y.s,x.n⟩ hP hr hw hF (λW b12 b13 b16 b17 b18 b19 b29 hB h=>zrG R d s n v hd' hs' hn W p _ h)
 ·exact zaq R 15 (by decide) (by decide) 277 (λ_ _=>rfl) zk5 d s n v r w p x ⟨y.c,y.s,x.n⟩ hP hr hw hF (λW b12 b13 b16 b17 b18 b19 b29 hB h=>zrH R d s n v hd' hs' hn W p _ h)
 ·exact zbs R 16 (by decide) (by decide) 320 (λ_ _=>rfl) (λb12 b13 b16 b17 b18 b19 b29=>b16) zk6 d s n v r w p x ⟨y.c,y.s,x.n⟩ hP hr hw hF (λW b12 b13 b16 b17 b18 b19 b29 hB h=>zqi R d s n v hv.1 hv.2 b16 W p _ (show (0:Int)<=K.cyc 16 by decide +kernel) (show K.cyc 16<=100 by decide +kernel) h hB.2.2.1)
 ·exact zbs R 17 (by decide) (by decide) 320 (λ_ _=>rfl) (λb12 b13 b16 b17 b18 b19 b29=>b17) zk7 d s n v r w p x ⟨y.c,y.s,x.n⟩ hP hr hw hF (λW b12 b13 b16 b17 b18 b19 b29 hB h=>zqj R d s n v hv.1 hv.2 b17 W p _ (show (0:Int)<=K.cyc 17 by decide +kernel) (show K.cyc 17<=100 by decide +kernel) h hB.2.2.2.1)
 ·exact zbs R 18 (by decide) (by decide) 320 (λ_ _=>rfl) (λb12 b13 b16 b17 b18 b19 b29=>b18) zk8 d s n v r w p x ⟨y.c,y.s,x.n⟩ hP hr hw hF (λW b12 b13 b16 b17 b18 b19 b29 hB h=>zqk R d s n v hv.1 hv.2 b18 W p _ (show (0:Int)<=K.cyc 18 by decide +kernel) (show K.cyc 18<=100 by decide +kernel) h hB.2.2.2.2.1)
 ·exact zbs R 19 (by decide) (by decide) 320 (λ_ _=>rfl) (λb12 b13 b16 b17 b18 b19 b29=>b19) zk9 d s n v r w p x ⟨y.c,y.s,x.n⟩ hP hr hw hF (λW b12 b13 b16 b17 b18 b19 b29 hB h=>zql R d s n v hv.1 hv.2 b19 W p _ (show (0:Int)<=K.cyc 19 by decide +kernel) (show K.cyc 19<=100 by decide +kernel) h hB.2.2.2.2.2.1)
 ·exact zaq R 20 (by decide) (by decide) 283 (λ_ _=>rfl) zla d s n v r w p x ⟨y.c,y.s,x.n⟩ hP hr hw hF (λW b12 b13 b16 b17 b18 b19 b29 hB h=>zrI R d s n v hd' hs' hv.1 hv.2 W p _ (Nat.le_trans (by decide) hfy) h)
 ·exact zaq R 21 (by decide) (by decide) 284 (λ_ _=>rfl) zlb d s n v r w p x ⟨y.c,y.s,x.n⟩ hP hr hw hF (λW b12 b13 b16 b17 b18 b19 b29 hB h=>zrJ R d s n v hd' hs' hv.1 hv.2 W p _ h)
 ·exact zaq R 22 (by decide) (by decide) 286 (λ_ _=>rfl) zlc d s n v r w p x ⟨y.c,y.s,x.n⟩ hP hr hw hF (λW b12 b13 b16 b17 b18 b19 b29 hB h=>zrK R d s n v hd' hs' hv.1 hv.2 W p _ (Nat.le_trans (by decide) hfy) h)
 ·exact zaq R 23 (by decide) (by decide) 287 (λ_ _=>rfl) zld d s n v r w p x ⟨y.c,y.s,x.n⟩ hP hr hw hF (λW b12 b13 b16 b17 b18 b19 b29 hB h=>zrL R d s n v hd' hs' hv.1 hv.2 W p _ h)
 ·exact zaq R 24 (by decide) (by decide) 288 (λ_ _=>rfl) zle d s n v r w p x ⟨y.c,y.s,x.n⟩ hP hr hw hF (λW b12 b13 b16 b17 b18 b19 b29 hB h=>zrM R d s n v hd' hs' hv.1 hv.2 W p _ h)
 ·exact zaq R 25 (by decide) (by decide) 289 (λ_ _=>rfl) zlf d s n v r w p x ⟨y.c,y.s,x.n⟩ hP hr hw hF (λW b12 b13 b16 b17 b18 b19 b29 hB h=>zrN R d s n v hd' hs' hv.1 hv.2 W p _ h)
 ·exact zaq R 26 (by decide) (by decide) 290 (λ_ _=>rfl) zlg d s n v r w p x ⟨y.c,y.s,x.n⟩ hP hr hw hF (λW b12 b13 b16 b17 b18 b19 b29 hB h=>zrP R d s n v hd' hs' hv.1 hv.2 W p _ h)
 ·exact zaq R 27 (by decide) (by decide) 292 (λ_ _=>rfl) zlh d s n v r w p x ⟨y.c,y.s,x.n⟩ hP hr hw hF (λW b12 b13 b16 b17 b18 b19 b29 hB h=>zrO R d s n v hd' hs' hv.1 hv.2 W p _ h)
 ·exact zaq R 28 (by decide) (by decide) 271 (λ_ _=>rfl) zli d s n v r w p x ⟨y.c,y.s,x.n⟩ hP hr hw hF (λW b12 b13 b16 b17 b18 b19 b29 hB h=>zcc R 28 (by unfold isFl;omega) d s n v hd' hs' hn W p _ h)
 ·exact zbs R 29 (by decide) (by decide) 320 (λ_ _=>rfl) (λb12 b13 b16 b17 b18 b19 b29=>b29) zlj d s n v r w p x ⟨y.c,y.s,x.n⟩ hP hr hw hF (λW b12 b13 b16 b17 b18 b19 b29 hB h=>zqm R d s n v hv.1 hv.2 b29 W p _ (show (0:Int)<=K.cyc 29 by decide +kernel) (show K.cyc 29<=100 by decide +kernel) h hB.2.2.2.2.2.2)
 ·exact zaq R 31 (by decide) (by decide) 294 (λ_ _=>rfl) zlk d s n v r w p x ⟨y.c,y.s,x.n⟩ hP hr hw hF (λW b12 b13 b16 b17 b18 b19 b29 hB h=>zrQ R d s n v hd' hs' hv.1 hv.2 W p _ (Nat.le_trans (by decide) hfy) h)
theorem zjJ (R:RS m B nr nw cr cw I T) (w:World) (p:Nat) (x:C.St σ) (hfu:4<=m.fuel x.s) (hP:PI B nr nw cr cw I T w p x) (hm:x.c.May=true) :
 Calls Tryz.prog 193 #[.pointer (some ⟨p,0,none⟩),.bool true] w (AP B nr nw cr cw I T w p x { C.leave m x 2 with n:=6 }):=by
 obtain ⟨_,_,_,_,_,c13,c14,_,_,_⟩:=hP.cells
 have hlt:=hP.lt
 rw [hm] at c13
 have HP:=hid hP
 have HR:=hid R
 have HFU:=hid hfu
 clear hP R hm hfu
 go_enter Tryz.func193,Tryz.ntmps193
 go_wp2_with (go_at_call 229;refine (zht HR.out 2 (by omega) (by omega) _ p x HFU.out HP.out).mono ?_;rintro e w1 ⟨rfl,hP1,hm1⟩;have hl1:=hP1.lt;have f1:=hP1.frozen 17;obtain ⟨_,_,_,_,_,_,_,_,_,e17⟩:=hP1.cells;have HY1:=hid hP1;clear hP1)
 go_end0
 exact ⟨rfl,HY1.out.putCyc HR.out 6,PM.set hm1 HP.out.big 17 _⟩
theorem zll (R:RS m B nr nw cr cw I T) (r:Bool) (w:World) (p:Nat) (x:C.St σ) (hP:PI B nr nw cr cw I T w p x) (hr:(r && x.c.May)=false) (hw:x.c.Waits=true) :
 Calls Tryz.prog 193 #[.pointer (some ⟨p,0,none⟩),.bool r] w (AP B nr nw cr cw I T w p x ⟨x.c,x.s,1⟩):=by
 obtain ⟨_,_,_,_,_,c13,c14,_,_,c17⟩:=hP.cells
 have hlt:=hP.lt
 have hf:=hP.frozen 17
 rw [hw] at c14
 have HP:=hid hP
 have HR:=hid R
 clear hP R hw
 cases r
 ·go_enter Tryz.func193,Tryz.ntmps193
  go_wp2
  go_end0
  exact ⟨rfl,HP.out.putCyc HR.out 1,(PM.refl B T p x.s w).set HP.out.big 17 _⟩
 ·simp only [Bool.true_and] at hr
  rw [hr] at c13
  clear hr
  go_enter Tryz.func193,Tryz.ntmps193
  go_wp2
  go_end0
  exact ⟨rfl,HP.out.putCyc HR.out 1,(PM.refl B T p x.s w).set HP.out.big 17 _⟩
theorem zn4 (R:RS m B nr nw cr cw I T) (r:Bool) (w:World) (p:Nat) (c:C.Cpu) (s:σ) (hfu:4<=m.fuel s) (hP:PI B nr nw cr cw I T w p ⟨c,s,0⟩) :
 Calls Tryz.prog 193 #[.pointer (some ⟨p,0,none⟩),.bool r] w (AP B nr nw cr cw I T w p ⟨c,s,0⟩ (C.step m c s r)):=by
 unfold C.step
 cases hr:r && c.May
 ·rw [if_neg (by simp)]
  cases hw:c.Waits
  ·rw [if_neg (by simp)];exact zjI R r w p ⟨c,s,0⟩ hfu hP hr hw
  ·rw [if_pos rfl];exact zll R r w p ⟨c,s,0⟩ hP hr hw
 ·rw [if_pos rfl]
  obtain ⟨h1,h2⟩:=Bool.and_eq_true_iff.1 hr
  subst h1
  exact zjJ R w p ⟨c,s,0⟩ hfu hP h2
end
section
variable {σ : Type} {m : C.Mem σ} {B nr nw : Nat} {cr cw : Array Value × Array Value} {I : World -> σ -> Prop} {T : σ -> Nat -> Prop}
theorem zjK (c:C.Cpu) (hc:c.R.length=8) (fr fw:Value) (n:Int):(#[.int .u16 (c.r 0),.int .u16 (c.r 1),.int .u16 (c.r 2),.int .u16 (c.r 3),.int .u16 (c.r 4),.int .u16 (c.r 5),.int .u16 (c.r 6),.int .u16 (c.r 7),.int .u16 c.PC,.bool c.Z,.bool c.N,.bool c.C,.bool c.V,.bool c.May,.bool c.Waits,fr,fw,.int .i64 n]:Array Value)=pcells c fr fw n:=by
 obtain ⟨a0,a1,a2,a3,a4,a5,a6,a7,h⟩:=reg8 hc
 unfold pcells cpuCells C.Cpu.r
 rw [h]
 rfl
theorem PI.new (R:RS m B nr nw cr cw I T) {W:World} {c:C.Cpu} {s:σ} (hI:I W s) (hc:c.ok) {cs:Array Value} (e:cs=pcells c (fw nr cr) (fw nw cw) 0) {p:Nat} (hp:p=W.heap.size):PI B nr nw cr cw I T (W.alloc (.cells cs 275)) p ⟨c,s,0⟩:=by
 subst hp
 subst e
 exact ⟨R.kept hI (stA (st0 W) _),R.out hI (Nat.le_refl _),R.big hI,heap_alloc_new W _,hc⟩
theorem zcI (b:Nat):∀ (vs:List Value) (o:Nat) (w:World) (k:Nat),k≠b->(w.setCells b o vs).heap[k]? = w.heap[k]?
 | [],o,w,k,h=>rfl
 | v::vs,o,w,k,h=>(zcI b vs (o+1) _ k h).trans (Below.heap_setCell _ _ _ _ h)
theorem setCells_size (b:Nat):∀ (vs:List Value) (o:Nat) (w:World),(w.setCells b o vs).heap.size=w.heap.size
 | [],o,w=>rfl
 | v::vs,o,w=>(setCells_size b vs (o+1) _).trans (zbe _ _ _)
theorem cutB {P:Program} {fn:Func} {R:Ending->World->Prop} {e:Exit} {a:Act} {w:World} (K:World->Prop) (h:K w) (k:∀ w',K w'->bodyPost P fn R e a w'):bodyPost P fn R e a w:=k w h
theorem PM.gone {w W w1:World} {p:Nat} {s s':σ} (h:PM B T p s s' W w1) (hb:Below w.heap.size w W) (hB:B<=w.heap.size) (hp:w.heap.size<=p) (ho:¬ Tw T w1 s' p):Mv B (Tw T w s) (Tw T w1 s') w w1 :=
 ⟨(hb.mono hB).trans h.below,λk hk ht=>(h.block k (Nat.lt_of_lt_of_le hk hb.size) (λe=>e.elim (λx=>by omega) (λy=>ht (y.same (hb.block k hk))))).trans (hb.block k hk),λk hk=>by
   rcases h.fresh k (Or.inr hk) with (x|x)|x
   ·subst x;exact absurd hk ho
   ·exact x.low hb
   ·exact Or.inr (Nat.le_trans hb.size x)⟩
abbrev cpuLC (c:C.Cpu):List Value:=[.int .u16 (c.r 0),.int .u16 (c.r 1),.int .u16 (c.r 2),.int .u16 (c.r 3),.int .u16 (c.r 4),.int .u16 (c.r 5),.int .u16 (c.r 6),.int .u16 (c.r 7),.int .u16 c.PC,.bool c.Z,.bool c.N,.bool c.C,.bool c.V,.bool c.May,.bool c.Waits]
theorem zhw (W:World) (q:Nat) (c:C.Cpu):(((((((((((((((W.setCell ⟨q,0,none⟩ (.int .u16 (c.r 0))).setCell ⟨q,1,none⟩ (.int .u16 (c.r 1))).setCell ⟨q,2,none⟩ (.int .u16 (c.r 2))).setCell ⟨q,3,none⟩ (.int .u16 (c.r 3))).setCell ⟨q,4,none⟩ (.int .u16 (c.r 4))).setCell ⟨q,5,none⟩ (.int .u16 (c.r 5))).setCell ⟨q,6,none⟩ (.int .u16 (c.r 6))).setCell ⟨q,7,none⟩ (.int .u16 (c.r 7))).setCell ⟨q,8,none⟩ (.int .u16 c.PC)).setCell ⟨q,9,none⟩ (.bool c.Z)).setCell ⟨q,10,none⟩ (.bool c.N)).setCell ⟨q,11,none⟩ (.bool c.C)).setCell ⟨q,12,none⟩ (.bool c.V)).setCell ⟨q,13,none⟩ (.bool c.May)).setCell ⟨q,14,none⟩ (.bool c.Waits))=W.setCells q 0 (cpuLC c):=by simp only [World.setCells,Nat.zero_add,Nat.reduceAdd]
theorem qz (W:World) (o:Obj) (b i:Nat) (cs:Array Value) {t:TypeId} (h:b=W.heap.size):((W.alloc (.cells cs t)).alloc o).cell? ⟨b,i,none⟩=cs[i]?:=by
 subst h
 rw [World.cell?_alloc_lt _ _ _ (by simp)]
 exact zai _ _ _ _ rfl
theorem qzf (W:World) (o:Obj) (b i:Nat) (cs:Array Value) {t:TypeId} (h:b=W.heap.size):((W.alloc (.cells cs t)).alloc o).frozen? ⟨b,i,none⟩=false:=by
 subst h
 exact (World.frozen?_of_block (w:=W.alloc (.cells cs t)) (heap_alloc_old _ _ (by simp))).trans (Lib.frozen_of_heap (heap_alloc_new W _) i)
theorem drew16 (X:World) (p:Nat) (y:C.St σ) (h:X.cell? ⟨p,0,none⟩=some (.int .u16 (y.c.r 0))/\X.cell? ⟨p,1,none⟩=some (.int .u16 (y.c.r 1))/\X.cell? ⟨p,2,none⟩=some (.int .u16 (y.c.r 2))/\X.cell? ⟨p,3,none⟩=some (.int .u16 (y.c.r 3))/\X.cell? ⟨p,4,none⟩=some (.int .u16 (y.c.r 4))/\X.cell? ⟨p,5,none⟩=some (.int .u16 (y.c.r 5))/\X.cell? ⟨p,6,none⟩=some (.int .u16 (y.c.r 6))/\X.cell? ⟨p,7,none⟩=some (.int .u16 (y.c.r 7))/\X.cell? ⟨p,8,none⟩=some (.int .u16 y.c.PC)/\X.cell? ⟨p,9,none⟩=some (.bool y.c.Z)/\X.cell? ⟨p,10,none⟩=some (.bool y.c.N)/\X.cell? ⟨p,11,none⟩=some (.bool y.c.C)/\X.cell? ⟨p,12,none⟩=some (.bool y.c.V)/\X.cell? ⟨p,13,none⟩=some (.bool y.c.May)/\X.cell? ⟨p,14,none⟩=some (.bool y.c.Waits)/\X.cell? ⟨p,17,none⟩=some (.int .i64 y.n)):X.drew.cell? ⟨p,0,none⟩=some (.int .u16 (y.c.r 0))/\X.drew.cell? ⟨p,1,none⟩=some (.int .u16 (y.c.r 1))/\X.drew.cell? ⟨p,2,none⟩=some (.int .u16 (y.c.r 2))/\X.drew.cell? ⟨p,3,none⟩=some (.int .u16 (y.c.r 3))/\X.drew.cell? ⟨p,4,none⟩=some (.int .u16 (y.c.r 4))/\X.drew.cell? ⟨p,5,none⟩=some (.int .u16 (y.c.r 5))/\X.drew.cell? ⟨p,6,none⟩=some (.int .u16 (y.c.r 6))/\X.drew.cell? ⟨p,7,none⟩=some (.int .u16 (y.c.r 7))/\X.drew.cell? ⟨p,8,none⟩=some (.int .u16 y.c.PC)/\X.drew.cell? ⟨p,9,none⟩=some (.bool y.c.Z)/\X.drew.cell? ⟨p,10,none⟩=some (.bool y.c.N)/\X.drew.cell? ⟨p,11,none⟩=some (.bool y.c.C)/\X.drew.cell? ⟨p,12,none⟩=some (.bool y.c.V)/\X.drew.cell? ⟨p,13,none⟩=some (.bool y.c.May)/\X.drew.cell? ⟨p,14,none⟩=some (.bool y.c.Waits)/\X.drew.cell? ⟨p,17,none⟩=some (.int .i64 y.n):=h
theorem zbf:(Tryz.prog.info? 25).map (·.size)=some 15:=by kernel_rfl
theorem zn5 (W:World) (q:Nat) (c:C.Cpu) (h:W.rangeAt q 0 (cpuLC c)):(loadVar 25 ⟨q,0,none⟩).run Tryz.prog W = .ok (cpuV c) W :=
 run_loadVar_mid W q 0 25 (cpuLC c) _ h Tryz.underlying25 rfl zbf
theorem endK (R:RS m B nr nw cr cw I T) {w w1:World} {s s':σ} {q:Nat} (L:List Value) (hI:I w1 s') (h0:Mv B (Tw T w s) (Tw T w1 s') w w1) (hT:¬ Tw T w1 s' q) (hq:w.heap.size<=q) (hth:w1.there q 0 L.length) (hB:B<=w.heap.size) :
 I (w1.setCells q 0 L).drew s'/\Mv B (Tw T w s) (Tw T (w1.setCells q 0 L).drew s') w (w1.setCells q 0 L).drew/\(w1.setCells q 0 L).drew.rangeAt q 0 L:=by
 have hs:=setCells_size q L 0 w1
 have hh:=zcI q L 0 w1
 have hb:=below_setCells (n:=B) (a:=w) (b:=q) (by omega) L 0 w1 h0.below
 have hr:=World.rangeAt_setCells_same w1 q 0 L hth
 have hts:∀ k,Tw T (w1.setCells q 0 L) s' k->Tw T w1 s' k:=λk=>Tw.sets
 generalize w1.setCells q 0 L=X at *
 exact ⟨R.keep (w':=X.drew) hI (Nat.le_of_eq hs.symm) (λk hk=>hh k (λe=>hT (e ▸ hk))),⟨hb.drew,λk hk ht=>(hh k (by omega)).trans (h0.block k hk ht),λk hk=>h0.fresh k (hts k hk)⟩,hr⟩
theorem Tw.third {w:World} {s:σ} {o1 o2 o4:Obj} {cs:Array Value} {t:TypeId} (h:¬ T s (w.heap.size+1+1)) (ht:t≠66):¬ Tw T ((((w.alloc o1).alloc o2).alloc (.cells cs t)).alloc o4) s (w.heap.size+1+1) :=
 Tw.of h (by
  have e:=heap_alloc_new ((w.alloc o1).alloc o2) (.cells cs t)
  have z:((w.alloc o1).alloc o2).heap.size=w.heap.size+1+1:=by simp
  rw [z] at e
  exact (Below.heap_alloc _ _ _ (by simp)).trans e) ht
theorem zpw (R:RS m B nr nw cr cw I T) (r:Bool) (w:World) (c:C.Cpu) (s:σ) (hc:c.ok) (hfu:4<=m.fuel s) (hI:I w s) :
 Calls Tryz.prog 112 #[cpuV c,.agg #[fw nr cr,fw nw cw],.bool r] w λe w'=>e = .returned (.tuple #[cpuV (C.step m c s r).c,.int .i64 (C.step m c s r).n])/\I w' (C.step m c s r).s/\Mv B (Tw T w s) (Tw T w' (C.step m c s r).s) w w'/\(C.step m c s r).c.ok:=by
 have HR:=hid R
 have HI:=hid hI
 have HC:=hid hc
 have HS:=hid (λW p h=>zn4 (m:=m) R r W p c s hfu h)
 clear hI R hc
 generalize C.step m c s r=y at HS ⊢
 go_enter Tryz.func112,Tryz.ntmps112
 go_wp2_with (go_at_call 193;refine (HS.out _ _ ?_).mono ?_;(exact PI.new HR.out (HR.out.kept HI.out (stA (stA (stA (st0 w) _) _) _)) HC.out (zjK c HC.out.1 _ _ _) (by simp));rintro e w1 ⟨rfl,hP1,hm1⟩)
 obtain ⟨d8,d9,d10,d11,d12,d13,d14,_,_,d17⟩:=hP1.cells
 obtain ⟨d0,d1,d2,d3,d4,d5,d6,d7⟩:=hP1.regs
 have dl:=hP1.lt
 have hq:=λo=>PM.cell hm1 (k:=w.heap.size+1+1) (by simp) (by omega) (Tw.third (HR.out.out HI.out (by omega)) (by decide)) o
 have hqf:=λo=>PM.froz hm1 (k:=w.heap.size+1+1) (by simp) (by omega) (Tw.third (HR.out.out HI.out (by omega)) (by decide)) o
 have hql:w.heap.size+1+1<w1.heap.size:=by omega
 have HY1:=hid hP1
 have HM1:=hid hm1
 clear hP1 hm1
 have hrg:w1.rangeAt (w.heap.size+1+1+1) 0 (cpuLC y.c):=λj v hj=>by
  have hj':j<15:=(List.getElem?_eq_some_iff.1 hj).1
  have hc:j=0 \/ j=1 \/ j=2 \/ j=3 \/ j=4 \/ j=5 \/ j=6 \/ j=7 \/ j=8 \/ j=9 \/ j=10 \/ j=11 \/ j=12 \/ j=13 \/ j=14:=by omega
  rcases hc with rfl|rfl|rfl|rfl|rfl|rfl|rfl|rfl|rfl|rfl|rfl|rfl|rfl|rfl|rfl <;> cases hj <;> assumption
 have hth:w1.there (w.heap.size+1+1) 0 15:=λj hj=>by
  have hW:∀ (W:World) (cs:Array Value) (t:TypeId) (o:Obj),W.heap.size=w.heap.size+1+1->cs.size=15->(((W.alloc (.cells cs t)).alloc o).cell? ⟨w.heap.size+1+1,0+j,none⟩).isSome=true/\((W.alloc (.cells cs t)).alloc o).frozen? ⟨w.heap.size+1+1,0+j,none⟩=false:=λW cs t o hs hc=>by
   have:=World.there_alloc (zdO W cs t 15 hc) o j hj
   rwa [hs] at this
  rw [hq,hqf]
  exact hW _ _ _ _ (by simp) rfl
 have HK0:w1.drew.cell? ⟨w.heap.size+1+1+1,0,none⟩=some (.int .u16 (y.c.r 0))/\w1.drew.cell? ⟨w.heap.size+1+1+1,1,none⟩=some (.int .u16 (y.c.r 1))/\w1.drew.cell? ⟨w.heap.size+1+1+1,2,none⟩=some (.int .u16 (y.c.r 2))/\w1.drew.cell? ⟨w.heap.size+1+1+1,3,none⟩=some (.int .u16 (y.c.r 3))/\w1.drew.cell? ⟨w.heap.size+1+1+1,4,none⟩=some (.int .u16 (y.c.r 4))/\w1.drew.cell? ⟨w.heap.size+1+1+1,5,none⟩=some (.int .u16 (y.c.r 5))/\w1.drew.cell? ⟨w.heap.size+1+1+1,6,none⟩=some (.int .u16 (y.c.r 6))/\w1.drew.cell? ⟨w.heap.size+1+1+1,7,none⟩=some (.int .u16 (y.c.r 7))/\w1.drew.cell? ⟨w.heap.size+1+1+1,8,none⟩=some (.int .u16 y.c.PC)/\w1.drew.cell? ⟨w.heap.size+1+1+1,9,none⟩=some (.bool y.c.Z)/\w1.drew.cell? ⟨w.heap.size+1+1+1,10,none⟩=some (.bool y.c.N)/\w1.drew.cell? ⟨w.heap.size+1+1+1,11,none⟩=some (.bool y.c.C)/\w1.drew.cell? ⟨w.heap.size+1+1+1,12,none⟩=some (.bool y.c.V)/\w1.drew.cell? ⟨w.heap.size+1+1+1,13,none⟩=some (.bool y.c.May)/\w1.drew.cell? ⟨w.heap.size+1+1+1,14,none⟩=some (.bool y.c.Waits)/\w1.drew.cell? ⟨w.heap.size+1+1+1,17,none⟩=some (.int .i64 y.n):=drew16 _ (w.heap.size+1+1+1) y ⟨d0,d1,d2,d3,d4,d5,d6,d7,d8,d9,d10,d11,d12,d13,d14,d17⟩
 have HK1:∀ W:World,(W.cell? ⟨w.heap.size+1+1+1,0,none⟩=some (.int .u16 (y.c.r 0))/\W.cell? ⟨w.heap.size+1+1+1,1,none⟩=some (.int .u16 (y.c.r 1))/\W.cell? ⟨w.heap.size+1+1+1,2,none⟩=some (.int .u16 (y.c.r 2))/\W.cell? ⟨w.heap.size+1+1+1,3,none⟩=some (.int .u16 (y.c.r 3))/\W.cell? ⟨w.heap.size+1+1+1,4,none⟩=some (.int .u16 (y.c.r 4))/\W.cell? ⟨w.heap.size+1+1+1,5,none⟩=some (.int .u16 (y.c.r 5))/\W.cell? ⟨w.heap.size+1+1+1,6,none⟩=some (.int .u16 (y.c.r 6))/\W.cell? ⟨w.heap.size+1+1+1,7,none⟩=some (.int .u16 (y.c.r 7))/\W.cell? ⟨w.heap.size+1+1+1,8,none⟩=some (.int .u16 y.c.PC)/\W.cell? ⟨w.heap.size+1+1+1,9,none⟩=some (.bool y.c.Z)/\W.cell? ⟨w.heap.size+1+1+1,10,none⟩=some (.bool y.c.N)/\W.cell? ⟨w.heap.size+1+1+1,11,none⟩=some (.bool y.c.C)/\W.cell? ⟨w.heap.size+1+1+1,12,none⟩=some (.bool y.c.V)/\W.cell? ⟨w.heap.size+1+1+1,13,none⟩=some (.bool y.c.May)/\W.cell? ⟨w.heap.size+1+1+1,14,none⟩=some (.bool y.c.Waits)/\W.cell? ⟨w.heap.size+1+1+1,17,none⟩=some (.int .i64 y.n))->((W.setCells (w.heap.size+1+1) 0 (cpuLC y.c)).cell? ⟨w.heap.size+1+1+1,0,none⟩=some (.int .u16 (y.c.r 0))/\(W.setCells (w.heap.size+1+1) 0 (cpuLC y.c)).cell? ⟨w.heap.size+1+1+1,1,none⟩=some (.int .u16 (y.c.r 1))/\(W.setCells (w.heap.size+1+1) 0 (cpuLC y.c)).cell? ⟨w.heap.size+1+1+1,2,none⟩=some (.int .u16 (y.c.r 2))/\(W.setCells (w.heap.size+1+1) 0 (cpuLC y.c)).cell? ⟨w.heap.size+1+1+1,3,none⟩=some (.int .u16 (y.c.r 3))/\(W.setCells (w.heap.size+1+1) 0 (cpuLC y.c)).cell? ⟨w.heap.size+1+1+1,4,none⟩=some (.int .u16 (y.c.r 4))/\(W.setCells (w.heap.size+1+1) 0 (cpuLC y.c)).cell? ⟨w.heap.size+1+1+1,5,none⟩=some (.int .u16 (y.c.r 5))/\(W.setCells (w.heap.size+1+1) 0 (cpuLC y.c)).cell? ⟨w.heap.size+1+1+1,6,none⟩=some (.int .u16 (y.c.r 6))/\(W.setCells (w.heap.size+1+1) 0 (cpuLC y.c)).cell? ⟨w.heap.size+1+1+1,7,none⟩=some (.int .u16 (y.c.r 7))/\(W.setCells (w.heap.size+1+1) 0 (cpuLC y.c)).cell? ⟨w.heap.size+1+1+1,8,none⟩=some (.int .u16 y.c.PC)/\(W.setCells (w.heap.size+1+1) 0 (cpuLC y.c)).cell? ⟨w.heap.size+1+1+1,9,none⟩=some (.bool y.c.Z)/\(W.setCells (w.heap.size+1+1) 0 (cpuLC y.c)).cell? ⟨w.heap.size+1+1+1,10,none⟩=some (.bool y.c.N)/\(W.setCells (w.heap.size+1+1) 0 (cpuLC y.c)).cell? ⟨w.heap.size+1+1+1,11,none⟩=some (.bool y.c.C)/\(W.setCells (w.heap.size+1+1) 0 (cpuLC y.c)).cell? ⟨w.heap.size+1+1+1,12,none⟩=some (.bool y.c.V)/\(W.setCells (w.heap.size+1+1) 0 (cpuLC y.c)).cell? ⟨w.heap.size+1+1+1,13,none⟩=some (.bool y.c.May)/\(W.setCells (w.heap.size+1+1) 0 (cpuLC y.c)).cell? ⟨w.heap.size+1+1+1,14,none⟩=some (.bool y.c.Waits)/\(W.setCells (w.heap.size+1+1) 0 (cpuLC y.c)).cell? ⟨w.heap.size+1+1+1,17,none⟩=some (.int .i64 y.n)):=λW ⟨e0,e1,e2,e3,e4,e5,e6,e7,e8,e9,e10,e11,e12,e13,e14,e17⟩=>by
  have hout:∀ (i:Nat) (u:Value),W.cell? ⟨w.heap.size+1+1+1,i,none⟩=some u->(W.setCells (w.heap.size+1+1) 0 (cpuLC y.c)).cell? ⟨w.heap.size+1+1+1,i,none⟩=some u:=λi u h=>(World.cell?_setCells_out _ _ _ _ _ (λe=>by simp at e)).trans h
  exact ⟨hout _ _ e0,hout _ _ e1,hout _ _ e2,hout _ _ e3,hout _ _ e4,hout _ _ e5,hout _ _ e6,hout _ _ e7,hout _ _ e8,hout _ _ e9,hout _ _ e10,hout _ _ e11,hout _ _ e12,hout _ _ e13,hout _ _ e14,hout _ _ e17⟩
 have HK2:(w1.setCells (w.heap.size+1+1) 0 (cpuLC y.c)).drew.cell? ⟨w.heap.size+1+1+1,0,none⟩=some (.int .u16 (y.c.r 0))/\(w1.setCells (w.heap.size+1+1) 0 (cpuLC y.c)).drew.cell? ⟨w.heap.size+1+1+1,1,none⟩=some (.int .u16 (y.c.r 1))/\(w1.setCells (w.heap.size+1+1) 0 (cpuLC y.c)).drew.cell? ⟨w.heap.size+1+1+1,2,none⟩=some (.int .u16 (y.c.r 2))/\(w1.setCells (w.heap.size+1+1) 0 (cpuLC y.c)).drew.cell? ⟨w.heap.size+1+1+1,3,none⟩=some (.int .u16 (y.c.r 3))/\(w1.setCells (w.heap.size+1+1) 0 (cpuLC y.c)).drew.cell? ⟨w.heap.size+1+1+1,4,none⟩=some (.int .u16 (y.c.r 4))/\(w1.setCells (w.heap.size+1+1) 0 (cpuLC y.c)).drew.cell? ⟨w.heap.size+1+1+1,5,none⟩=some (.int .u16 (y.c.r 5))/\(w1.setCells (w.heap.size+1+1) 0 (cpuLC y.c)).drew.cell? ⟨w.heap.size+1+1+1,6,none⟩=some (.int .u16 (y.c.r 6))/\(w1.setCells (w.heap.size+1+1) 0 (cpuLC y.c)).drew.cell? ⟨w.heap.size+1+1+1,7,none⟩=some (.int .u16 (y.c.r 7))/\(w1.setCells (w.heap.size+1+1) 0 (cpuLC y.c)).drew.cell? ⟨w.heap.size+1+1+1,8,none⟩=some (.int .u16 y.c.PC)/\(w1.setCells (w.heap.size+1+1) 0 (cpuLC y.c)).drew.cell? ⟨w.heap.size+1+1+1,9,none⟩=some (.bool y.c.Z)/\(w1.setCells (w.heap.size+1+1) 0 (cpuLC y.c)).drew.cell? ⟨w.heap.size+1+1+1,10,none⟩=some (.bool y.c.N)/\(w1.setCells (w.heap.size+1+1) 0 (cpuLC y.c)).drew.cell? ⟨w.heap.size+1+1+1,11,none⟩=some (.bool y.c.C)/\(w1.setCells (w.heap.size+1+1) 0 (cpuLC y.c)).drew.cell? ⟨w.heap.size+1+1+1,12,none⟩=some (.bool y.c.V)/\(w1.setCells (w.heap.size+1+1) 0 (cpuLC y.c)).drew.cell? ⟨w.heap.size+1+1+1,13,none⟩=some (.bool y.c.May)/\(w1.setCells (w.heap.size+1+1) 0 (cpuLC y.c)).drew.cell? ⟨w.heap.size+1+1+1,14,none⟩=some (.bool y.c.Waits)/\(w1.setCells (w.heap.size+1+1) 0 (cpuLC y.c)).drew.cell? ⟨w.heap.size+1+1+1,17,none⟩=some (.int .i64 y.n):=drew16 _ (w.heap.size+1+1+1) y (HK1 w1 ⟨d0,d1,d2,d3,d4,d5,d6,d7,d8,d9,d10,d11,d12,d13,d14,d17⟩)
 have z0:w1.cell? ⟨w.heap.size+1+1,0,none⟩=some (.int .u16 0):=(hq 0).trans (qz _ _ _ _ _ (by simp))
 have z1:w1.cell? ⟨w.heap.size+1+1,1,none⟩=some (.int .u16 0):=(hq 1).trans (qz _ _ _ _ _ (by simp))
 have z2:w1.cell? ⟨w.heap.size+1+1,2,none⟩=some (.int .u16 0):=(hq 2).trans (qz _ _ _ _ _ (by simp))
 have z3:w1.cell? ⟨w.heap.size+1+1,3,none⟩=some (.int .u16 0):=(hq 3).trans (qz _ _ _ _ _ (by simp))
 have z4:w1.cell? ⟨w.heap.size+1+1,4,none⟩=some (.int .u16 0):=(hq 4).trans (qz _ _ _ _ _ (by simp))
 have z5:w1.cell? ⟨w.heap.size+1+1,5,none⟩=some (.int .u16 0):=(hq 5).trans (qz _ _ _ _ _ (by simp))
 have z6:w1.cell? ⟨w.heap.size+1+1,6,none⟩=some (.int .u16 0):=(hq 6).trans (qz _ _ _ _ _ (by simp))
 have z7:w1.cell? ⟨w.heap.size+1+1,7,none⟩=some (.int .u16 0):=(hq 7).trans (qz _ _ _ _ _ (by simp))
 have z8:w1.cell? ⟨w.heap.size+1+1,8,none⟩=some (.int .u16 0):=(hq 8).trans (qz _ _ _ _ _ (by simp))
 have z9:w1.cell? ⟨w.heap.size+1+1,9,none⟩=some (.bool false):=(hq 9).trans (qz _ _ _ _ _ (by simp))
 have z10:w1.cell? ⟨w.heap.size+1+1,10,none⟩=some (.bool false):=(hq 10).trans (qz _ _ _ _ _ (by simp))
 have z11:w1.cell? ⟨w.heap.size+1+1,11,none⟩=some (.bool false):=(hq 11).trans (qz _ _ _ _ _ (by simp))
 have z12:w1.cell? ⟨w.heap.size+1+1,12,none⟩=some (.bool false):=(hq 12).trans (qz _ _ _ _ _ (by simp))
 have z13:w1.cell? ⟨w.heap.size+1+1,13,none⟩=some (.bool false):=(hq 13).trans (qz _ _ _ _ _ (by simp))
 have z14:w1.cell? ⟨w.heap.size+1+1,14,none⟩=some (.bool false):=(hq 14).trans (qz _ _ _ _ _ (by simp))
 have zf:∀ o,w1.frozen? ⟨w.heap.size+1+1,o,none⟩=false:=λo=>(hqf o).trans (qzf _ _ _ _ _ (by simp))
 have HTH:=hid hth
 clear HK1
 clear d0 d1 d2 d3 d4 d5 d6 d7 d8 d9 d10 d11 d12 d13 d14 d17 hrg hth hq hqf
 go_region_held3 (λw'=>w'.cell? ⟨w.heap.size+1+1+1,0,none⟩=some (.int .u16 (y.c.r 0))/\w'.cell? ⟨w.heap.size+1+1+1,1,none⟩=some (.int .u16 (y.c.r 1))/\w'.cell? ⟨w.heap.size+1+1+1,2,none⟩=some (.int .u16 (y.c.r 2))/\w'.cell? ⟨w.heap.size+1+1+1,3,none⟩=some (.int .u16 (y.c.r 3))/\w'.cell? ⟨w.heap.size+1+1+1,4,none⟩=some (.int .u16 (y.c.r 4))/\w'.cell? ⟨w.heap.size+1+1+1,5,none⟩=some (.int .u16 (y.c.r 5))/\w'.cell? ⟨w.heap.size+1+1+1,6,none⟩=some (.int .u16 (y.c.r 6))/\w'.cell? ⟨w.heap.size+1+1+1,7,none⟩=some (.int .u16 (y.c.r 7))/\w'.cell? ⟨w.heap.size+1+1+1,8,none⟩=some (.int .u16 y.c.PC)/\w'.cell? ⟨w.heap.size+1+1+1,9,none⟩=some (.bool y.c.Z)/\w'.cell? ⟨w.heap.size+1+1+1,10,none⟩=some (.bool y.c.N)/\w'.cell? ⟨w.heap.size+1+1+1,11,none⟩=some (.bool y.c.C)/\w'.cell? ⟨w.heap.size+1+1+1,12,none⟩=some (.bool y.c.V)/\w'.cell? ⟨w.heap.size+1+1+1,13,none⟩=some (.bool y.c.May)/\w'.cell? ⟨w.heap.size+1+1+1,14,none⟩=some (.bool y.c.Waits)/\w'.cell? ⟨w.heap.size+1+1+1,17,none⟩=some (.int .i64 y.n))
  (first|with_reducible exact HK0|(rw [zhw];with_reducible exact HK2))
  (fail)
 go_wp2
 have hT:¬ Tw T w1 y.s (w.heap.size+1+1):=λht=>by
  rcases HM1.out.fresh _ (Or.inr ht) with (x|x)|x
  ·omega
  ·exact Tw.third (HR.out.out HI.out (by omega)) (by decide) x
  ·simp at x
   omega
 have h0:=PM.gone HM1.out (w:=w) (stA (stA (stA (stA (st0 w) _) _) _) _) (HR.out.big HI.out) (by omega) HY1.out.ownW
 have hB:=HR.out.big HI.out
 rw [zhw]
 refine cutB (λW=>I W y.s/\Mv B (Tw T w s) (Tw T W y.s) w W/\W.rangeAt (w.heap.size+1+1) 0 (cpuLC y.c)) (endK HR.out (cpuLC y.c) HY1.out.inv h0 hT (by omega) HTH.out hB) ?_
 rintro W ⟨hI,hm,hr⟩
 have hl:=zn5 W _ y.c hr
 exact bodyPost_ret (v:=.tuple #[cpuV y.c,.int .i64 y.n]) (by simp only [results,Tryz.results112];simp;show (Result.andThen (Sem.run Tryz.prog (loadVar 25 ⟨w.heap.size+1+1,0,none⟩) W) λa w'=>Result.ok (Value.tuple #[a,Value.int IntKind.i64 y.n]) w')=_;rw [hl];rfl) rfl ⟨rfl,hI,hm,HY1.out.ok⟩
end
theorem or_one:∀ s:Nat,s<256->bits .or .u8 (((s:Int)*2)%256) 1=(((s:Int)*2)%256)+1:=by decide +kernel
theorem zqn (s:Int) (h:0<=s/\s<=255):bits .or .u8 (s*2%256) 1=s*2%256+1:=by
 obtain ⟨k,rfl⟩:=Int.eq_ofNat_of_zero_le h.1
 exact or_one k (by omega)
theorem and_one:∀ s:Nat,s<256->bits .and .u8 (s:Int) 1=(s:Int)%2:=by decide +kernel
theorem zdA (s:Int) (h:0<=s/\s<=255):bits .and .u8 s 1=s%2:=by
 obtain ⟨k,rfl⟩:=Int.eq_ofNat_of_zero_le h.1
 exact and_one k (by omega)
def odd (x:Int):Bool:=x%2 == 1
theorem zcJ:(Tryz.prog.info? 28).map (·.size)=some 3:=by kernel_rfl
theorem zi4 (W:World) (q:Nat) (d s:Int) (l:Bool) (h:W.rangeAt q 0 [.int .u8 d,.bool l,.int .u8 s]):(loadVar 28 ⟨q,0,none⟩).run Tryz.prog W = .ok (.agg #[.int .u8 d,.bool l,.int .u8 s]) W :=
 run_loadVar_mid W q 0 28 _ _ h Tryz.underlying28 rfl zcJ
theorem ze4 (d s:Int) (l:Bool) (w:World) :
 Calls Tryz.prog 190 #[.agg #[.int .u8 d,.bool l,.int .u8 s]] w λe w'=>e = .returned (.agg #[.int .u8 d,.bool l,.int .u8 (sel l d s)])/\Below w.heap.size w w':=by
 cases l
 all_goals
  go_enter Tryz.func190,Tryz.ntmps190
  go_wp2
  refine bodyPost_ret (v:=.agg _) (by simp [results,Tryz.results190,go_sem,sel]) rfl ⟨rfl,?_⟩
  exact stA (stA (st0 _) _) _
theorem zhx (d s x:Int) (l:Bool) (w:World) :
 Calls Tryz.prog 110 #[.agg #[.int .u8 d,.bool l,.int .u8 s],.int .u8 x] w λe w'=>e = .returned (.agg #[.int .u8 x,.bool l,.int .u8 (sel l x s)])/\Below w.heap.size w w':=by
 go_enter Tryz.func110,Tryz.ntmps110
 go_wp2_with (go_at_call 190;refine (ze4 _ _ _ _).mono ?_;rintro e w1 ⟨rfl,hb1⟩;obtain ⟨k1,f1⟩:=bcell hb1;have z1:w.heap.size+1<w1.heap.size:=Nat.lt_of_lt_of_le (by simp) hb1.size)
 have hF:=Pl.fin [.int .u8 x,.bool l,.int .u8 (sel l x s)] (zaR _ _ _ 3 (w.heap.size+1) (by simp) rfl) (stA (stA (st0 w) _) _) hb1 (by simp) (by omega)
 exact bodyPost_ret (v:=.agg _) (by simp only [results,Tryz.results110];simp;exact zi4 _ _ _ _ _ hF.2) rfl ⟨rfl,hF.1⟩
theorem zhy (d s x:Int) (l:Bool) (w:World) (hx:0<=x/\x<=255) :
 Calls Tryz.prog 217 #[.agg #[.int .u8 d,.bool l,.int .u8 s],.int .u8 x] w λe w'=>e = .returned (.agg #[.int .u8 d,.bool (odd x),.int .u8 (sel (odd x) d s)])/\Below w.heap.size w w':=by
 have ha:(bits .and .u8 x 1 == 1)=odd x:=by rw [zdA x hx];rfl
 go_enter Tryz.func217,Tryz.ntmps217
 go_wp2_with (go_at_call 190;refine (ze4 _ _ _ _).mono ?_;rintro e w1 ⟨rfl,hb1⟩;obtain ⟨k1,f1⟩:=bcell hb1;have z1:w.heap.size+1<w1.heap.size:=Nat.lt_of_lt_of_le (by simp) hb1.size)
 have hF:=Pl.fin [.int .u8 d,.bool (odd x),.int .u8 (sel (odd x) d s)] (zaR _ _ _ 3 (w.heap.size+1) (by simp) rfl) (stA (stA (st0 w) _) _) hb1 (by simp) (by omega)
 exact bodyPost_ret (v:=.agg _) (by simp only [results,Tryz.results217];simp;exact zi4 _ _ _ _ _ hF.2) rfl ⟨rfl,hF.1⟩
theorem zi5 (d s:Int) (l:Bool) (w:World) (hd:0<=d/\d<=255) (hs:0<=s/\s<=255) :
 Calls Tryz.prog 216 #[.agg #[.int .u8 d,.bool l,.int .u8 s]] w λe w'=>e = .returned (.tuple #[.int .u8 (sel l d s/128),.agg #[.int .u8 d,.bool l,.int .u8 (sel l s (s*2%256+1))]])/\Below w.heap.size w w':=by
 have ho:=zqn s hs
 cases l
 ·go_enter Tryz.func216,Tryz.ntmps216
  go_wp2
  go_region_held3 (λw'=>w'.cell? ⟨w.heap.size,0,none⟩=some (.int .u8 d)/\w'.cell? ⟨w.heap.size,1,none⟩=some (.bool false)/\w'.cell? ⟨w.heap.size,2,none⟩=some (.int .u8 (s*2%256+1)))
   ((go_keep;done))
   (fail)
  go_wp2
  refine bodyPost_ret (v:=.tuple #[_,.agg _]) (by simp [results,Tryz.results216,go_sem,sel]) rfl ⟨rfl,?_⟩
  exact (stA (stA (st0 _) _) _).drew
 ·go_enter Tryz.func216,Tryz.ntmps216
  go_wp2
  go_region_held3 (λw'=>w'.cell? ⟨w.heap.size,0,none⟩=some (.int .u8 d)/\w'.cell? ⟨w.heap.size,1,none⟩=some (.bool true)/\w'.cell? ⟨w.heap.size,2,none⟩=some (.int .u8 s))
   ((go_keep;done))
   (fail)
  go_wp2
  refine bodyPost_ret (v:=.tuple #[_,.agg _]) (by simp [results,Tryz.results216,go_sem,sel]) rfl ⟨rfl,?_⟩
  exact (stA (stA (st0 _) _) _).drew
def shN (d:Int) (k:Nat):Int:=(d*2 ^ k+(2 ^ k-1))%256
theorem zhz (b:Nat):∀ (vs:List Value) (o:Nat) (w:World),(w.setCells b o vs).heap.size=w.heap.size
 | [],o,w=>rfl
 | v::vs,o,w=>(zhz b vs (o+1) _).trans (by simp)
structure AllW (w : World) (n : Nat) (k : Nat) (wr : World) : Prop where
 low:Below w.heap.size w wr
 c:wr.rangeAt w.heap.size 0 [.int .u8 n,.bool false,.int .u8 (shN n k)]
 f:∀ o,wr.frozen? ⟨w.heap.size,o,none⟩=false
 th:wr.there (w.heap.size+1) 0 3
 lt:w.heap.size+1<wr.heap.size
theorem AllW.put {w w0 w1:World} {n k:Nat} (hl:Below w.heap.size w w0) (hb:Below w0.heap.size w0 w1) (h0:w0.there w.heap.size 0 3) (h1:w0.there (w.heap.size+1) 0 3) (hf:∀ o,w0.frozen? ⟨w.heap.size,o,none⟩=false) (hz:w.heap.size+1<w0.heap.size) :
 AllW w n k (w1.setCells w.heap.size 0 [.int .u8 n,.bool false,.int .u8 (shN n k)]):=by
 have hs:=hb.size
 have h:=Pl.fin [.int .u8 n,.bool false,.int .u8 (shN n k)] h0 hl hb (by omega) (Nat.le_refl _)
 have t1:=zbC h1 hb hz
 refine ⟨h.1,h.2,λo=>?_,λj hj=>?_,?_⟩
 ·rw [World.frozen?_setCells]
  exact (hb.frozen (p:=⟨w.heap.size,o,none⟩) (show w.heap.size<w0.heap.size by omega)).trans (hf o)
 ·rw [World.frozen?_setCells,World.cell?_setCells_out _ _ _ _ _ (λe=>absurd e (by simp))]
  exact t1 j hj
 ·have:=(zhz w.heap.size [.int .u8 n,.bool false,.int .u8 (shN n k)] 0 w1)
  omega
/-! ### the reference's pads -/
end Go.Proofs.YtbennamieealbaaGreatDoor
