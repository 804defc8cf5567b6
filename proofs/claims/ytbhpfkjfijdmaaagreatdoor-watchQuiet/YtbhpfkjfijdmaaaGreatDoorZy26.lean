/-
  Parts of a proof, joined.
-/
import Derived.Test.YtbhpfkjfijdmaaaGreatDoorZy05
import Derived.Test.YtbhpfkjfijdmaaaGreatDoorZy13
namespace Go.Proofs.YtbhpfkjfijdmaaaGreatDoor.C
set_option linter.unusedVariables false
set_option maxRecDepth 100000
set_option maxHeartbeats 3200000
section
variable {σ : Type} {m : Mem σ}
theorem fuel_rdw (h1:∀ s a,m.fuel s<=m.fuel (m.rd s a).2) (s:σ) (a:Int):m.fuel s<=m.fuel (m.rdw s a).2:=by
 unfold Mem.rdw
 exact Nat.le_trans (h1 s a) (h1 _ _)
theorem fuel_wrw (h2:∀ s a b,m.fuel s<=m.fuel (m.wr s a b)+1) (s:σ) (a n:Int):m.fuel s<=m.fuel (m.wrw s a n)+2:=by
 unfold Mem.wrw
 have e1:=h2 s a (n / 256)
 have e2:=h2 (m.wr s a (n / 256)) ((a+1) % 65536) (n % 256)
 omega
theorem fuel_leave (h1:∀ s a,m.fuel s<=m.fuel (m.rd s a).2) (h2:∀ s a b,m.fuel s<=m.fuel (m.wr s a b)+1) (x:St σ) (a:Int):m.fuel x.s<=m.fuel (leave m x a).s+4:=by
 have e1:m.fuel x.s<=m.fuel (push m x x.c.PC).s+2:=fuel_wrw h2 _ _ _
 have e2:m.fuel (push m x x.c.PC).s<=m.fuel (push m (push m x x.c.PC) (sign (push m x x.c.PC).c)).s+2:=fuel_wrw h2 _ _ _
 have e3:m.fuel (push m (push m x x.c.PC) (sign (push m x x.c.PC).c)).s<=m.fuel (leave m x a).s:=fuel_rdw h1 _ _
 omega
theorem fuel_act (h1:∀ s a,m.fuel s<=m.fuel (m.rd s a).2) (h2:∀ s a b,m.fuel s<=m.fuel (m.wr s a b)+1) (x:St σ) (k:Nat) (d s n w:Int):m.fuel x.s<=m.fuel (act m x k d s n w).s+4:=by
 have u0:m.fuel x.s<=m.fuel x.s+4:=Nat.le_add_right _ _
 have u2:∀ a n,m.fuel x.s<=m.fuel (m.wrw x.s a n)+4:=fun a n=>by have:=fuel_wrw h2 x.s a n;omega
 have u1:∀ a n,m.fuel x.s<=m.fuel (m.wr x.s a n)+4:=fun a n=>by have:=h2 x.s a n;omega
 have u3:∀ a,m.fuel x.s<=m.fuel (m.rdw x.s a).2+4:=fun a=>by have:=fuel_rdw h1 x.s a;omega
 have u4:∀ a,m.fuel x.s<=m.fuel (m.rd x.s a).2+4:=fun a=>by have:=h1 x.s a;omega
 have u5:∀ a b,m.fuel x.s<=m.fuel (m.rdw (m.rdw x.s a).2 b).2+4:=fun a b=>by have:=fuel_rdw h1 x.s a;have:=fuel_rdw h1 (m.rdw x.s a).2 b;omega
 unfold act
 split
 ·exact u0
 ·exact u0
 ·exact u3 _
 ·exact u2 _ _
 ·exact u4 _
 ·exact u1 _ _
 ·exact u0
 ·exact u0
 ·exact u0
 ·exact u0
 ·exact u0
 ·exact u0
 ·exact u0
 ·exact u0
 ·exact u0
 ·exact u0
 ·split <;> exact u0
 ·split <;> exact u0
 ·split <;> exact u0
 ·exact u2 _ _
 ·exact u3 _
 ·exact u2 _ _
 ·exact u3 _
 ·exact u0
 ·exact u0
 ·exact u5 _ _
 ·exact u0
 ·exact u0
 ·split <;> exact u0
 ·exact fuel_leave h1 h2 x 4
 ·exact u0
theorem fuel_step (h1:∀ s a,m.fuel s<=m.fuel (m.rd s a).2) (h2:∀ s a b,m.fuel s<=m.fuel (m.wr s a b)+1) (c:Cpu) (s:σ) (r:Bool):m.fuel s<=m.fuel (step m c s r).s+4:=by
 unfold step
 split
 ·exact fuel_leave h1 h2 ⟨c,s,0⟩ 2
 ·split
  ·exact Nat.le_add_right _ _
  ·unfold order
   refine Nat.le_trans ?_ (fuel_act h1 h2 _ _ _ _ _ _)
   show m.fuel s<=m.fuel (behind m c s).s
   unfold behind
   simp only
   split
   ·exact Nat.le_trans (fuel_rdw h1 _ _) (fuel_rdw h1 _ _)
   ·exact fuel_rdw h1 _ _
theorem act_n (x:St σ) (k:Nat) (d s n w:Int):(act m x k d s n w).n=x.n \/ (act m x k d s n w).n=x.n+1:=by
 unfold act
 split
 all_goals first
  | exact Or.inl rfl
  | exact Or.inr rfl
  | (split;exact Or.inr rfl;exact Or.inl rfl)
  | (split;exact Or.inl rfl;exact Or.inr rfl)
theorem cyc_bd:∀ k,k < 32->0<=K.cyc k/\K.cyc k<=20:=by decide
theorem step_n (c:Cpu) (s:σ) (r:Bool) (hk:O.rk (word1 m c s) < 32):0<=(step m c s r).n/\(step m c s r).n<=21:=by
 unfold step
 split
 ·exact ⟨show (0:Int)<=6 by decide,show (6:Int)<=21 by decide⟩
 ·split
  ·exact ⟨show (0:Int)<=1 by decide,show (1:Int)<=21 by decide⟩
  ·unfold order
   have hc:=cyc_bd _ hk
   rcases act_n (m:=m) { behind m c s with n:=K.cyc (O.rk (word1 m c s)) } (O.rk (word1 m c s)) (O.rD (word1 m c s)) (O.rS (word1 m c s)) (O.rN (word1 m c s)) (O.rW (word1 m c s) (word2 m c s)) with e | e
   ·rw [e];exact ⟨hc.1,Int.le_trans hc.2 (by decide)⟩
   ·rw [e]
    have h1:=hc.1
    have h2:=hc.2
    show 0<=K.cyc (O.rk (word1 m c s))+1/\K.cyc (O.rk (word1 m c s))+1<=21
    omega
end
end Go.Proofs.YtbhpfkjfijdmaaaGreatDoor.C
namespace Go.Proofs.YtbhpfkjfijdmaaaGreatDoor
open Go.ChangeShapes Go.WideShapes Go.ChangeAt Go.RowKit
set_option linter.unusedVariables false
set_option maxRecDepth 100000
set_option maxHeartbeats 3200000
def gb (m:List UInt8) (i:Nat):Nat:=(m.getD i 0).toNat
theorem gb_lt (m:List UInt8) (i:Nat):gb m i < 256:=(m.getD i 0).toNat_lt
def td (m:List UInt8) (t x y:Nat):Nat:=gb m (16+4 * (t % 16)+y) / 4 ^ (3 - x) % 4
theorem td_lt (m:List UInt8) (t x y:Nat):td m t x y < 4:=Nat.mod_lt _ (by decide)
def g16 (m:List UInt8) (Y X:Nat):Nat:=td m (gb m (Y / 4 * 4+X / 4)) (X % 4) (Y % 4)
def gd (m:List UInt8) (y x:Nat):Nat:=g16 m ((y+gb m 169) % 16) ((x+gb m 168) % 16)
theorem gd_lt (m:List UInt8) (y x:Nat):gd m y x < 4:=td_lt ..
def lnS (m:List UInt8) (k:Nat):Nat:=gb m (128+4 * k)
def clS (m:List UInt8) (k:Nat):Nat:=gb m (129+4 * k)
def tiS (m:List UInt8) (k:Nat):Nat:=gb m (130+4 * k)
def hwS (m:List UInt8) (k:Nat):Nat:=gb m (131+4 * k)
def onS (m:List UInt8) (y k:Nat):Bool:=decide (lnS m k<=y/\y < lnS m k+4)
def drS (m:List UInt8) (y:Nat) (n:Nat):List Nat:=(List.range n).filter (onS m y)
theorem drS_succ (m:List UInt8) (y n:Nat):drS m y (n+1)=if onS m y n then drS m y n++[n] else drS m y n:=by
 unfold drS
 rw [List.range_succ,List.filter_append]
 cases h:onS m y n <;> simp [h]
theorem drS_lt {m:List UInt8} {y n k:Nat} (h:k ∈ drS m y n):k < n:=by
 unfold drS at h
 rw [List.mem_filter] at h
 exact List.mem_range.1 h.1
theorem drS_on {m:List UInt8} {y n k:Nat} (h:k ∈ drS m y n):onS m y k=true:=by
 unfold drS at h
 exact (List.mem_filter.1 h).2
def rwS (m:List UInt8) (y k:Nat):Nat:=if hwS m k / 2 % 2=1 then 3 - (y - lnS m k) else y - lnS m k
def sdS (m:List UInt8) (y k i:Nat):Nat:=td m (tiS m k) (if hwS m k % 2=1 then 3 - i else i) (rwS m y k)
theorem sdS_lt (m:List UInt8) (y k i:Nat):sdS m y k i < 4:=td_lt ..
def sxS (m:List UInt8) (y k x:Nat):Nat:=if clS m k<=x/\x < clS m k+4 then sdS m y k (x - clS m k) else 0
def pxL (m:List UInt8) (y:Nat) (ks:List Nat) (x:Nat):Nat :=
 match ks.find? (fun k=>sxS m y k x != 0) with
 | none=>gb m (160+gd m y x)
 | some k=>if 128<=hwS m k/\gd m y x ≠ 0 then gb m (160+gd m y x) else gb m (164+sxS m y k x)
def tkL (m:List UInt8) (y:Nat) (ks:List Nat) (x:Nat):Bool:=ks.any (fun k=>sxS m y k x != 0)
theorem tkL_snoc (m:List UInt8) (y:Nat) (ks:List Nat) (k x:Nat):tkL m y (ks++[k]) x=(tkL m y ks x || sxS m y k x != 0):=by
 unfold tkL;simp
theorem pxL_free {m:List UInt8} {y:Nat} {ks:List Nat} {x:Nat} (h:tkL m y ks x=false):pxL m y ks x=gb m (160+gd m y x):=by
 unfold tkL at h
 have:ks.find? (fun k=>sxS m y k x != 0)=none:=by
  rw [List.find?_eq_none]
  intro k hk
  rw [List.any_eq_false] at h
  exact h k hk
 unfold pxL
 rw [this]
theorem pxL_snoc_taken {m:List UInt8} {y:Nat} {ks:List Nat} {k x:Nat} (h:tkL m y ks x=true):pxL m y (ks++[k]) x=pxL m y ks x:=by
 unfold tkL at h
 unfold pxL
 rw [List.find?_append]
 cases hf:ks.find? (fun k=>sxS m y k x != 0) with
 | some a=>simp
 | none =>
  rw [List.find?_eq_none] at hf
  rw [List.any_eq_true] at h
  obtain ⟨a,ha,hb⟩:=h
  exact absurd hb (hf a ha)
theorem pxL_snoc_none {m:List UInt8} {y:Nat} {ks:List Nat} {k x:Nat} (h:sxS m y k x=0):pxL m y (ks++[k]) x=pxL m y ks x:=by
 unfold pxL
 rw [List.find?_append]
 have:[k].find? (fun k=>sxS m y k x != 0)=none:=by simp [h]
 rw [this]
 cases ks.find? (fun k=>sxS m y k x != 0) <;> rfl
theorem pxL_snoc_new {m:List UInt8} {y:Nat} {ks:List Nat} {k x:Nat} (h:tkL m y ks x=false) (hd:sxS m y k x ≠ 0):pxL m y (ks++[k]) x=if 128<=hwS m k/\gd m y x ≠ 0 then pxL m y ks x else gb m (164+sxS m y k x):=by
 rw [pxL_free h]
 unfold tkL at h
 have hn:ks.find? (fun k=>sxS m y k x != 0)=none:=by
  rw [List.find?_eq_none]
  intro k hk
  rw [List.any_eq_false] at h
  exact h k hk
 have h1:[k].find? (fun k=>sxS m y k x != 0)=some k:=by simp [hd]
 unfold pxL
 rw [List.find?_append,hn,h1]
 rfl
def px (m:List UInt8) (y x:Nat):Nat:=pxL m y ((drS m y 8).take 2) x
def row16 (f:Nat->Nat):List Value:=(List.range 16).map fun x=>Value.int .u8 (f x)
theorem row16_len (f:Nat->Nat):(row16 f).length=16:=by simp [row16]
theorem row16_at (f:Nat->Nat) {x:Nat} (h:x < 16):(row16 f)[x]? = some (.int .u8 (f x)):=by
 unfold row16;rw [List.getElem?_map,List.getElem?_range h];rfl
theorem row16_congr {f g:Nat->Nat} (h:∀ x,x < 16->f x=g x):row16 f=row16 g:=by
 unfold row16
 apply List.map_congr_left
 intro x hx
 rw [h x (List.mem_range.1 hx)]
theorem row16_set (f:Nat->Nat) (x v:Nat) (h:x < 16):(row16 f).set x (.int .u8 v)=row16 (fun i=>if i=x then v else f i):=by
 apply List.ext_getElem?
 intro i
 by_cases hi:i < 16
 ·rw [row16_at _ hi]
  by_cases e:i=x
  ·subst e
   rw [List.getElem?_set_self (by rw [row16_len];exact hi)]
   simp
  ·rw [List.getElem?_set_ne (Ne.symm e),row16_at _ hi]
   simp [e]
 ·rw [List.getElem?_eq_none (by simp [row16_len];omega),List.getElem?_eq_none (by rw [row16_len];omega)]
def brow16 (f:Nat->Bool):List Value:=(List.range 16).map fun x=>Value.bool (f x)
theorem brow16_len (f:Nat->Bool):(brow16 f).length=16:=by simp [brow16]
theorem brow16_at (f:Nat->Bool) {x:Nat} (h:x < 16):(brow16 f)[x]? = some (.bool (f x)):=by
 unfold brow16;rw [List.getElem?_map,List.getElem?_range h];rfl
theorem brow16_congr {f g:Nat->Bool} (h:∀ x,x < 16->f x=g x):brow16 f=brow16 g:=by
 unfold brow16
 apply List.map_congr_left
 intro x hx
 rw [h x (List.mem_range.1 hx)]
theorem brow16_set (f:Nat->Bool) (x:Nat) (v:Bool) (h:x < 16):(brow16 f).set x (.bool v)=brow16 (fun i=>if i=x then v else f i):=by
 apply List.ext_getElem?
 intro i
 by_cases hi:i < 16
 ·rw [brow16_at _ hi]
  by_cases e:i=x
  ·subst e
   rw [List.getElem?_set_self (by rw [brow16_len];exact hi)]
   simp
  ·rw [List.getElem?_set_ne (Ne.symm e),brow16_at _ hi]
   simp [e]
 ·rw [List.getElem?_eq_none (by simp [brow16_len];omega),List.getElem?_eq_none (by rw [brow16_len];omega)]
structure Mm (W : World) (m : List UInt8) (v : Value) (g o c : Nat) : Prop where
 v:v = .slice (some ⟨g,o,none⟩) 256 c
 l:m.length=256
 z:g < W.heap.size
 c:∀ i,i < 256->W.cell? ⟨g,o+i,none⟩=some (.int .u8 (gb m i))
theorem Mm.of {W:World} {m:List UInt8} {v:Value} (h:sliceAt W v m) (hl:m.length=256):∃ g o c,Mm W m v g o c:=by
 rcases h with ⟨a,cap,_,h2⟩ | ⟨g,o,cap,h1,h2,h3,h4⟩
 ·rw [h2] at hl;simp at hl
 ·refine ⟨g,o,cap,by rw [h1,hl],hl,h3,fun i hi=>?_⟩
  have:=h4 i (m.getD i 0) (by rw [List.getElem?_eq_getElem (by omega)];simp [List.getD,List.getElem?_eq_getElem (show i < m.length by omega)])
  rw [this];rfl
theorem Mm.kept {W w1:World} {m:List UInt8} {v:Value} {g o c:Nat} (h:Mm W m v g o c) (hb:Below W.heap.size W w1):Mm w1 m v g o c :=
 ⟨h.v,h.l,Nat.lt_of_lt_of_le h.z hb.size,fun i hi=>(hb.cell (p:=⟨g,o+i,none⟩) h.z).trans (h.c i hi)⟩
theorem and3 (b:Nat) (h:b < 256):bits .and .u8 (b:Int) 3=((b % 4:Nat):Int):=by
 rw [show (3:Int)=((3:Nat):Int) from rfl,u8_and_nat _ _ (by omega) (by omega),show (3:Nat)=2 ^ 2 - 1 from rfl,Nat.and_two_pow_sub_one_eq_mod]
theorem four (b:Nat) (h:b < 256):(b:Int) / 64=((b / 4 ^ 3 % 4:Nat):Int)/\bits .and .u8 ((b:Int) / 16) 3=((b / 4 ^ 2 % 4:Nat):Int)/\bits .and .u8 ((b:Int) / 4) 3=((b / 4 ^ 1 % 4:Nat):Int)/\bits .and .u8 (b:Int) 3=((b / 4 ^ 0 % 4:Nat):Int):=by
 refine ⟨?_,?_,?_,?_⟩
 ·have:b / 4 ^ 3 % 4=b / 64:=by omega
  rw [this];omega
 ·rw [show (b:Int) / 16=((b / 4 ^ 2:Nat):Int) by omega];exact and3 _ (by omega)
 ·rw [show (b:Int) / 4=((b / 4 ^ 1:Nat):Int) by omega];exact and3 _ (by omega)
 ·rw [show b / 4 ^ 0=b by omega];exact and3 _ h
theorem agg4 {a b c d a' b' c' d':Int} (h1:a=a') (h2:b=b') (h3:c=c') (h4:d=d'):Value.agg #[.int .u8 a,.int .u8 b,.int .u8 c,.int .u8 d] = .agg #[.int .u8 a',.int .u8 b',.int .u8 c',.int .u8 d']:=by rw [h1,h2,h3,h4]
theorem rowOf_any (m:List UInt8) (v:Value) (g o c:Nat) (t y:Nat) (w:World) (h:Mm w m v g o c) (ht:t < 256) (hy:y < 4) :
 Calls Tryz.prog 200 #[v,.int .u8 t,.int .i64 y] w fun e w'=>e = .returned (.agg #[.int .u8 (td m t 0 y),.int .u8 (td m t 1 y),.int .u8 (td m t 2 y),.int .u8 (td m t 3 y)])/\Below w.heap.size w w':=by
 obtain ⟨rfl,hl,hz,hc⟩:=h
 have h1:=hc (16+4 * (t % 16)+y) (by omega)
 clear hc
 go_enter Tryz.func200,Tryz.ntmps200
 go_wp2
 obtain ⟨e1,e2,e3,e4⟩:=four (gb m (16+4 * (t % 16)+y)) (gb_lt ..)
 refine bodyPost_ret (v:=.agg _) (by simp [results,Tryz.results200,go_sem]) rfl ⟨ret_v (agg4 e1 e2 e3 e4),?_⟩
 exact stA (st0 w) _
theorem turned_any (a b c d:Int) (w:World) :
 Calls Tryz.prog 202 #[.agg #[.int .u8 a,.int .u8 b,.int .u8 c,.int .u8 d]] w fun e w'=>e = .returned (.agg #[.int .u8 d,.int .u8 c,.int .u8 b,.int .u8 a])/\Below w.heap.size w w':=by
 go_enter Tryz.func202,Tryz.ntmps202
 go_wp2
 refine bodyPost_ret (v:=.agg _) (by simp [results,Tryz.results202,go_sem]) rfl ⟨rfl,?_⟩
 exact stA (stA (st0 w) _) _
theorem liesOn_any (l cl t:Int) (b1 b2 b3:Bool) (y:Int) (w:World) (hl:0<=l/\l<=255) :
 Calls Tryz.prog 201 #[.agg #[.int .i64 l,.int .i64 cl,.int .u8 t,.bool b1,.bool b2,.bool b3],.int .i64 y] w fun e w'=>e = .returned (.bool (decide (l<=y/\y < l+4)))/\Below w.heap.size w w':=by
 have hd:decide (l<=y/\y < l+4)=(decide (l<=y) && decide (y < l+4)):=by simp
 rw [hd]
 clear hd
 by_cases h1:l<=y
 ·go_enter Tryz.func201,Tryz.ntmps201
  go_wp2
  go_ret
  exact ⟨by simp [h1],stA (st0 w) _⟩
 ·go_enter Tryz.func201,Tryz.ntmps201
  go_wp2
  go_ret
  exact ⟨by simp;omega,stA (st0 w) _⟩
theorem bit0 (b:Nat) (h:b < 256):(bits .and .u8 (b:Int) 1 != 0)=decide (b % 2=1):=by
 rw [show (1:Int)=((1:Nat):Int) from rfl,u8_and_nat _ _ (by omega) (by omega),show b &&& 1=b % 2 from Nat.and_two_pow_sub_one_eq_mod b 1]
 rcases Nat.mod_two_eq_zero_or_one b with e | e <;> rw [e] <;> rfl
theorem bit1 (b:Nat) (h:b < 256):(bits .and .u8 (b:Int) 2 != 0)=decide (b / 2 % 2=1):=by
 rw [show (2:Int)=((2:Nat):Int) from rfl,u8_and_nat _ _ (by omega) (by omega),show b &&& 2=if b.testBit 1 then 2 ^ 1 else 0 from M.and_pow b 1,Nat.testBit_eq_decide_div_mod_eq]
 by_cases e:b / 2 ^ 1 % 2=1 <;> simp [e]
theorem bit7 (b:Nat) (h:b < 256):(bits .and .u8 (b:Int) 128 != 0)=decide (128<=b):=by
 rw [show (128:Int)=((128:Nat):Int) from rfl,u8_and_nat _ _ (by omega) (by omega),show b &&& 128=if b.testBit 7 then 2 ^ 7 else 0 from M.and_pow b 7,Nat.testBit_eq_decide_div_mod_eq]
 by_cases e:b / 2 ^ 7 % 2=1
 ·have:128<=b:=by omega
  simp [e,this]
 ·have:¬ 128<=b:=by omega
  simp [e,this]
theorem i64_gb (m:List UInt8) (i:Nat):IntKind.i64.wrap (gb m i:Int)=gb m i:=by
 have:=gb_lt m i
 rw [IntKind.wrap_i64];omega
theorem LnsetC_size (b:Nat):∀ (vs:List Value) (o:Nat) (w:World),(w.setCells b o vs).heap.size=w.heap.size
 | [],o,w=>rfl
 | v :: vs,o,w=>(LnsetC_size b vs (o+1) _).trans (by simp)
theorem rng_over {W:World} {b:Nat} {L:List Value} (h:W.rangeAt b 0 L) (hb:b < W.heap.size) (o:Obj):(W.alloc o).rangeAt b 0 L:=fun j v hj=>((stA (st0 W) o).cell (p:=⟨b,0+j,none⟩) hb).trans (h j v hj)
theorem load_row (w:World) (b:Nat) (x0 x1 x2 x3:Value) (h:w.rangeAt b 0 [x0,x1,x2,x3]):(loadVar 250 ⟨b,0,none⟩).run Tryz.prog w = .ok (.agg #[x0,x1,x2,x3]) w :=
 run_loadVar_mid w b 0 250 [x0,x1,x2,x3] _ h Tryz.underlying250 rfl (by kernel_rfl)
def scS (m:List UInt8) (k:Nat):List Value:=[.int .i64 (lnS m k),.int .i64 (clS m k),.int .u8 (tiS m k),.bool (decide (hwS m k % 2=1)),.bool (decide (hwS m k / 2 % 2=1)),.bool (decide (128<=hwS m k))]
theorem spriteOf_any (m:List UInt8) (v:Value) (g o c:Nat) (k:Nat) (w:World) (h:Mm w m v g o c) (hk:k < 8) :
 Calls Tryz.prog 171 #[v,.int .i64 k] w fun e w'=>e = .returned (.agg #[.int .i64 (lnS m k),.int .i64 (clS m k),.int .u8 (tiS m k),.bool (decide (hwS m k % 2=1)),.bool (decide (hwS m k / 2 % 2=1)),.bool (decide (128<=hwS m k))])/\Below w.heap.size w w':=by
 obtain ⟨rfl,hl,hz,hc⟩:=h
 have h0:=hc (128+4 * k) (by omega)
 have h1:=hc (128+4 * k+1) (by omega)
 have h2:=hc (128+4 * k+2) (by omega)
 have h3:=hc (128+4 * k+3) (by omega)
 clear hc
 have a0:(0:Int)<=128+4 * (k:Int):=by omega
 have a1:(0:Int)<=128+4 * (k:Int)+1:=by omega
 have a2:(0:Int)<=128+4 * (k:Int)+2:=by omega
 have b0:128+4 * (k:Int) < 256:=by omega
 have b1:128+4 * (k:Int)+1 < 256:=by omega
 have b2:128+4 * (k:Int)+2 < 256:=by omega
 have t0:(128+4 * (k:Int)).toNat=128+4 * k:=by omega
 have t1:(128+4 * (k:Int)+1).toNat=128+4 * k+1:=by omega
 have t2:(128+4 * (k:Int)+2).toNat=128+4 * k+2:=by omega
 have g0:=i64_gb m (128+4 * k)
 have g1:=i64_gb m (128+4 * k+1)
 have w1:IntKind.i64.wrap (128+4 * (k:Int)+1)=128+4 * (k:Int)+1:=by rw [IntKind.wrap_i64];omega
 have w2:IntKind.i64.wrap (128+4 * (k:Int)+2)=128+4 * (k:Int)+2:=by rw [IntKind.wrap_i64];omega
 go_enter Tryz.func171,Tryz.ntmps171
 go_wp2
 go_region_held3 (fun w'=>w'.cell? ⟨g,o+(128+4 * k),none⟩=some (.int .u8 (gb m (128+4 * k)))/\w'.cell? ⟨g,o+(128+4 * k+1),none⟩=some (.int .u8 (gb m (128+4 * k+1)))/\w'.cell? ⟨g,o+(128+4 * k+2),none⟩=some (.int .u8 (gb m (128+4 * k+2))))
  ((go_keep;done))
  (fail)
 all_goals
  go_wp2
  refine bodyPost_ret (v:=.agg _) (by simp [results,Tryz.results171,go_sem] <;> rfl) rfl ⟨ret_v ?_,?_⟩
  ·rw [bit0 _ (gb_lt ..),bit1 _ (gb_lt ..),bit7 _ (gb_lt ..)]
   unfold lnS clS tiS hwS
   rw [show 129+4 * k=128+4 * k+1 by omega,show 130+4 * k=128+4 * k+2 by omega,show 131+4 * k=128+4 * k+3 by omega]
  ·exact (stA (st0 w) _).drew
theorem dots_any (m:List UInt8) (v:Value) (g o c:Nat) (k y:Nat) (w:World) (h:Mm w m v g o c) (hon:onS m y k=true) (hy:y < 8) :
 Calls Tryz.prog 172 #[.agg #[.int .i64 (lnS m k),.int .i64 (clS m k),.int .u8 (tiS m k),.bool (decide (hwS m k % 2=1)),.bool (decide (hwS m k / 2 % 2=1)),.bool (decide (128<=hwS m k))],v,.int .i64 y] w fun e w'=>e = .returned (.agg #[.int .u8 (sdS m y k 0),.int .u8 (sdS m y k 1),.int .u8 (sdS m y k 2),.int .u8 (sdS m y k 3)])/\Below w.heap.size w w':=by
 unfold onS at hon
 have hon:=of_decide_eq_true hon
 have H:=hid h
 have ht:tiS m k < 256:=gb_lt ..
 by_cases hr:hwS m k / 2 % 2=1
 ·have hrw:rwS m y k=3 - (y - lnS m k):=by unfold rwS;rw [if_pos hr]
  have hrw':((rwS m y k:Nat):Int)=3 - ((y:Int) - (lnS m k:Nat)):=by rw [hrw];omega
  have hrl:rwS m y k < 4:=by rw [hrw];omega
  rw [decide_eq_true hr]
  have HR:=hid hrw'
  by_cases hcl:hwS m k % 2=1
  ·have hsd:∀ i,sdS m y k i=td m (tiS m k) (3 - i) (rwS m y k):=fun i=>by unfold sdS;rw [if_pos hcl]
   rw [decide_eq_true hcl,hsd,hsd,hsd,hsd]
   clear h hr hcl hsd hrw hrw'
   go_enter Tryz.func172,Tryz.ntmps172
   go_wp2_with (first
    | (go_at_call 200;rw [<- HR.out];refine (rowOf_any m v g o c (tiS m k) (rwS m y k) _ (H.out.kept (stA (stA (st0 w) _) _)) ht hrl).mono ?_;rintro e w1 ⟨rfl,hb1⟩;obtain ⟨k1,f1⟩:=bcell hb1;have z1:w.heap.size+1 < w1.heap.size:=Nat.lt_of_lt_of_le (by simp) hb1.size;have z0:=Nat.lt_of_succ_lt z1)
    | (go_at_call 202;refine (turned_any _ _ _ _ _).mono ?_;rintro e w2 ⟨rfl,hb2⟩;obtain ⟨k2,f2⟩:=bcell hb2;have z2:w1.heap.size < w2.heap.size:=Nat.lt_of_lt_of_le (by simp) hb2.size;have z3:=Nat.lt_trans z1 z2))
   have hF:=Pl.fin [.int .u8 (td m (tiS m k) 3 (rwS m y k)),.int .u8 (td m (tiS m k) 2 (rwS m y k)),.int .u8 (td m (tiS m k) 1 (rwS m y k)),.int .u8 (td m (tiS m k) 0 (rwS m y k))] (Pl.there_new _ _ _ 4 (w.heap.size+1) (by simp) rfl) (stA (stA (st0 w) _) _) (stp (stA hb1 _) hb2) (by simp) (by omega)
   exact bodyPost_ret (v:=.agg _) (by simp only [results,Tryz.results172];simp;exact load_row _ _ _ _ _ _ hF.2) rfl ⟨rfl,hF.1⟩
  ·have hsd:∀ i,sdS m y k i=td m (tiS m k) (i) (rwS m y k):=fun i=>by unfold sdS;rw [if_neg hcl]
   rw [decide_eq_false hcl,hsd,hsd,hsd,hsd]
   clear h hr hcl hsd hrw hrw'
   go_enter Tryz.func172,Tryz.ntmps172
   go_wp2_with (first
    | (go_at_call 200;rw [<- HR.out];refine (rowOf_any m v g o c (tiS m k) (rwS m y k) _ (H.out.kept (stA (stA (st0 w) _) _)) ht hrl).mono ?_;rintro e w1 ⟨rfl,hb1⟩;obtain ⟨k1,f1⟩:=bcell hb1;have z1:w.heap.size+1 < w1.heap.size:=Nat.lt_of_lt_of_le (by simp) hb1.size;have z0:=Nat.lt_of_succ_lt z1))
   have hF:=Pl.fin [.int .u8 (td m (tiS m k) 0 (rwS m y k)),.int .u8 (td m (tiS m k) 1 (rwS m y k)),.int .u8 (td m (tiS m k) 2 (rwS m y k)),.int .u8 (td m (tiS m k) 3 (rwS m y k))] (Pl.there_new _ _ _ 4 (w.heap.size+1) (by simp) rfl) (stA (stA (st0 w) _) _) hb1 (by simp) (by omega)
   refine Pl.cutB (fun W=>Below w.heap.size w W/\W.rangeAt (w.heap.size+1) 0 [.int .u8 (td m (tiS m k) 0 (rwS m y k)),.int .u8 (td m (tiS m k) 1 (rwS m y k)),.int .u8 (td m (tiS m k) 2 (rwS m y k)),.int .u8 (td m (tiS m k) 3 (rwS m y k))]) ⟨stA hF.1 _,rng_over hF.2 (by rw [LnsetC_size];exact z1) _⟩ ?_
   rintro W ⟨hlow,hr⟩
   exact bodyPost_ret (v:=.agg _) (by simp only [results,Tryz.results172];simp;exact load_row _ _ _ _ _ _ hr) rfl ⟨rfl,hlow⟩
 ·have hrw:rwS m y k=y - lnS m k:=by unfold rwS;rw [if_neg hr]
  have hrw':((rwS m y k:Nat):Int)=(y:Int) - (lnS m k:Nat):=by rw [hrw];omega
  have hrl:rwS m y k < 4:=by rw [hrw];omega
  rw [decide_eq_false hr]
  have HR:=hid hrw'
  by_cases hcl:hwS m k % 2=1
  ·have hsd:∀ i,sdS m y k i=td m (tiS m k) (3 - i) (rwS m y k):=fun i=>by unfold sdS;rw [if_pos hcl]
   rw [decide_eq_true hcl,hsd,hsd,hsd,hsd]
   clear h hr hcl hsd hrw hrw'
   go_enter Tryz.func172,Tryz.ntmps172
   go_wp2_with (first
    | (go_at_call 200;rw [<- HR.out];refine (rowOf_any m v g o c (tiS m k) (rwS m y k) _ (H.out.kept (stA (stA (st0 w) _) _)) ht hrl).mono ?_;rintro e w1 ⟨rfl,hb1⟩;obtain ⟨k1,f1⟩:=bcell hb1;have z1:w.heap.size+1 < w1.heap.size:=Nat.lt_of_lt_of_le (by simp) hb1.size;have z0:=Nat.lt_of_succ_lt z1)
    | (go_at_call 202;refine (turned_any _ _ _ _ _).mono ?_;rintro e w2 ⟨rfl,hb2⟩;obtain ⟨k2,f2⟩:=bcell hb2;have z2:w1.heap.size < w2.heap.size:=Nat.lt_of_lt_of_le (by simp) hb2.size;have z3:=Nat.lt_trans z1 z2))
   have hF:=Pl.fin [.int .u8 (td m (tiS m k) 3 (rwS m y k)),.int .u8 (td m (tiS m k) 2 (rwS m y k)),.int .u8 (td m (tiS m k) 1 (rwS m y k)),.int .u8 (td m (tiS m k) 0 (rwS m y k))] (Pl.there_new _ _ _ 4 (w.heap.size+1) (by simp) rfl) (stA (stA (st0 w) _) _) (stp (stA hb1 _) hb2) (by simp) (by omega)
   exact bodyPost_ret (v:=.agg _) (by simp only [results,Tryz.results172];simp;exact load_row _ _ _ _ _ _ hF.2) rfl ⟨rfl,hF.1⟩
  ·have hsd:∀ i,sdS m y k i=td m (tiS m k) (i) (rwS m y k):=fun i=>by unfold sdS;rw [if_neg hcl]
   rw [decide_eq_false hcl,hsd,hsd,hsd,hsd]
   clear h hr hcl hsd hrw hrw'
   go_enter Tryz.func172,Tryz.ntmps172
   go_wp2_with (first
    | (go_at_call 200;rw [<- HR.out];refine (rowOf_any m v g o c (tiS m k) (rwS m y k) _ (H.out.kept (stA (stA (st0 w) _) _)) ht hrl).mono ?_;rintro e w1 ⟨rfl,hb1⟩;obtain ⟨k1,f1⟩:=bcell hb1;have z1:w.heap.size+1 < w1.heap.size:=Nat.lt_of_lt_of_le (by simp) hb1.size;have z0:=Nat.lt_of_succ_lt z1))
   have hF:=Pl.fin [.int .u8 (td m (tiS m k) 0 (rwS m y k)),.int .u8 (td m (tiS m k) 1 (rwS m y k)),.int .u8 (td m (tiS m k) 2 (rwS m y k)),.int .u8 (td m (tiS m k) 3 (rwS m y k))] (Pl.there_new _ _ _ 4 (w.heap.size+1) (by simp) rfl) (stA (stA (st0 w) _) _) hb1 (by simp) (by omega)
   refine Pl.cutB (fun W=>Below w.heap.size w W/\W.rangeAt (w.heap.size+1) 0 [.int .u8 (td m (tiS m k) 0 (rwS m y k)),.int .u8 (td m (tiS m k) 1 (rwS m y k)),.int .u8 (td m (tiS m k) 2 (rwS m y k)),.int .u8 (td m (tiS m k) 3 (rwS m y k))]) ⟨stA hF.1 _,rng_over hF.2 (by rw [LnsetC_size];exact z1) _⟩ ?_
   rintro W ⟨hlow,hr⟩
   exact bodyPost_ret (v:=.agg _) (by simp only [results,Tryz.results172];simp;exact load_row _ _ _ _ _ _ hr) rfl ⟨rfl,hlow⟩
theorem info_int:(Tryz.prog.info? 3).map (fun i=>(i.zero,i.size,i.bytes))=some (some (.int .i64 0),1,8):=by kernel_rfl
def ics (l:List Nat):List Value:=l.map (fun c:Nat=>Value.int .i64 (c:Int))
theorem ics_append (a b:List Nat):ics a++ics b=ics (a++b):=by simp [ics]
theorem app1i {ops:Array Oper} {rest:List Oper} {o:Oper} {a:Act} {w:World} {Q:Exit->Act->World->Prop} (hgd:o.guard=none) (s x:Operand) (ho:o.op = .call { callee:=.builtin .append,args:=#[s,x],argTypes:=#[243,243] })
 (B:Nat) (v:Value) (xs:List Nat) (hs:a.eval s=v) (hown:w.ownsRow B 3 1 v xs.length (ics xs)) (g c:Nat) (y:Nat) (z:Int) (hx:a.eval x = .slice (some ⟨g,0,none⟩) 1 c) (hc:w.cell? ⟨g,0,none⟩=some (.int .i64 z)) (hz:z=y) (hl:xs.length<=50000) (hB:B<=w.heap.size)
 (h:∀ v' w',w'.ownsRow B 3 1 v' (xs++[y]).length (ics (xs++[y]))->Below B w w'->wpList Tryz.prog ops Q rest (a.put o.dst v') w'):wpList Tryz.prog ops Q (o :: rest) a w:=by
 obtain ⟨i0,hi0,hz0,hz1,hz2⟩:=info_parts info_int
 subst hz
 refine wpList_append_own _ hgd s x _ ho B 3 i0 _ 1 8 Tryz.underlying243 hi0 hz0 hz1 hz2 rfl (by omega) v xs.length (ics xs) hs hown ⟨g,0,none⟩ 1 c [.int .i64 y] hx rfl (fun j u hj=>?_) (fun u hu=>?_) (by unfold maxLen;omega) (by omega) hB ?_
 ·match j,hj with
  | 0,hj =>
   simp only [List.getElem?_cons_zero,Option.some.injEq] at hj
   rw [<- hj,addr_add];exact hc
 ·simp only [List.mem_singleton] at hu;rw [hu];rfl
 ·intro v' w' hown' hgrow _
  refine h _ w' ?_ ((Below.refl B w).grown hgrow hB (fun k hk=>(hown.lt k hk).1))
  rw [List.length_append,<- ics_append];exact hown'
theorem drS_pre (m:List UInt8) (y:Nat) {j n:Nat} (h:j<=n):drS m y j <+: drS m y n:=by
 unfold drS
 obtain ⟨d,rfl⟩:=Nat.exists_eq_add_of_le h
 rw [List.range_add,List.filter_append]
 exact ⟨_,rfl⟩
theorem drS_two {m:List UInt8} {y j:Nat} (h:j < 8) (h2:(drS m y j).length=2) (ho:onS m y j=true):(drS m y 8).take 2=drS m y j/\decide (2 < (drS m y 8).length)=true:=by
 have h1:=drS_pre m y (show j<=8 by omega)
 have h3:=drS_pre m y (show j+1<=8 by omega)
 have hl:(drS m y (j+1)).length=3:=by rw [drS_succ,if_pos ho];simp [h2]
 refine ⟨?_,decide_eq_true ?_⟩
 ·have:=List.prefix_iff_eq_take.1 h1
  rw [h2] at this
  exact this.symm
 ·have:=h3.length_le
  omega
theorem on_int (m:List UInt8) (y k:Nat):decide ((lnS m k:Int)<=(y:Int)/\(y:Int) < (lnS m k:Int)+4)=onS m y k:=by
 unfold onS
 rw [decide_eq_decide]
 omega
theorem ln_bd (m:List UInt8) (k:Nat):0<=(lnS m k:Int)/\(lnS m k:Int)<=255:=by have:lnS m k < 256:=gb_lt _ _;omega
theorem own_len {w:World} {B:Nat} {v:Value} {n:Nat} {xs:List Value} (h:w.ownsRow B 3 1 v n xs):∃ a c,v = .slice a n c:=by
 rcases h.2 with ⟨rfl,rfl⟩ | ⟨g,cap,cur,rfl,_⟩
 ·exact ⟨_,_,rfl⟩
 ·exact ⟨_,_,rfl⟩
theorem own_int_kept {w w':World} {B:Nat} {v:Value} {n:Nat} {xs:List Value} (h:w.ownsRow B 3 1 v n xs) (hb:Below w.heap.size w w'):w'.ownsRow B 3 1 v n xs:=by
 refine ⟨h.1,?_⟩
 rcases h.2 with h2 | ⟨g,cap,cur,rfl,hb',hg,r⟩
 ·exact Or.inl h2
 ·exact Or.inr ⟨g,cap,cur,rfl,hb',(hb.block g (Array.getElem?_eq_some_iff.1 hg).1).trans hg,r⟩
theorem drawn_any (m:List UInt8) (v:Value) (g o c:Nat) (y:Nat) (w:World) (h:Mm w m v g o c) (hy:y < 8) :
 Calls Tryz.prog 170 #[v,.int .i64 y] w fun e w'=>∃ s,e = .returned (.tuple #[s,.bool (decide (2 < (drS m y 8).length))])/\w'.ownsRow w.heap.size 3 1 s ((drS m y 8).take 2).length (ics ((drS m y 8).take 2))/\Below w.heap.size w w':=by
 have H:=hid h
 clear h
 go_enter Tryz.func170,Tryz.ntmps170
 go_wp2
 go_loopw [4,7] (fun s i wr=>∃ j:Nat,j<=8/\i = .int .i64 j/\(drS m y j).length<=2/\wr.ownsRow w.heap.size 3 1 s (drS m y j).length (ics (drS m y j))/\Below w.heap.size w wr) (fun _ i _=>8 - (intOf i).toNat)
 case atStart=>exact ⟨0,Nat.zero_le _,rfl,by simp [drS],⟨rfl,Or.inl ⟨rfl,rfl⟩⟩,st0 w⟩
 case round =>
  obtain ⟨j,hj,rfl,h2,hown,hbl⟩:=hrel
  have HO:=hid hown
  have HB:=hid hbl
  obtain ⟨sa,sc,rfl⟩:=own_len hown
  clear hown hbl
  by_cases h8:j < 8
  ·have h8':(j:Int) < 8:=by omega
   cases ho:onS m y j with
   | false =>
    have HN:Hid (drS m y (j+1)=drS m y j):=by rw [drS_succ,ho];rfl
    have HOn:=hid ho
    clear ho
    go_wp2_with (first
     | (go_at_call 171;refine (spriteOf_any m v g o c j _ (H.out.kept HB.out) h8).mono ?_;rintro e w1 ⟨rfl,hb1⟩)
     | (go_at_call 201;refine (liesOn_any _ _ _ _ _ _ _ _ (ln_bd m j)).mono ?_;rw [on_int,HOn.out];rintro e w2 ⟨rfl,hb2⟩))
    go_round
    case rel=>exact ⟨j+1,h8,by go_num,by rw [HN.out];exact h2,by rw [HN.out];exact own_int_kept (own_int_kept HO.out hb1) hb2,stp (stp HB.out hb1) hb2⟩
    case measure=>simp [intOf];omega
   | true =>
    by_cases hl:(drS m y j).length=2
    ·have HR:=hid (drS_two h8 hl ho)
     have hl':(((drS m y j).length:Int) == 2)=true:=by rw [hl];rfl
     have HOn:=hid ho
     clear ho hl
     go_wp2_with (first
      | (go_at_call 171;refine (spriteOf_any m v g o c j _ (H.out.kept HB.out) h8).mono ?_;rintro e w1 ⟨rfl,hb1⟩)
      | (go_at_call 201;refine (liesOn_any _ _ _ _ _ _ _ _ (ln_bd m j)).mono ?_;rw [on_int,HOn.out];rintro e w2 ⟨rfl,hb2⟩))
     refine bodyPost_ret (v:=.tuple #[.slice sa (drS m y j).length sc,.bool true]) (by simp [results,Tryz.results170,go_sem]) rfl ?_
     rw [HR.out.1,HR.out.2]
     exact ⟨_,rfl,own_int_kept (own_int_kept HO.out hb1) hb2,stp (stp HB.out hb1) hb2⟩
    ·have HN:Hid (drS m y (j+1)=drS m y j++[j]):=by rw [drS_succ,ho];rfl
     have hl':(((drS m y j).length:Int) == 2)=false:=by simp;omega
     have HLn:Hid ((drS m y j++[j]).length<=2):=by simp only [List.length_append,List.length_singleton];unfold Hid;omega
     have hle:(drS m y j).length<=50000:=by omega
     have HLe:=hid hle
     have HOn:=hid ho
     clear ho hl hle
     go_wp2_with (first
      | (go_at_call 171;refine (spriteOf_any m v g o c j _ (H.out.kept HB.out) h8).mono ?_;rintro e w1 ⟨rfl,hb1⟩)
      | (go_at_call 201;refine (liesOn_any _ _ _ _ _ _ _ _ (ln_bd m j)).mono ?_;rw [on_int,HOn.out];rintro e w2 ⟨rfl,hb2⟩;have HO2:=hid (own_int_kept (own_int_kept HO.out hb1) hb2);have HB2:=hid (stp (stp HB.out hb1) hb2))
      | (at_builtin;refine app1i (by rfl) _ _ (by rfl) w.heap.size _ (drS m y j) (by rfl) (own_int_kept HO2.out (stA (st0 w2) _)) w2.heap.size 1 j j (by rfl) (Pl.new _ _ _ _ rfl) rfl HLe.out (Nat.le_trans HB2.out.size (by simp)) ?_;intro v' w' hown' hb'))
     go_round
     case rel=>exact ⟨j+1,h8,by go_num,by rw [HN.out];exact HLn.out,by rw [HN.out];exact hown',(stA HB2.out _).trans hb'⟩
     case measure=>simp [intOf];omega
  ·have h9:¬ (j:Int) < 8:=by omega
   have e8:j=8:=by omega
   subst e8
   have HR:Hid ((drS m y 8).take 2=drS m y 8/\decide (2 < (drS m y 8).length)=false):=⟨List.take_of_length_le h2,decide_eq_false (by omega)⟩
   go_wp2
   refine bodyPost_ret (v:=.tuple #[.slice sa (drS m y 8).length sc,.bool false]) (by simp [results,Tryz.results170,go_sem]) rfl ?_
   rw [HR.out.1,HR.out.2]
   exact ⟨_,rfl,HO.out,HB.out⟩
end Go.Proofs.YtbhpfkjfijdmaaaGreatDoor
