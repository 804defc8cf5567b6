/-
  Parts of a proof, joined.
-/
import Derived.Test.YtbennamieealbaaGreatDoorZc10
import Derived.Test.YtbennamieealbaaGreatDoorZc03
import Derived.Deep.MidRow
set_option linter.unusedVariables false
set_option maxRecDepth 100000
set_option maxHeartbeats 1600000
namespace Go.Proofs.YtbennamieealbaaGreatDoor
open Go.ChangeShapes Go.WideShapes Go.ChangeAt Go.RowKit
abbrev actsL (b12 b13 b16 b17 b18 b19 b29:Nat):Array Value :=
 #[fv 261 #[],fv 262 #[],fv 263 #[],fv 264 #[],fv 266 #[],fv 268 #[],fv 269 #[],fv 271 #[],fv 271 #[],fv 271 #[],fv 271 #[],fv 271 #[],
   fv 316 #[.pointer (some ⟨b12,0,none⟩)],fv 316 #[.pointer (some ⟨b13,0,none⟩)],fv 275 #[],fv 277 #[],
   fv 320 #[.pointer (some ⟨b16,0,none⟩)],fv 320 #[.pointer (some ⟨b17,0,none⟩)],fv 320 #[.pointer (some ⟨b18,0,none⟩)],fv 320 #[.pointer (some ⟨b19,0,none⟩)],
   fv 283 #[],fv 284 #[],fv 286 #[],fv 287 #[],fv 288 #[],fv 289 #[],fv 290 #[],fv 292 #[],fv 271 #[],
   fv 320 #[.pointer (some ⟨b29,0,none⟩)],.nilFunc,fv 294 #[]]
theorem zjG (g:Nat) (w:World):Calls Tryz.prog 272 #[fv g #[]] w λe w'=>e = .returned (fv 316 #[.pointer (some ⟨w.heap.size,0,none⟩)])/\w'=w.alloc (.cells #[fv g #[]] 354):=by
 go_enter Tryz.func272,Tryz.ntmps272
 go_wp2
 go_ret
 exact ⟨rfl,rfl⟩
theorem zkV (g:Nat) (w:World):Calls Tryz.prog 278 #[fv g #[]] w λe w'=>e = .returned (fv 320 #[.pointer (some ⟨w.heap.size,0,none⟩)])/\w'=w.alloc (.cells #[fv g #[]] 357):=by
 go_enter Tryz.func278,Tryz.ntmps278
 go_wp2
 go_ret
 exact ⟨rfl,rfl⟩
theorem zdO (w:World) (cs:Array Value) (t:TypeId) (n:Nat) (h:cs.size=n):(w.alloc (.cells cs t)).there w.heap.size 0 n:=λj hj=>by
 refine ⟨?_,Lib.frozen_of_heap (heap_alloc_new w _) _⟩
 rw [zai _ _ _ _ rfl,Array.getElem?_eq_getElem (by omega)]
 rfl
theorem below_setCells {n:Nat} {a:World} {b:Nat} (hb:n<=b):∀ (vs:List Value) (o:Nat) (w:World),Below n a w->Below n a (w.setCells b o vs)
 | [],o,w,h=>h
 | v::vs,o,w,h=>below_setCells hb vs (o+1) _ (h.setCell hb v)
theorem cutL {P:Program} {ops:Array Oper} {rest:List Oper} {Q:Exit->Act->World->Prop} {a:Act} {w:World} (K:World->Prop) (h:K w) (k:∀ w',K w'->wpList P ops Q rest a w'):wpList P ops Q rest a w:=k w h
theorem zkW (a b c d e f g:Nat):(actsL a b c d e f g).all (·.oneCell')=true:=by simp [actsL,Value.oneCell']
theorem zhv:(Tryz.prog.info? 320).map (·.size)=some 32:=by kernel_rfl
theorem zjH:Tryz.prog.underlying 320=some (.array 32 319):=by kernel_rfl
def boxes (W:World) (b12 b13 b16 b17 b18 b19 b29:Nat):Prop :=
 W.cell? ⟨b12,0,none⟩=some (fv 273 #[])/\W.cell? ⟨b13,0,none⟩=some (fv 274 #[])/\W.cell? ⟨b16,0,none⟩=some (fv 279 #[])/\W.cell? ⟨b17,0,none⟩=some (fv 280 #[])/\W.cell? ⟨b18,0,none⟩=some (fv 281 #[])/\W.cell? ⟨b19,0,none⟩=some (fv 282 #[])/\W.cell? ⟨b29,0,none⟩=some (fv 293 #[])
theorem znS (w:World) (L:List Value) (z:Obj) (t t':TypeId):boxes (((((((((w.alloc z).alloc (.cells #[fv 273 #[]] t)).alloc (.cells #[fv 274 #[]] t)).alloc (.cells #[fv 279 #[]] t')).alloc (.cells #[fv 280 #[]] t')).alloc (.cells #[fv 281 #[]] t')).alloc (.cells #[fv 282 #[]] t')).alloc (.cells #[fv 293 #[]] t')).setCells w.heap.size 0 L)
 (w.heap.size+1) (w.heap.size+1+1) (w.heap.size+1+1+1) (w.heap.size+1+1+1+1) (w.heap.size+1+1+1+1+1) (w.heap.size+1+1+1+1+1+1) (w.heap.size+1+1+1+1+1+1+1):=by
 have out:∀ (X:World) (b':Nat),b'≠w.heap.size->(X.setCells w.heap.size 0 L).cell? ⟨b',0,none⟩=X.cell? ⟨b',0,none⟩:=λX b' h=>World.cell?_setCells_out _ L 0 X _ (λe=>absurd e h)
 unfold boxes
 refine ⟨?_,?_,?_,?_,?_,?_,?_⟩ <;> rw [out _ _ (by omega)]
 ·rw [World.cell?_alloc_lt _ _ _ (by simp <;> omega),World.cell?_alloc_lt _ _ _ (by simp <;> omega),World.cell?_alloc_lt _ _ _ (by simp <;> omega),World.cell?_alloc_lt _ _ _ (by simp <;> omega),World.cell?_alloc_lt _ _ _ (by simp <;> omega),World.cell?_alloc_lt _ _ _ (by simp <;> omega),zai _ _ _ _ (by simp)];rfl
 ·rw [World.cell?_alloc_lt _ _ _ (by simp <;> omega),World.cell?_alloc_lt _ _ _ (by simp <;> omega),World.cell?_alloc_lt _ _ _ (by simp <;> omega),World.cell?_alloc_lt _ _ _ (by simp <;> omega),World.cell?_alloc_lt _ _ _ (by simp <;> omega),zai _ _ _ _ (by simp)];rfl
 ·rw [World.cell?_alloc_lt _ _ _ (by simp <;> omega),World.cell?_alloc_lt _ _ _ (by simp <;> omega),World.cell?_alloc_lt _ _ _ (by simp <;> omega),World.cell?_alloc_lt _ _ _ (by simp <;> omega),zai _ _ _ _ (by simp)];rfl
 ·rw [World.cell?_alloc_lt _ _ _ (by simp <;> omega),World.cell?_alloc_lt _ _ _ (by simp <;> omega),World.cell?_alloc_lt _ _ _ (by simp <;> omega),zai _ _ _ _ (by simp)];rfl
 ·rw [World.cell?_alloc_lt _ _ _ (by simp <;> omega),World.cell?_alloc_lt _ _ _ (by simp <;> omega),zai _ _ _ _ (by simp)];rfl
 ·rw [World.cell?_alloc_lt _ _ _ (by simp <;> omega),zai _ _ _ _ (by simp)];rfl
 ·rw [zai _ _ _ _ (by simp)];rfl
theorem zi3 (w:World):Calls Tryz.prog 232 #[] w λe w'=>∃ b12 b13 b16 b17 b18 b19 b29,e = .returned (.agg (actsL b12 b13 b16 b17 b18 b19 b29))/\boxes w' b12 b13 b16 b17 b18 b19 b29/\Below w.heap.size w w':=by
 have hload:∀ W:World,W.rangeAt w.heap.size 0 (actsL (w.heap.size+1) (w.heap.size+1+1) (w.heap.size+1+1+1) (w.heap.size+1+1+1+1) (w.heap.size+1+1+1+1+1) (w.heap.size+1+1+1+1+1+1) (w.heap.size+1+1+1+1+1+1+1)).toList->(loadVar 320 ⟨w.heap.size,0,none⟩).run Tryz.prog W = .ok (.agg (actsL (w.heap.size+1) (w.heap.size+1+1) (w.heap.size+1+1+1) (w.heap.size+1+1+1+1) (w.heap.size+1+1+1+1+1) (w.heap.size+1+1+1+1+1+1) (w.heap.size+1+1+1+1+1+1+1))) W:=λW h =>
  run_loadVar_mid W w.heap.size 0 320 _ (.array 32 319) h zjH rfl zhv
 have HL:=hid hload
 clear hload
 go_enter Tryz.func232,Tryz.ntmps232
 go_wp2_with (first
  | (go_at_call 272;refine (zjG _ _).mono ?_;rintro e w' ⟨rfl,rfl⟩)
  | (go_at_call 278;refine (zkV _ _).mono ?_;rintro e w' ⟨rfl,rfl⟩)
  | (refine wpList_store_mid rfl 320 (.tmp 0) (.tmp 8) rfl w.heap.size 0 _ rfl rfl ?_ ?_ ?_ ?_
     ·exact World.there_alloc (World.there_alloc (World.there_alloc (World.there_alloc (World.there_alloc (World.there_alloc (World.there_alloc (zdO w _ _ 32 rfl) _) _) _) _) _) _) _
     ·exact zhv
     ·exact zkW (w.heap.size+1) (w.heap.size+1+1) (w.heap.size+1+1+1) (w.heap.size+1+1+1+1) (w.heap.size+1+1+1+1+1) (w.heap.size+1+1+1+1+1+1) (w.heap.size+1+1+1+1+1+1+1)
     refine cutL (λW=>W.rangeAt w.heap.size 0 (actsL (w.heap.size+1) (w.heap.size+1+1) (w.heap.size+1+1+1) (w.heap.size+1+1+1+1) (w.heap.size+1+1+1+1+1) (w.heap.size+1+1+1+1+1+1) (w.heap.size+1+1+1+1+1+1+1)).toList/\boxes W (w.heap.size+1) (w.heap.size+1+1) (w.heap.size+1+1+1) (w.heap.size+1+1+1+1) (w.heap.size+1+1+1+1+1) (w.heap.size+1+1+1+1+1+1) (w.heap.size+1+1+1+1+1+1+1)/\Below w.heap.size w W) ⟨?_,?_,?_⟩ ?_
     ·exact World.rangeAt_setCells_same _ _ _ _ (World.there_alloc (World.there_alloc (World.there_alloc (World.there_alloc (World.there_alloc (World.there_alloc (World.there_alloc (zdO w _ _ 32 rfl) _) _) _) _) _) _) _)
     ·exact znS w _ _ _ _
     ·exact below_setCells (Nat.le_refl _) _ _ _ (stA (stA (stA (stA (stA (stA (stA (stA (st0 w) _) _) _) _) _) _) _) _)
     rintro W ⟨hR,hX,hB⟩
     have HRG:=hid hR
     have HX:=hid hX
     have HB:=hid hB
     clear hR hX hB))
 have hl:=HL.out W HRG.out
 exact bodyPost_ret (v:=.agg (actsL (w.heap.size+1) (w.heap.size+1+1) (w.heap.size+1+1+1) (w.heap.size+1+1+1+1) (w.heap.size+1+1+1+1+1) (w.heap.size+1+1+1+1+1+1) (w.heap.size+1+1+1+1+1+1+1))) (by simp only [results,Tryz.results232];simp;exact hl) rfl ⟨_,_,_,_,_,_,_,rfl,HX.out,HB.out⟩
section
variable {σ : Type} {m : C.Mem σ} {B nr nw : Nat} {cr cw : Array Value × Array Value} {I : World -> σ -> Prop} {T : σ -> Nat -> Prop}
theorem PI.boxF (R:RS m B nr nw cr cw I T) {w w0 w1:World} {p:Nat} {x:C.St σ} {s':σ} {cs:Array Value} {t:TypeId} (h:PI B nr nw cr cw I T w p x) (hm:PM B T p x.s s' w0 w1) (e:w0.heap=(w.alloc (.cells cs t)).heap) (ht:t≠66:=by decide):∀ o,w1.frozen? ⟨w.heap.size,o,none⟩=false:=λo=>by
 have hlt:w.heap.size<w0.heap.size:=by rw [e];simp
 rw [PM.froz hm hlt (by have:=h.lt;omega) (R.outN h.inv e ht) o]
 exact (World.frozen?_of_block (w:=w.alloc (.cells cs t)) (by rw [e])).trans (Lib.frozen_of_heap (heap_alloc_new w _) o)
theorem PI.apart (R:RS m B nr nw cr cw I T) {w w0 w1:World} {p:Nat} {x:C.St σ} {s':σ} {cs:Array Value} {t:TypeId} (h:PI B nr nw cr cw I T w p x) (hm:PM B T p x.s s' w0 w1) (e:w0.heap=(w.alloc (.cells cs t)).heap) (hty:t≠66:=by decide):¬ Tw T w1 s' w.heap.size/\w.heap.size≠p:=by
 have hlt:w.heap.size<w0.heap.size:=by rw [e];simp
 have hp:=h.lt
 refine ⟨λht=>?_,by omega⟩
 rcases hm.fresh _ (Or.inr ht) with (hx|hx)|hx
 ·omega
 ·exact R.outN h.inv e hty hx
 ·omega
theorem PI.other (R:RS m B nr nw cr cw I T) {w:World} {p:Nat} {x:C.St σ} (h:PI B nr nw cr cw I T w p x) {k:Nat} (hk:k≠p) (ht:¬ Tw T w x.s k) (i:Nat) (v:Value):PI B nr nw cr cw I T (w.setCell ⟨k,i,none⟩ v) p x :=
 ⟨R.keep h.inv (by rw [zbe];exact Nat.le_refl _) (λj hj=>Below.heap_setCell _ _ _ _ (λe=>ht (by have e':j=k:=e;rw [<- e'];exact hj))),h.own,h.big,(Below.heap_setCell _ _ _ _ (λe=>hk (show p=k from e).symm)).trans h.blk,h.ok⟩
theorem PI.five (R:RS m B nr nw cr cw I T) {w:World} {p:Nat} {x:C.St σ} (h:PI B nr nw cr cw I T w p x) {k:Nat} (hk:k≠p) (ht:¬ Tw T w x.s k) (v0 v1 v2 v3 v4:Value) :
 PI B nr nw cr cw I T (((((w.setCell ⟨k,0,none⟩ v0).setCell ⟨k,1,none⟩ v1).setCell ⟨k,2,none⟩ v2).setCell ⟨k,3,none⟩ v3).setCell ⟨k,4,none⟩ v4) p x /\ ∀ j,¬ Tw T w x.s j->¬ Tw T (((((w.setCell ⟨k,0,none⟩ v0).setCell ⟨k,1,none⟩ v1).setCell ⟨k,2,none⟩ v2).setCell ⟨k,3,none⟩ v3).setCell ⟨k,4,none⟩ v4) x.s j :=
 have t1:=λy=>ht (Tw.set (T:=T) (a:=⟨k,0,none⟩) (v:=v0) y)
 have t2:=λy=>t1 (Tw.set (T:=T) (a:=⟨k,1,none⟩) (v:=v1) y)
 have t3:=λy=>t2 (Tw.set (T:=T) (a:=⟨k,2,none⟩) (v:=v2) y)
 have t4:=λy=>t3 (Tw.set (T:=T) (a:=⟨k,3,none⟩) (v:=v3) y)
 ⟨((((h.other R hk ht 0 v0).other R hk t1 1 v1).other R hk t2 2 v2).other R hk t3 3 v3).other R hk t4 4 v4,λj hj y=>hj (Tw.set (Tw.set (Tw.set (Tw.set (Tw.set y)))))⟩
theorem PM.setNew {w w':World} {p:Nat} {s s':σ} (h:PM B T p s s' w w') (hB:B<=w.heap.size) {k:Nat} (hk:w.heap.size<=k) (i:Nat) (v:Value):PM B T p s s' w (w'.setCell ⟨k,i,none⟩ v):=(Mv.setCell h (Nat.le_trans hB hk) (Or.inr hk) v).weak (λk hk=>Or.inl (hk.imp id Tw.set))
theorem zqh (a:Int):O.rLen a=1 \/ O.rLen a=2:=by unfold O.rLen;split <;> simp
theorem zkX (R:RS m B nr nw cr cw I T) (w:World) (p:Nat) (x:C.St σ) (hP:PI B nr nw cr cw I T w p x) (a:Int) (ha:(m.rdw x.s x.c.PC).1=a) (hl:O.rLen a=1) :
 Calls Tryz.prog 230 #[.pointer (some ⟨p,0,none⟩)] w λe w'=>e = .returned (orderV a 0)/\PI B nr nw cr cw I T w' p ⟨{ x.c with PC:=(x.c.PC+2)%65536 },(m.rdw x.s x.c.PC).2,x.n⟩/\PM B T p x.s (m.rdw x.s x.c.PC).2 w w':=by
 have hb:=R.word x.s x.c.PC
 rw [ha] at hb
 have HA:=hid ha
 have HN:=hid (λW (h:PI B nr nw cr cw I T W p x)=>zga R W p x h)
 rw [ha] at HN
 have hlt:=hP.lt
 have HP:=hid hP
 have HR:=hid R
 have HB:=hid (hP.box R (.cells #[.int .i64 0,.int .i64 0,.int .i64 0,.int .i64 0,.int .i64 0] 225))
 have HM:=hid (PM.box R hP (.cells #[.int .i64 0,.int .i64 0,.int .i64 0,.int .i64 0,.int .i64 0] 225))
 have HL:=hid hl
 have hl1:¬ (1:Int)<O.rLen a:=by omega
 unfold orderV
 clear hP R ha hl
 go_enter Tryz.func230,Tryz.ntmps230
 go_wp2_with (first
  | (go_at_call 258;refine (HN.out _ ?_).mono ?_;(exact HB.out);rintro e w1 ⟨rfl,hP1,hm1⟩;obtain ⟨hz1,hq1⟩:=HP.out.boxS HR.out hm1 rfl;have hf1:=HP.out.boxF HR.out hm1 rfl;have HY1:=hid hP1;clear hP1)
  | (go_at_call 259;refine (zfx a 0 hb (by omega) _ (HR.out.shapes HY1.out.inv)).mono ?_;unfold orderV;rintro e w2 ⟨rfl,hb2⟩;obtain ⟨k2,g2⟩:=bcell hb2;have z2:w.heap.size<w2.heap.size:=Nat.lt_of_lt_of_le hz1 hb2.size))
 obtain ⟨ha1,hp1⟩:=HP.out.apart HR.out hm1 rfl
 refine bodyPost_ret (v:=.agg #[.int .i64 (O.rOp a),.int .i64 (O.rD a),.int .i64 (O.rS a),.int .i64 (O.rN a),.int .i64 (O.rW a 0)]) (by simp [results,Tryz.results230,go_sem,z2,k2,hz1,hq1]) rfl ⟨rfl,?_,?_⟩
 ·exact (((HY1.out.kept HR.out hb2).five HR.out hp1 (λy=>ha1 (y.same (hb2.block _ hz1))) _ _ _ _ _).1.box HR.out _).same HR.out rfl
 ·exact ((((((((HM.out.trans hm1).kept (HY1.out.hB HR.out) hb2).setNew (HP.out.hB HR.out) (Nat.le_refl _) 0 _).setNew (HP.out.hB HR.out) (Nat.le_refl _) 1 _).setNew (HP.out.hB HR.out) (Nat.le_refl _) 2 _).setNew (HP.out.hB HR.out) (Nat.le_refl _) 3 _).setNew (HP.out.hB HR.out) (Nat.le_refl _) 4 _).alloc (HP.out.hB HR.out) _)
theorem zkY (R:RS m B nr nw cr cw I T) (w:World) (p:Nat) (x:C.St σ) (hP:PI B nr nw cr cw I T w p x) (a b:Int) (y1:C.St σ) (hy1:y1=⟨{ x.c with PC:=(x.c.PC+2)%65536 },(m.rdw x.s x.c.PC).2,x.n⟩) (ha:(m.rdw x.s x.c.PC).1=a) (hl:O.rLen a=2) (hbv:(m.rdw y1.s y1.c.PC).1=b) :
 Calls Tryz.prog 230 #[.pointer (some ⟨p,0,none⟩)] w λe w'=>e = .returned (orderV a b)/\PI B nr nw cr cw I T w' p ⟨{ y1.c with PC:=(y1.c.PC+2)%65536 },(m.rdw y1.s y1.c.PC).2,y1.n⟩/\PM B T p x.s (m.rdw y1.s y1.c.PC).2 w w':=by
 have hb:=R.word x.s x.c.PC
 rw [ha] at hb
 have hb':=R.word y1.s y1.c.PC
 rw [hbv] at hb'
 have HN:=hid (λW (h:PI B nr nw cr cw I T W p x)=>zga R W p x h)
 rw [ha,<- hy1] at HN
 have HN2:=hid (λW (h:PI B nr nw cr cw I T W p y1)=>zga R W p y1 h)
 rw [hbv] at HN2
 have es:y1.s=(m.rdw x.s x.c.PC).2:=by rw [hy1]
 rw [<- es] at HN
 have hlt:=hP.lt
 have HP:=hid hP
 have HR:=hid R
 have HB:=hid (hP.box R (.cells #[.int .i64 0,.int .i64 0,.int .i64 0,.int .i64 0,.int .i64 0] 225))
 have HM:=hid (PM.box R hP (.cells #[.int .i64 0,.int .i64 0,.int .i64 0,.int .i64 0,.int .i64 0] 225))
 have hl1:(1:Int)<O.rLen a:=by omega
 unfold orderV
 clear hP R ha hl hbv hy1 es
 go_enter Tryz.func230,Tryz.ntmps230
 go_wp2_with (first
  | (go_at_call 258;first
      | (refine (HN2.out _ ?_).mono ?_;(exact HB2.out);rintro e w3 ⟨rfl,hP3,hm3⟩;obtain ⟨z3,q3⟩:=HK2.out.boxS HR.out hm3 rfl;have hf3:=HK2.out.boxF HR.out hm3 rfl;have r30:=hKP.out w3 hm3;have HY3:=hid hP3;clear hP3)
      | (refine (HN.out _ ?_).mono ?_;(exact HB.out);rintro e w1 ⟨rfl,hP1,hm1⟩;obtain ⟨hz1,hq1⟩:=HP.out.boxS HR.out hm1 rfl;have hf1:=HP.out.boxF HR.out hm1 rfl;obtain ⟨ha1,hp1⟩:=HP.out.apart HR.out hm1 rfl;have HY1:=hid hP1;clear hP1))
  | (go_at_call 259;first
      | (refine (zfx a b hb hb' _ (HR.out.shapes HY3.out.inv)).mono ?_;unfold orderV;rintro e w4 ⟨rfl,hb4⟩;obtain ⟨k4,g4⟩:=bcell hb4;have z4:=Nat.lt_of_lt_of_le z3 hb4.size;have z4':=Nat.lt_of_lt_of_le r30.1 hb4.size)
      | (refine (zfx a 0 hb (by omega) _ (HR.out.shapes HY1.out.inv)).mono ?_;unfold orderV;rintro e w2 ⟨rfl,hb2⟩;obtain ⟨k2,g2⟩:=bcell hb2;have z2:w.heap.size<w2.heap.size:=Nat.lt_of_lt_of_le hz1 hb2.size;have HK2:=hid (HY1.out.kept HR.out hb2);have HB2:=hid ((HY1.out.kept HR.out hb2).box HR.out (.cells #[.int .i64 (O.rOp a),.int .i64 (O.rD a),.int .i64 (O.rS a),.int .i64 (O.rN a),.int .i64 (O.rW a 0)] 225));have hKP:Hid (∀ w3,PM B T p y1.s (m.rdw y1.s y1.c.PC).2 (w2.alloc (.cells #[.int .i64 (O.rOp a),.int .i64 (O.rD a),.int .i64 (O.rS a),.int .i64 (O.rN a),.int .i64 (O.rW a 0)] 225)) w3->w.heap.size<w3.heap.size/\(∀ o,w3.cell? ⟨w.heap.size,o,none⟩=w2.cell? ⟨w.heap.size,o,none⟩) /\ ∀ o,w3.frozen? ⟨w.heap.size,o,none⟩=false):=λw3 hm3=>⟨Nat.lt_of_lt_of_le (Nat.lt_of_lt_of_le z2 (by simp)) hm3.size,λo=>(PM.cell hm3 (by simp;omega) hp1 (λy=>ha1 ((y.same (heap_alloc_old _ _ z2)).same (hb2.block _ hz1))) o).trans (World.cell?_alloc_lt _ _ _ z2),λo=>(PM.froz hm3 (by simp;omega) hp1 (λy=>ha1 ((y.same (heap_alloc_old _ _ z2)).same (hb2.block _ hz1))) o).trans ((World.frozen?_of_block (w:=w2) (heap_alloc_old _ _ z2)).trans ((g2 _ _ hz1).trans (hf1 o)))⟩)))
 have hb3:¬ Tw T w3 (m.rdw y1.s y1.c.PC).2 w.heap.size:=λht=>by
  rcases hm3.fresh _ (Or.inr ht) with (hx|hx)|hx
  ·exact hp1 hx
  ·exact ha1 ((hx.same (Below.heap_alloc _ _ _ z2)).same (hb2.block _ hz1))
  ·simp at hx;omega
 obtain ⟨ha3,hp3⟩:=HK2.out.apart HR.out hm3 rfl
 refine bodyPost_ret (v:=.agg #[.int .i64 (O.rOp a),.int .i64 (O.rD a),.int .i64 (O.rS a),.int .i64 (O.rN a),.int .i64 (O.rW a b)]) (by simp [results,Tryz.results230,go_sem,k4,r30,k2,hz1,hq1]) rfl ⟨rfl,?_,?_⟩
 ·have h4:=HY3.out.kept HR.out hb4
  obtain ⟨h5,h6⟩:=h4.five HR.out hp3 (λy=>ha3 (y.same (hb4.block _ z3))) (.int .i64 (O.rOp a)) (.int .i64 (O.rD a)) (.int .i64 (O.rS a)) (.int .i64 (O.rN a)) (.int .i64 (O.rW a b))
  exact (h5.five HR.out hp1 (h6 _ (λy=>hb3 (y.same (hb4.block _ r30.1)))) _ _ _ _ _).1
 ·have hB:=HP.out.hB HR.out
  have hw2:w.heap.size<=w2.heap.size:=by omega
  exact ((((((((((((((HM.out.trans hm1).kept (HY1.out.hB HR.out) hb2).alloc hB _).trans hm3).kept (HY3.out.hB HR.out) hb4).setNew hB hw2 0 _).setNew hB hw2 1 _).setNew hB hw2 2 _).setNew hB hw2 3 _).setNew hB hw2 4 _).setNew hB (Nat.le_refl _) 0 _).setNew hB (Nat.le_refl _) 1 _).setNew hB (Nat.le_refl _) 2 _).setNew hB (Nat.le_refl _) 3 _).setNew hB (Nat.le_refl _) 4 _
theorem zkZ (R:RS m B nr nw cr cw I T) (w:World) (p:Nat) (x:C.St σ) (hP:PI B nr nw cr cw I T w p x) :
 Calls Tryz.prog 230 #[.pointer (some ⟨p,0,none⟩)] w λe w'=>e = .returned (orderV (C.word1 m x.c x.s) (C.word2 m x.c x.s))/\PI B nr nw cr cw I T w' p { C.behind m x.c x.s with n:=x.n }/\PM B T p x.s (C.behind m x.c x.s).s w w':=by
 rcases zqh (C.word1 m x.c x.s) with h|h
 ·have h2:¬ O.rLen (C.word1 m x.c x.s)=2:=by omega
  have e1:C.word2 m x.c x.s=0:=by unfold C.word2;rw [if_neg h2]
  have e2:C.behind m x.c x.s=⟨{ x.c with PC:=(x.c.PC+2)%65536 },(m.rdw x.s x.c.PC).2,0⟩:=by unfold C.behind;rw [if_neg h2,h];rfl
  rw [e1,e2]
  exact zkX R w p x hP _ rfl h
 ·have e1:C.word2 m x.c x.s=(m.rdw (m.rdw x.s x.c.PC).2 ((x.c.PC+2)%65536)).1:=by unfold C.word2;rw [if_pos h]
  have e2:C.behind m x.c x.s=⟨{ x.c with PC:=((x.c.PC+2)%65536+2)%65536 },(m.rdw (m.rdw x.s x.c.PC).2 ((x.c.PC+2)%65536)).2,0⟩:=by
   unfold C.behind
   rw [if_pos h,h]
   have:(x.c.PC+2*2)%65536=((x.c.PC+2)%65536+2)%65536:=by omega
   rw [this]
  rw [e1,e2]
  exact zkY R w p x hP _ _ _ rfl rfl h rfl
end
section
variable {σ : Type} {m : C.Mem σ} {B nr nw : Nat} {cr cw : Array Value × Array Value} {I : World -> σ -> Prop} {T : σ -> Nat -> Prop}
theorem zqi (R:RS m B nr nw cr cw I T) (d s:Nat) (n v:Int) (hv:0<=v) (hv':v<=65535) (b:Nat) (w:World) (p:Nat) (x:C.St σ) (hx0:0<=x.n) (hx1:x.n<=100) (hP:PI B nr nw cr cw I T w p x) (hb:w.cell? ⟨b,0,none⟩=some (fv 279 #[])) :
 Calls Tryz.prog 320 #[.pointer (some ⟨p,0,none⟩),ordV 16 d s n v,.pointer (some ⟨b,0,none⟩)] w (AP B nr nw cr cw I T w p x (C.act m x 16 d s n v)) :=
 zcH R _ (Or.inl rfl) true 16 d s n v hv hv' b w p x hx0 hx1 hP _ rfl hb (λW=>zqd x.c W)
theorem zqj (R:RS m B nr nw cr cw I T) (d s:Nat) (n v:Int) (hv:0<=v) (hv':v<=65535) (b:Nat) (w:World) (p:Nat) (x:C.St σ) (hx0:0<=x.n) (hx1:x.n<=100) (hP:PI B nr nw cr cw I T w p x) (hb:w.cell? ⟨b,0,none⟩=some (fv 280 #[])) :
 Calls Tryz.prog 320 #[.pointer (some ⟨p,0,none⟩),ordV 17 d s n v,.pointer (some ⟨b,0,none⟩)] w (AP B nr nw cr cw I T w p x (C.act m x 17 d s n v)) :=
 zcH R _ (Or.inr (Or.inl rfl)) x.c.Z 17 d s n v hv hv' b w p x hx0 hx1 hP _ rfl hb (λW=>zqe x.c W)
theorem zqk (R:RS m B nr nw cr cw I T) (d s:Nat) (n v:Int) (hv:0<=v) (hv':v<=65535) (b:Nat) (w:World) (p:Nat) (x:C.St σ) (hx0:0<=x.n) (hx1:x.n<=100) (hP:PI B nr nw cr cw I T w p x) (hb:w.cell? ⟨b,0,none⟩=some (fv 281 #[])) :
 Calls Tryz.prog 320 #[.pointer (some ⟨p,0,none⟩),ordV 18 d s n v,.pointer (some ⟨b,0,none⟩)] w (AP B nr nw cr cw I T w p x (C.act m x 18 d s n v)) :=
 zcH R _ (Or.inr (Or.inr (Or.inl rfl))) x.c.N 18 d s n v hv hv' b w p x hx0 hx1 hP _ rfl hb (λW=>zqf x.c W)
theorem zql (R:RS m B nr nw cr cw I T) (d s:Nat) (n v:Int) (hv:0<=v) (hv':v<=65535) (b:Nat) (w:World) (p:Nat) (x:C.St σ) (hx0:0<=x.n) (hx1:x.n<=100) (hP:PI B nr nw cr cw I T w p x) (hb:w.cell? ⟨b,0,none⟩=some (fv 282 #[])) :
 Calls Tryz.prog 320 #[.pointer (some ⟨p,0,none⟩),ordV 19 d s n v,.pointer (some ⟨b,0,none⟩)] w (AP B nr nw cr cw I T w p x (C.act m x 19 d s n v)) :=
 zcH R _ (Or.inr (Or.inr (Or.inr (Or.inl rfl)))) x.c.C 19 d s n v hv hv' b w p x hx0 hx1 hP _ rfl hb (λW=>zqg x.c W)
theorem zqm (R:RS m B nr nw cr cw I T) (d s:Nat) (n v:Int) (hv:0<=v) (hv':v<=65535) (b:Nat) (w:World) (p:Nat) (x:C.St σ) (hx0:0<=x.n) (hx1:x.n<=100) (hP:PI B nr nw cr cw I T w p x) (hb:w.cell? ⟨b,0,none⟩=some (fv 293 #[])) :
 Calls Tryz.prog 320 #[.pointer (some ⟨p,0,none⟩),ordV 29 d s n v,.pointer (some ⟨b,0,none⟩)] w (AP B nr nw cr cw I T w p x (C.act m x 29 d s n v)) :=
 zcH R _ (Or.inr (Or.inr (Or.inr (Or.inr rfl)))) (!x.c.Z) 29 d s n v hv hv' b w p x hx0 hx1 hP _ (by show (if x.c.Z then x else C.jump x v)=_;cases x.c.Z <;> rfl) hb (λW=>znR x.c W)
theorem znT (b12 b13 b16 b17 b18 b19 b29:Nat) (w:World):(Instr.index 320 (.agg (actsL b12 b13 b16 b17 b18 b19 b29)) (.int .i64 0)).run Tryz.prog w = .ok (fv 261 #[]) w:=by kernel_rfl
theorem znU (b12 b13 b16 b17 b18 b19 b29:Nat) (w:World):(Instr.index 320 (.agg (actsL b12 b13 b16 b17 b18 b19 b29)) (.int .i64 1)).run Tryz.prog w = .ok (fv 262 #[]) w:=by kernel_rfl
theorem znV (b12 b13 b16 b17 b18 b19 b29:Nat) (w:World):(Instr.index 320 (.agg (actsL b12 b13 b16 b17 b18 b19 b29)) (.int .i64 2)).run Tryz.prog w = .ok (fv 263 #[]) w:=by kernel_rfl
theorem znW (b12 b13 b16 b17 b18 b19 b29:Nat) (w:World):(Instr.index 320 (.agg (actsL b12 b13 b16 b17 b18 b19 b29)) (.int .i64 3)).run Tryz.prog w = .ok (fv 264 #[]) w:=by kernel_rfl
theorem znX (b12 b13 b16 b17 b18 b19 b29:Nat) (w:World):(Instr.index 320 (.agg (actsL b12 b13 b16 b17 b18 b19 b29)) (.int .i64 4)).run Tryz.prog w = .ok (fv 266 #[]) w:=by kernel_rfl
theorem znY (b12 b13 b16 b17 b18 b19 b29:Nat) (w:World):(Instr.index 320 (.agg (actsL b12 b13 b16 b17 b18 b19 b29)) (.int .i64 5)).run Tryz.prog w = .ok (fv 268 #[]) w:=by kernel_rfl
theorem znZ (b12 b13 b16 b17 b18 b19 b29:Nat) (w:World):(Instr.index 320 (.agg (actsL b12 b13 b16 b17 b18 b19 b29)) (.int .i64 6)).run Tryz.prog w = .ok (fv 269 #[]) w:=by kernel_rfl
theorem zn0 (b12 b13 b16 b17 b18 b19 b29:Nat) (w:World):(Instr.index 320 (.agg (actsL b12 b13 b16 b17 b18 b19 b29)) (.int .i64 7)).run Tryz.prog w = .ok (fv 271 #[]) w:=by kernel_rfl
theorem zn1 (b12 b13 b16 b17 b18 b19 b29:Nat) (w:World):(Instr.index 320 (.agg (actsL b12 b13 b16 b17 b18 b19 b29)) (.int .i64 8)).run Tryz.prog w = .ok (fv 271 #[]) w:=by kernel_rfl
theorem zn2 (b12 b13 b16 b17 b18 b19 b29:Nat) (w:World):(Instr.index 320 (.agg (actsL b12 b13 b16 b17 b18 b19 b29)) (.int .i64 9)).run Tryz.prog w = .ok (fv 271 #[]) w:=by kernel_rfl
theorem zk0 (b12 b13 b16 b17 b18 b19 b29:Nat) (w:World):(Instr.index 320 (.agg (actsL b12 b13 b16 b17 b18 b19 b29)) (.int .i64 10)).run Tryz.prog w = .ok (fv 271 #[]) w:=by kernel_rfl
theorem zk1 (b12 b13 b16 b17 b18 b19 b29:Nat) (w:World):(Instr.index 320 (.agg (actsL b12 b13 b16 b17 b18 b19 b29)) (.int .i64 11)).run Tryz.prog w = .ok (fv 271 #[]) w:=by kernel_rfl
theorem zk2 (b12 b13 b16 b17 b18 b19 b29:Nat) (w:World):(Instr.index 320 (.agg (actsL b12 b13 b16 b17 b18 b19 b29)) (.int .i64 12)).run Tryz.prog w = .ok (fv 316 #[.pointer (some ⟨b12,0,none⟩)]) w:=by kernel_rfl
theorem zk3 (b12 b13 b16 b17 b18 b19 b29:Nat) (w:World):(Instr.index 320 (.agg (actsL b12 b13 b16 b17 b18 b19 b29)) (.int .i64 13)).run Tryz.prog w = .ok (fv 316 #[.pointer (some ⟨b13,0,none⟩)]) w:=by kernel_rfl
theorem zk4 (b12 b13 b16 b17 b18 b19 b29:Nat) (w:World):(Instr.index 320 (.agg (actsL b12 b13 b16 b17 b18 b19 b29)) (.int .i64 14)).run Tryz.prog w = .ok (fv 275 #[]) w:=by kernel_rfl
theorem zk5 (b12 b13 b16 b17 b18 b19 b29:Nat) (w:World):(Instr.index 320 (.agg (actsL b12 b13 b16 b17 b18 b19 b29)) (.int .i64 15)).run Tryz.prog w = .ok (fv 277 #[]) w:=by kernel_rfl
theorem zk6 (b12 b13 b16 b17 b18 b19 b29:Nat) (w:World):(Instr.index 320 (.agg (actsL b12 b13 b16 b17 b18 b19 b29)) (.int .i64 16)).run Tryz.prog w = .ok (fv 320 #[.pointer (some ⟨b16,0,none⟩)]) w:=by kernel_rfl
theorem zk7 (b12 b13 b16 b17 b18 b19 b29:Nat) (w:World):(Instr.index 320 (.agg (actsL b12 b13 b16 b17 b18 b19 b29)) (.int .i64 17)).run Tryz.prog w = .ok (fv 320 #[.pointer (some ⟨b17,0,none⟩)]) w:=by kernel_rfl
theorem zk8 (b12 b13 b16 b17 b18 b19 b29:Nat) (w:World):(Instr.index 320 (.agg (actsL b12 b13 b16 b17 b18 b19 b29)) (.int .i64 18)).run Tryz.prog w = .ok (fv 320 #[.pointer (some ⟨b18,0,none⟩)]) w:=by kernel_rfl
theorem zk9 (b12 b13 b16 b17 b18 b19 b29:Nat) (w:World):(Instr.index 320 (.agg (actsL b12 b13 b16 b17 b18 b19 b29)) (.int .i64 19)).run Tryz.prog w = .ok (fv 320 #[.pointer (some ⟨b19,0,none⟩)]) w:=by kernel_rfl
theorem zla (b12 b13 b16 b17 b18 b19 b29:Nat) (w:World):(Instr.index 320 (.agg (actsL b12 b13 b16 b17 b18 b19 b29)) (.int .i64 20)).run Tryz.prog w = .ok (fv 283 #[]) w:=by kernel_rfl
theorem zlb (b12 b13 b16 b17 b18 b19 b29:Nat) (w:World):(Instr.index 320 (.agg (actsL b12 b13 b16 b17 b18 b19 b29)) (.int .i64 21)).run Tryz.prog w = .ok (fv 284 #[]) w:=by kernel_rfl
theorem zlc (b12 b13 b16 b17 b18 b19 b29:Nat) (w:World):(Instr.index 320 (.agg (actsL b12 b13 b16 b17 b18 b19 b29)) (.int .i64 22)).run Tryz.prog w = .ok (fv 286 #[]) w:=by kernel_rfl
theorem zld (b12 b13 b16 b17 b18 b19 b29:Nat) (w:World):(Instr.index 320 (.agg (actsL b12 b13 b16 b17 b18 b19 b29)) (.int .i64 23)).run Tryz.prog w = .ok (fv 287 #[]) w:=by kernel_rfl
theorem zle (b12 b13 b16 b17 b18 b19 b29:Nat) (w:World):(Instr.index 320 (.agg (actsL b12 b13 b16 b17 b18 b19 b29)) (.int .i64 24)).run Tryz.prog w = .ok (fv 288 #[]) w:=by kernel_rfl
theorem zlf (b12 b13 b16 b17 b18 b19 b29:Nat) (w:World):(Instr.index 320 (.agg (actsL b12 b13 b16 b17 b18 b19 b29)) (.int .i64 25)).run Tryz.prog w = .ok (fv 289 #[]) w:=by kernel_rfl
theorem zlg (b12 b13 b16 b17 b18 b19 b29:Nat) (w:World):(Instr.index 320 (.agg (actsL b12 b13 b16 b17 b18 b19 b29)) (.int .i64 26)).run Tryz.prog w = .ok (fv 290 #[]) w:=by kernel_rfl
theorem zlh (b12 b13 b16 b17 b18 b19 b29:Nat) (w:World):(Instr.index 320 (.agg (actsL b12 b13 b16 b17 b18 b19 b29)) (.int .i64 27)).run Tryz.prog w = .ok (fv 292 #[]) w:=by kernel_rfl
theorem zli (b12 b13 b16 b17 b18 b19 b29:Nat) (w:World):(Instr.index 320 (.agg (actsL b12 b13 b16 b17 b18 b19 b29)) (.int .i64 28)).run Tryz.prog w = .ok (fv 271 #[]) w:=by kernel_rfl
theorem zlj (b12 b13 b16 b17 b18 b19 b29:Nat) (w:World):(Instr.index 320 (.agg (actsL b12 b13 b16 b17 b18 b19 b29)) (.int .i64 29)).run Tryz.prog w = .ok (fv 320 #[.pointer (some ⟨b29,0,none⟩)]) w:=by kernel_rfl
theorem zlk (b12 b13 b16 b17 b18 b19 b29:Nat) (w:World):(Instr.index 320 (.agg (actsL b12 b13 b16 b17 b18 b19 b29)) (.int .i64 31)).run Tryz.prog w = .ok (fv 294 #[]) w:=by kernel_rfl
end
section
variable {σ : Type} {m : C.Mem σ} {B nr nw : Nat} {cr cw : Array Value × Array Value} {I : World -> σ -> Prop} {T : σ -> Nat -> Prop}
theorem zaq (R:RS m B nr nw cr cw I T) (k:Nat) (hk:k<32) (hk30:k≠30) (g:Nat) (hcf:∀ (a:Array Value) (w:World),(callFunc g a).run Tryz.prog w = .ok (.enter g a) w)
 (hi:∀ (b12 b13 b16 b17 b18 b19 b29:Nat) (w:World),(Instr.index 320 (.agg (actsL b12 b13 b16 b17 b18 b19 b29)) (.int .i64 k)).run Tryz.prog w = .ok (fv g #[]) w)
 (d s:Nat) (n v:Int) (r:Bool) (w:World) (p:Nat) (x y:C.St σ) (hP:PI B nr nw cr cw I T w p x) (hr:(r && x.c.May)=false) (hw:x.c.Waits=false)
 (hF:Calls Tryz.prog 230 #[.pointer (some ⟨p,0,none⟩)] w λe w'=>e = .returned (ordV k d s n v)/\PI B nr nw cr cw I T w' p y/\PM B T p x.s y.s w w')
 (hA:∀ (W:World) (b12 b13 b16 b17 b18 b19 b29:Nat),boxes W b12 b13 b16 b17 b18 b19 b29->PI B nr nw cr cw I T W p ⟨y.c,y.s,K.cyc k⟩->Calls Tryz.prog g #[.pointer (some ⟨p,0,none⟩),ordV k d s n v] W (AP B nr nw cr cw I T W p ⟨y.c,y.s,K.cyc k⟩ (C.act m ⟨y.c,y.s,K.cyc k⟩ k d s n v))) :
 Calls Tryz.prog 193 #[.pointer (some ⟨p,0,none⟩),.bool r] w (AP B nr nw cr cw I T w p x (C.act m ⟨y.c,y.s,K.cyc k⟩ k d s n v)):=by
 obtain ⟨_,_,_,_,_,c13,c14,_,_,_⟩:=hP.cells
 have hlt:=hP.lt
 have HP:=hid hP
 have HR:=hid R
 have HF:=hid hF
 have HA:=hid hA
 have hk32:(k:Int)<32:=by omega
 have hk0:(0:Int)<=k:=by omega
 rw [hw] at c14
 clear hP R hF hw hA
 cases r
 case' true =>
  simp only [Bool.true_and] at hr
  rw [hr] at c13
  clear hr
 all_goals
  go_enter Tryz.func193,Tryz.ntmps193
  go_wp2_with (first
   | (go_at_call 230;refine HF.out.mono ?_;rintro e w1 ⟨rfl,hP1,hm1⟩;have hl1:=hP1.lt;have f1:=hP1.frozen 17;obtain ⟨_,_,_,_,_,_,_,_,_,e17⟩:=hP1.cells;have HY1:=hid hP1;clear hP1)
   | (go_at_call 231;refine (ze2 k hk hk30 _ (HR.out.shapes (HY1.out.box HR.out _).inv)).mono ?_;rintro e w2 ⟨rfl,hb2⟩;obtain ⟨k2,g2⟩:=bcell hb2;have hP2:=(HY1.out.box HR.out _).kept HR.out hb2;have hl2:=hP2.lt;have f2:=hP2.frozen 17;obtain ⟨_,_,_,_,_,_,_,_,_,h17⟩:=hP2.cells;have z2:w1.heap.size<w2.heap.size:=by have:=hb2.size;simp at this;omega
      have o0:Hid (∀ u,p≠w1.heap.size->(w2.setCell ⟨p,17,none⟩ u).cell? ⟨w1.heap.size,0,none⟩=some (.int .i64 k)):=λu h=>(World.cell?_setCell_other _ _ _ _ (by simp)).trans ((k2 _ 0 (by simp)).trans (zai _ _ _ _ rfl))
      have o1:Hid (∀ u,p≠w1.heap.size->(w2.setCell ⟨p,17,none⟩ u).cell? ⟨w1.heap.size,1,none⟩=some (.int .i64 d)):=λu h=>(World.cell?_setCell_other _ _ _ _ (by simp)).trans ((k2 _ 1 (by simp)).trans (zai _ _ _ _ rfl))
      have o2:Hid (∀ u,p≠w1.heap.size->(w2.setCell ⟨p,17,none⟩ u).cell? ⟨w1.heap.size,2,none⟩=some (.int .i64 s)):=λu h=>(World.cell?_setCell_other _ _ _ _ (by simp)).trans ((k2 _ 2 (by simp)).trans (zai _ _ _ _ rfl))
      have o3:Hid (∀ u,p≠w1.heap.size->(w2.setCell ⟨p,17,none⟩ u).cell? ⟨w1.heap.size,3,none⟩=some (.int .i64 n)):=λu h=>(World.cell?_setCell_other _ _ _ _ (by simp)).trans ((k2 _ 3 (by simp)).trans (zai _ _ _ _ rfl))
      have o4:Hid (∀ u,p≠w1.heap.size->(w2.setCell ⟨p,17,none⟩ u).cell? ⟨w1.heap.size,4,none⟩=some (.int .i64 v)):=λu h=>(World.cell?_setCell_other _ _ _ _ (by simp)).trans ((k2 _ 4 (by simp)).trans (zai _ _ _ _ rfl))
      have HY2:=hid (hP2.putCyc HR.out (K.cyc k));have hne:p≠w1.heap.size:=by omega
      clear hP2))
  refine cutW (λW=>PI B nr nw cr cw I T W p ⟨y.c,y.s,K.cyc k⟩/\PM B T p x.s y.s w W/\w1.heap.size<W.heap.size/\W.cell? ⟨w1.heap.size,0,none⟩=some (.int .i64 k)/\W.cell? ⟨w1.heap.size,1,none⟩=some (.int .i64 d)/\W.cell? ⟨w1.heap.size,2,none⟩=some (.int .i64 s)/\W.cell? ⟨w1.heap.size,3,none⟩=some (.int .i64 n)/\W.cell? ⟨w1.heap.size,4,none⟩=some (.int .i64 v)) ⟨HY2.out,((hm1.alloc (HP.out.hB HR.out) _).kept ((HY1.out.box HR.out _).hB HR.out) hb2).set HP.out.big 17 _,by rw [zbe];exact z2,o0.out _ hne,o1.out _ hne,o2.out _ hne,o3.out _ hne,o4.out _ hne⟩ ?_
  clear e17 f1 f2 h17 k2 g2 hl2 hl1 z2 hb2 hm1 HY2 HY1 c13 c14 hne
  rintro W ⟨hW,hmW,hzW,q0,q1,q2,q3,q4⟩
  have HW:=hid hW
  have HMW:=hid hmW
  clear hW hmW
  go_region_held3 (λw'=>w'.cell? ⟨w1.heap.size,0,none⟩=some (.int .i64 k))
   ((go_keep;done))
   ((go_at_call 232;refine (zi3 _).mono ?_;rintro e w3 ⟨b12,b13,b16,b17,b18,b19,b29,rfl,hX,hb3⟩;obtain ⟨k3,g3⟩:=bcell hb3;have z3:=Nat.lt_of_lt_of_le hzW hb3.size;have r0:=(k3 _ 0 hzW).trans q0;have r1:=(k3 _ 1 hzW).trans q1;have r2:=(k3 _ 2 hzW).trans q2;have r3:=(k3 _ 3 hzW).trans q3;have r4:=(k3 _ 4 hzW).trans q4;have HX:=hid hX;clear hX k3 g3))
  go_wp2_with (refine (HA.out _ b12 b13 b16 b17 b18 b19 b29 HX.out ?_).mono ?_;(exact HW.out.kept HR.out (stp (st0 W).drew hb3));rintro e w4 ⟨rfl,hP4,hm4⟩)
  go_end0
  exact ⟨rfl,hP4,(HMW.out.kept (HW.out.hB HR.out) (stp (st0 W).drew hb3)).trans hm4⟩
theorem zbs (R:RS m B nr nw cr cw I T) (k:Nat) (hk:k<32) (hk30:k≠30) (g:Nat) (hcf:∀ (a:Array Value) (w:World),(callFunc g a).run Tryz.prog w = .ok (.enter g a) w) (q:Nat->Nat->Nat->Nat->Nat->Nat->Nat->Nat)
 (hi:∀ (b12 b13 b16 b17 b18 b19 b29:Nat) (w:World),(Instr.index 320 (.agg (actsL b12 b13 b16 b17 b18 b19 b29)) (.int .i64 k)).run Tryz.prog w = .ok (fv g #[.pointer (some ⟨q b12 b13 b16 b17 b18 b19 b29,0,none⟩)]) w)
 (d s:Nat) (n v:Int) (r:Bool) (w:World) (p:Nat) (x y:C.St σ) (hP:PI B nr nw cr cw I T w p x) (hr:(r && x.c.May)=false) (hw:x.c.Waits=false)
 (hF:Calls Tryz.prog 230 #[.pointer (some ⟨p,0,none⟩)] w λe w'=>e = .returned (ordV k d s n v)/\PI B nr nw cr cw I T w' p y/\PM B T p x.s y.s w w')
 (hA:∀ (W:World) (b12 b13 b16 b17 b18 b19 b29:Nat),boxes W b12 b13 b16 b17 b18 b19 b29->PI B nr nw cr cw I T W p ⟨y.c,y.s,K.cyc k⟩->Calls Tryz.prog g #[.pointer (some ⟨p,0,none⟩),ordV k d s n v,.pointer (some ⟨q b12 b13 b16 b17 b18 b19 b29,0,none⟩)] W (AP B nr nw cr cw I T W p ⟨y.c,y.s,K.cyc k⟩ (C.act m ⟨y.c,y.s,K.cyc k⟩ k d s n v))) :
 Calls Tryz.prog 193 #[.pointer (some ⟨p,0,none⟩),.bool r] w (AP B nr nw cr cw I T w p x (C.act m ⟨y.c,y.s,K.cyc k⟩ k d s n v)):=by
 obtain ⟨_,_,_,_,_,c13,c14,_,_,_⟩:=hP.cells
 have hlt:=hP.lt
 have HP:=hid hP
 have HR:=hid R
 have HF:=hid hF
 have HA:=hid hA
 have hk32:(k:Int)<32:=by omega
 have hk0:(0:Int)<=k:=by omega
 rw [hw] at c14
 clear hP R hF hw hA
 cases r
 case' true =>
  simp only [Bool.true_and] at hr
  rw [hr] at c13
  clear hr
 all_goals
  go_enter Tryz.func193,Tryz.ntmps193
  go_wp2_with (first
   | (go_at_call 230;refine HF.out.mono ?_;rintro e w1 ⟨rfl,hP1,hm1⟩;have hl1:=hP1.lt;have f1:=hP1.frozen 17;obtain ⟨_,_,_,_,_,_,_,_,_,e17⟩:=hP1.cells;have HY1:=hid hP1;clear hP1)
   | (go_at_call 231;refine (ze2 k hk hk30 _ (HR.out.shapes (HY1.out.box HR.out _).inv)).mono ?_;rintro e w2 ⟨rfl,hb2⟩;obtain ⟨k2,g2⟩:=bcell hb2;have hP2:=(HY1.out.box HR.out _).kept HR.out hb2;have hl2:=hP2.lt;have f2:=hP2.frozen 17;obtain ⟨_,_,_,_,_,_,_,_,_,h17⟩:=hP2.cells;have z2:w1.heap.size<w2.heap.size:=by have:=hb2.size;simp at this;omega
      have o0:Hid (∀ u,p≠w1.heap.size->(w2.setCell ⟨p,17,none⟩ u).cell? ⟨w1.heap.size,0,none⟩=some (.int .i64 k)):=λu h=>(World.cell?_setCell_other _ _ _ _ (by simp)).trans ((k2 _ 0 (by simp)).trans (zai _ _ _ _ rfl))
      have o1:Hid (∀ u,p≠w1.heap.size->(w2.setCell ⟨p,17,none⟩ u).cell? ⟨w1.heap.size,1,none⟩=some (.int .i64 d)):=λu h=>(World.cell?_setCell_other _ _ _ _ (by simp)).trans ((k2 _ 1 (by simp)).trans (zai _ _ _ _ rfl))
      have o2:Hid (∀ u,p≠w1.heap.size->(w2.setCell ⟨p,17,none⟩ u).cell? ⟨w1.heap.size,2,none⟩=some (.int .i64 s)):=λu h=>(World.cell?_setCell_other _ _ _ _ (by simp)).trans ((k2 _ 2 (by simp)).trans (zai _ _ _ _ rfl))
      have o3:Hid (∀ u,p≠w1.heap.size->(w2.setCell ⟨p,17,none⟩ u).cell? ⟨w1.heap.size,3,none⟩=some (.int .i64 n)):=λu h=>(World.cell?_setCell_other _ _ _ _ (by simp)).trans ((k2 _ 3 (by simp)).trans (zai _ _ _ _ rfl))
      have o4:Hid (∀ u,p≠w1.heap.size->(w2.setCell ⟨p,17,none⟩ u).cell? ⟨w1.heap.size,4,none⟩=some (.int .i64 v)):=λu h=>(World.cell?_setCell_other _ _ _ _ (by simp)).trans ((k2 _ 4 (by simp)).trans (zai _ _ _ _ rfl))
      have HY2:=hid (hP2.putCyc HR.out (K.cyc k));have hne:p≠w1.heap.size:=by omega
      clear hP2))
  refine cutW (λW=>PI B nr nw cr cw I T W p ⟨y.c,y.s,K.cyc k⟩/\PM B T p x.s y.s w W/\w1.heap.size<W.heap.size/\W.cell? ⟨w1.heap.size,0,none⟩=some (.int .i64 k)/\W.cell? ⟨w1.heap.size,1,none⟩=some (.int .i64 d)/\W.cell? ⟨w1.heap.size,2,none⟩=some (.int .i64 s)/\W.cell? ⟨w1.heap.size,3,none⟩=some (.int .i64 n)/\W.cell? ⟨w1.heap.size,4,none⟩=some (.int .i64 v)) ⟨HY2.out,((hm1.alloc (HP.out.hB HR.out) _).kept ((HY1.out.box HR.out _).hB HR.out) hb2).set HP.out.big 17 _,by rw [zbe];exact z2,o0.out _ hne,o1.out _ hne,o2.out _ hne,o3.out _ hne,o4.out _ hne⟩ ?_
  clear e17 f1 f2 h17 k2 g2 hl2 hl1 z2 hb2 hm1 HY2 HY1 c13 c14 hne
  rintro W ⟨hW,hmW,hzW,q0,q1,q2,q3,q4⟩
  have HW:=hid hW
  have HMW:=hid hmW
  clear hW hmW
  go_region_held3 (λw'=>w'.cell? ⟨w1.heap.size,0,none⟩=some (.int .i64 k))
   ((go_keep;done))
   ((go_at_call 232;refine (zi3 _).mono ?_;rintro e w3 ⟨b12,b13,b16,b17,b18,b19,b29,rfl,hX,hb3⟩;obtain ⟨k3,g3⟩:=bcell hb3;have z3:=Nat.lt_of_lt_of_le hzW hb3.size;have r0:=(k3 _ 0 hzW).trans q0;have r1:=(k3 _ 1 hzW).trans q1;have r2:=(k3 _ 2 hzW).trans q2;have r3:=(k3 _ 3 hzW).trans q3;have r4:=(k3 _ 4 hzW).trans q4;have HX:=hid hX;clear hX k3 g3))
  go_wp2_with (refine (HA.out _ b12 b13 b16 b17 b18 b19 b29 HX.out ?_).mono ?_;(exact HW.out.kept HR.out (stp (st0 W).drew hb3));rintro e w4 ⟨rfl,hP4,hm4⟩)
  go_end0
  exact ⟨rfl,hP4,(HMW.out.kept (HW.out.hB HR.out) (stp (st0 W).drew hb3)).trans hm4⟩
end
end Go.Proofs.YtbennamieealbaaGreatDoor
