/-
  Parts of a proof, joined.
-/
import Derived.Test.YtbhpfkjfijdmaaaGreatDoorZv11
import Derived.Test.YtbhpfkjfijdmaaaGreatDoorZv00
import Derived.Test.YtbhpfkjfijdmaaaGreatDoorZv01
namespace Go.Proofs.YtbhpfkjfijdmaaaGreatDoor
open Go.ChangeShapes Go.WideShapes Go.ChangeAt Go.RowKit
set_option linter.unusedVariables false
set_option maxRecDepth 100000
set_option maxHeartbeats 800000
abbrev vL (p c l:Int) (h:Bool) (n:Int):List Value:=[.int .u16 p,.int .u16 c,.int .u8 l,.bool h,.int .u16 n]
theorem info_voice:(Tryz.prog.info? 33).map (·.size)=some 5:=by kernel_rfl
theorem load_voice (W:World) (q o:Nat) (p c l n:Int) (h:Bool) (hr:W.rangeAt q o (vL p c l h n)):(loadVar 33 ⟨q,o,none⟩).run Tryz.prog W = .ok (.agg #[.int .u16 p,.int .u16 c,.int .u8 l,.bool h,.int .u16 n]) W :=
 run_loadVar_mid W q o 33 _ _ hr Tryz.underlying33 rfl info_voice
theorem Bx.five {W:World} {b:Nat} {p c l n:Int} {h:Bool} (hB:Bx W b (vL p c l h n)):W.cell? ⟨b,0,none⟩=some (.int .u16 p)/\W.cell? ⟨b,1,none⟩=some (.int .u16 c)/\W.cell? ⟨b,2,none⟩=some (.int .u8 l)/\W.cell? ⟨b,3,none⟩=some (.bool h)/\W.cell? ⟨b,4,none⟩=some (.int .u16 n)/\b < W.heap.size /\ ∀ o,W.frozen? ⟨b,o,none⟩=false :=
 ⟨hB.at 0 _ rfl,hB.at 1 _ rfl,hB.at 2 _ rfl,hB.at 3 _ rfl,hB.at 4 _ rfl,hB.z,hB.f⟩
theorem Bx.put5 {W:World} {b:Nat} {L:List Value} (hB:Bx W b L) (hl:L.length=5) (p c l n:Int) (h:Bool):Bx (((((W.setCell ⟨b,0,none⟩ (.int .u16 p)).setCell ⟨b,1,none⟩ (.int .u16 c)).setCell ⟨b,2,none⟩ (.int .u8 l)).setCell ⟨b,3,none⟩ (.bool h)).setCell ⟨b,4,none⟩ (.int .u16 n)) b (vL p c l h n):=by
 have:=hB.puts 0 (vL p c l h n) (by rw [hl];simp)
 have e:putL L 0 (vL p c l h n)=vL p c l h n:=by
  match L,hl with
  | [_,_,_,_,_],_=>rfl
 rw [e] at this
 exact this
theorem Bl.put5 {w W:World} {b:Nat} (hB:Below w.heap.size w W) (hb:w.heap.size<=b) (p c l n:Int) (h:Bool):Below w.heap.size w (((((W.setCell ⟨b,0,none⟩ (.int .u16 p)).setCell ⟨b,1,none⟩ (.int .u16 c)).setCell ⟨b,2,none⟩ (.int .u8 l)).setCell ⟨b,3,none⟩ (.bool h)).setCell ⟨b,4,none⟩ (.int .u16 n)) :=
 Bl.puts (o:=0) hB hb (vL p c l h n)
theorem bit_of' (x:Int) (h:0<=x/\x<=65535):(bits .and .u16 x 1 == 1)=decide (x % 2=1):=M.bit_of x h.1 h.2
structure SwW (w : World) (p c l n : Int) (h : Bool) (j : Nat) (W : World) : Prop where
 low:Below w.heap.size w W
 v:Bx W w.heap.size (vL p c l (swsH h n j) (swsN n j))
 r:Bx W (w.heap.size+1) (vL 0 0 0 false 0)
theorem swing_noise (p c l n:Int) (h:Bool) (k:Nat) (w:World) (hn:0<=n/\n<=65535) (h0:n ≠ 0) (hk:k<=20001) :
 Calls Tryz.prog 142 #[.agg #[.int .u16 p,.int .u16 c,.int .u8 l,.bool h,.int .u16 n],.int .i64 k] w fun e w'=>e = .returned (.agg #[.int .u16 p,.int .u16 c,.int .u8 l,.bool (swsH h n k),.int .u16 (swsN n k)])/\Below w.heap.size w w':=by
 have hb0:(n == 0)=false:=by simpa using h0
 go_enter Tryz.func142,Tryz.ntmps142
 go_wp2
 go_loopw [17] (fun i wr=>∃ j:Nat,j<=k/\i = .int .i64 j/\SwW w p c l n h j wr) (fun i _=>k - (intOf i).toNat)
 case atStart=>exact ⟨0,Nat.zero_le _,rfl,stA (stA (st0 w) _) _,(Bx.new w (vL p c l h n) _ rfl).over _,Bx.new _ (vL 0 0 0 false 0) _ (by simp)⟩
 case round =>
  obtain ⟨j,hj,rfl,hA⟩:=hrel
  have HA:=hid hA
  have hy:=swsN_bd n hn j
  have hne:=swsN_ne n hn h0 j
  obtain ⟨t0,t1,t2,t3,t4,tz,tf⟩:=hA.v.five
  clear hA
  by_cases h8:j < k
  ·have h8':(j:Int) < k:=by omega
   have hb:=bit_of' _ hy
   by_cases hp:swsN n j % 2=1
   ·rw [decide_eq_true hp] at hb
    have e1:swsN n (j+1)=bits .xor .u16 (swsN n j / 2) 46080:=by rw [swsN];unfold swN nz;rw [if_neg hne,if_pos hp]
    have e2:swsH h n (j+1)=true:=by rw [swsH];unfold swH;rw [if_neg hne,decide_eq_true hp]
    have E1:=hid e1
    have E2:=hid e2
    have HP:=hid hp
    have HN:=hid hne
    clear e1 e2 hp hne
    go_wp2
    go_roundw
    case rel =>
     refine ⟨j+1,h8,by go_num,?_,?_,?_⟩
     ·exact Bl.set (Bl.set (Bl.set HA.out.low (Nat.le_refl _) _) (Nat.le_refl _) _) (Nat.le_refl _) _
     ·rw [E1.out,E2.out]
      exact ((HA.out.v.set 3 _ (by simp)).set 4 _ (by simp)).set 4 _ (by simp)
     ·exact ((HA.out.r.far (by omega) _).far (by omega) _).far (by omega) _
    case measure=>simp [intOf];omega
   ·rw [decide_eq_false hp] at hb
    have e1:swsN n (j+1)=swsN n j / 2:=by rw [swsN];unfold swN nz;rw [if_neg hne,if_neg hp]
    have e2:swsH h n (j+1)=false:=by rw [swsH];unfold swH;rw [if_neg hne,decide_eq_false hp]
    have E1:=hid e1
    have E2:=hid e2
    have HP:=hid hp
    have HN:=hid hne
    clear e1 e2 hp hne
    go_wp2
    go_roundw
    case rel =>
     refine ⟨j+1,h8,by go_num,?_,?_,?_⟩
     ·exact Bl.set (Bl.set HA.out.low (Nat.le_refl _) _) (Nat.le_refl _) _
     ·rw [E1.out,E2.out]
      exact (HA.out.v.set 3 _ (by simp)).set 4 _ (by simp)
     ·exact (HA.out.r.far (by omega) _).far (by omega) _
    case measure=>simp [intOf];omega
  ·obtain rfl:j=k:=by omega
   clear hne
   obtain ⟨r0,r1,r2,r3,r4,rz,rf⟩:=HA.out.r.five
   go_wp2
   have hR:=HA.out.r.put5 rfl p c l (swsN n j) (swsH h n j)
   have hY:=Bl.put5 (b:=w.heap.size+1) HA.out.low (by omega) p c l (swsN n j) (swsH h n j)
   refine Pl.cutB (fun Y=>Below w.heap.size w Y/\Y.rangeAt (w.heap.size+1) 0 (vL p c l (swsH h n j) (swsN n j))) ⟨hY,hR.c⟩ ?_
   rintro Y ⟨hY,hR⟩
   exact bodyPost_ret (v:=.agg _) (by simp only [results,Tryz.results142];simp;exact load_voice _ _ _ _ _ _ _ _ hR) rfl ⟨rfl,hY⟩
theorem swing_square (p c l:Int) (h:Bool) (k:Nat) (w:World) (hk:k<=20001) :
 Calls Tryz.prog 142 #[.agg #[.int .u16 p,.int .u16 c,.int .u8 l,.bool h,.int .u16 0],.int .i64 k] w fun e w'=>e = .returned (.agg #[.int .u16 p,.int .u16 c,.int .u8 l,.bool (swsH h 0 k),.int .u16 (swsN 0 k)])/\Below w.heap.size w w':=by
 rw [swsH_zero,swsN_zero]
 have e:(!(h == ((k:Int) % 2 == 1)))=(h != (k % 2 == 1)):=by
  by_cases h2:k % 2=1
  ·have h3:(k:Int) % 2=1:=by omega
   rw [h2,h3];cases h <;> rfl
  ·have h3:(k:Int) % 2=0:=by omega
   have h4:k % 2=0:=by omega
   rw [h4,h3];cases h <;> rfl
 have E:=hid e
 clear e
 go_enter Tryz.func142,Tryz.ntmps142
 go_wp2
 rw [E.out]
 refine bodyPost_ret (v:=.agg _) (by simp [results,Tryz.results142,go_sem]) rfl ⟨rfl,?_⟩
 exact (stA (stA (st0 _) _) _)
theorem swing_any (p c l n:Int) (h:Bool) (k:Nat) (w:World) (hn:0<=n/\n<=65535) (hk:k<=20001) :
 Calls Tryz.prog 142 #[.agg #[.int .u16 p,.int .u16 c,.int .u8 l,.bool h,.int .u16 n],.int .i64 k] w fun e w'=>e = .returned (.agg #[.int .u16 p,.int .u16 c,.int .u8 l,.bool (swsH h n k),.int .u16 (swsN n k)])/\Below w.heap.size w w':=by
 by_cases h0:n=0
 ·subst h0;exact swing_square p c l h k w hk
 ·exact swing_noise p c l n h k w hn h0 hk
theorem keep0 {W:World} {b:Nat} {x v:Value} (h:W.cell? ⟨b,0,none⟩=some x):(W.setCell ⟨b,1,none⟩ v).drew.cell? ⟨b,0,none⟩=some x :=
 (World.cell?_setCell_other _ _ _ _ (by intro e;exact absurd (congrArg Addr.off e) (show (1:Nat) ≠ 0 by decide))).trans h
theorem keep5 {W w1:World} {b:Nat} {p c l n:Int} {h:Bool} (hc:W.cell? ⟨b,0,none⟩=some (.int .u16 p)/\W.cell? ⟨b,1,none⟩=some (.int .u16 c)/\W.cell? ⟨b,2,none⟩=some (.int .u8 l)/\W.cell? ⟨b,3,none⟩=some (.bool h)/\W.cell? ⟨b,4,none⟩=some (.int .u16 n)) (hb:Below W.heap.size W w1) :
 w1.cell? ⟨b,0,none⟩=some (.int .u16 p)/\w1.cell? ⟨b,1,none⟩=some (.int .u16 c)/\w1.cell? ⟨b,2,none⟩=some (.int .u8 l)/\w1.cell? ⟨b,3,none⟩=some (.bool h)/\w1.cell? ⟨b,4,none⟩=some (.int .u16 n):=by
 have hz:=World.block_lt_of_cell? W _ hc.1
 exact ⟨(hb.cell (p:=⟨b,0,none⟩) hz).trans hc.1,(hb.cell (p:=⟨b,1,none⟩) hz).trans hc.2.1,(hb.cell (p:=⟨b,2,none⟩) hz).trans hc.2.2.1,(hb.cell (p:=⟨b,3,none⟩) hz).trans hc.2.2.2.1,(hb.cell (p:=⟨b,4,none⟩) hz).trans hc.2.2.2.2⟩
structure V2 (w : World) (p c l n : Int) (h : Bool) (W : World) : Prop where
 low:Below w.heap.size w W
 v:Bx W w.heap.size (vL p c l h n)
 r:Bx W (w.heap.size+1) (vL 0 0 0 false 0)
theorem V2.start (w:World) (p c l n:Int) (h:Bool) (q:Nat):V2 w p c l n h (((w.alloc (.cells (vL p c l h n).toArray 33)).alloc (.cells (vL 0 0 0 false 0).toArray 33)).drewN q):=by
 have h0:V2 w p c l n h ((w.alloc (.cells (vL p c l h n).toArray 33)).alloc (.cells (vL 0 0 0 false 0).toArray 33)):=⟨stA (stA (st0 w) _) _,(Bx.new w (vL p c l h n) _ rfl).over _,Bx.new _ (vL 0 0 0 false 0) _ (by simp)⟩
 have hd:=Bl.drewN (Below.refl ((w.alloc (.cells (vL p c l h n).toArray 33)).alloc (.cells (vL 0 0 0 false 0).toArray 33)).heap.size ((w.alloc (.cells (vL p c l h n).toArray 33)).alloc (.cells (vL 0 0 0 false 0).toArray 33))) q
 exact ⟨stp h0.low hd,h0.v.kept hd,h0.r.kept hd⟩
theorem later_any (p c l n:Int) (h:Bool) (m:Int) (w:World) (hp:0<=p/\p<=65535) (hc:0<=c/\c<=65535) (hn:0<=n/\n<=65535) (hm:0<=m/\m<=20000) :
 Calls Tryz.prog 93 #[.agg #[.int .u16 p,.int .u16 c,.int .u8 l,.bool h,.int .u16 n],.int .i64 m] w fun e w'=>e = .returned (.agg #[.int .u16 p,.int .u16 (ltC p c m),.int .u8 l,.bool (swsH h n (ltK p c m)),.int .u16 (swsN n (ltK p c m))])/\Below w.heap.size w w':=by
 by_cases h1:m < c+1
 ·have e1:ltC p c m=c - m:=by unfold ltC;rw [if_pos h1]
  have e2:ltK p c m=0:=by unfold ltK;rw [if_pos h1]
  rw [e1,e2]
  show Calls Tryz.prog 93 #[.agg #[.int .u16 p,.int .u16 c,.int .u8 l,.bool h,.int .u16 n],.int .i64 m] w fun e w'=>e = .returned (.agg #[.int .u16 p,.int .u16 (c - m),.int .u8 l,.bool h,.int .u16 n])/\Below w.heap.size w w'
  clear e1 e2
  go_enter Tryz.func93,Tryz.ntmps93
  go_wp2
  go_quiet (fail)
  refine Pl.cutE (V2 w p c l n h) (V2.start w p c l n h _) ?_
  intro W hW
  obtain ⟨t0,t1,t2,t3,t4,tz,tf⟩:=hW.v.five
  obtain ⟨r0,r1,r2,r3,r4,rz,rf⟩:=hW.r.five
  have HW:=hid hW
  clear hW
  go_wp2
  have hR:=(HW.out.r.far (b':=w.heap.size) (o':=1) (by omega) (.int .u16 (c - m))).put5 rfl p (c - m) l n h
  have hY:=Bl.put5 (b:=w.heap.size+1) (Bl.set (o:=1) HW.out.low (Nat.le_refl _) (.int .u16 (c - m))) (by omega) p (c - m) l n h
  refine Pl.cutB (fun Y=>Below w.heap.size w Y/\Y.rangeAt (w.heap.size+1) 0 (vL p (c - m) l h n)) ⟨hY,hR.c⟩ ?_
  rintro Y ⟨hY,hR⟩
  exact bodyPost_ret (v:=.agg _) (by simp only [results,Tryz.results93];simp;exact load_voice _ _ _ _ _ _ _ _ hR) rfl ⟨rfl,hY⟩
 ·have e1:ltC p c m=p - (m - (c+1)) % (p+1):=by unfold ltC;rw [if_neg h1]
  have e2:ltK p c m=(1+(m - (c+1)) / (p+1)).toNat:=by unfold ltK;rw [if_neg h1]
  have b1:=Int.emod_nonneg (m - (c+1)) (show p+1 ≠ 0 by omega)
  have b2:=Int.emod_lt_of_pos (m - (c+1)) (show 0 < p+1 by omega)
  have b3:0<=(m - (c+1)) / (p+1):=Int.ediv_nonneg (by omega) (by omega)
  have b4:(m - (c+1)) / (p+1)<=m - (c+1):=Int.ediv_le_self _ (by omega)
  have q2:IntKind.i64.wrap ((m - (c+1)).tmod (p+1))=(m - (c+1)) % (p+1):=by rw [Int.tmod_eq_emod_of_nonneg (by omega)];simp [IntKind.wrap,IntKind.bits,IntKind.signed];omega
  have q6:IntKind.i64.wrap ((m - (c+1)).tdiv (p+1))=(m - (c+1)) / (p+1):=by rw [Int.tdiv_eq_ediv_of_nonneg (by omega)];simp [IntKind.wrap,IntKind.bits,IntKind.signed];omega
  have q3:IntKind.u16.wrap ((m - (c+1)) % (p+1))=(m - (c+1)) % (p+1):=by rw [IntKind.wrap_u16];omega
  have q4:IntKind.u16.wrap (p - (m - (c+1)) % (p+1))=p - (m - (c+1)) % (p+1):=by rw [IntKind.wrap_u16];omega
  have q5:p+1 ≠ 0:=by omega
  have q10:IntKind.i64.wrap (1+(m - (c+1)) / (p+1))=1+(m - (c+1)) / (p+1):=by simp [IntKind.wrap,IntKind.bits,IntKind.signed];omega
  have q13:IntKind.i64.wrap ((m - (c+1)) / (p+1))=(m - (c+1)) / (p+1):=by simp [IntKind.wrap,IntKind.bits,IntKind.signed];omega
  have q8:(m - (c+1)).tmod (p+1)=(m - (c+1)) % (p+1):=Int.tmod_eq_emod_of_nonneg (by omega)
  have q9:(m - (c+1)).tdiv (p+1)=(m - (c+1)) / (p+1):=Int.tdiv_eq_ediv_of_nonneg (by omega)
  have q7:(1+(m - (c+1)) / (p+1))=((ltK p c m:Nat):Int):=by rw [e2];omega
  have hk:ltK p c m<=20001:=by omega
  rw [e1]
  have HQ:=hid q7
  clear q7 e1 e2
  go_enter Tryz.func93,Tryz.ntmps93
  go_wp2
  go_quiet (fail)
  refine Pl.cutE (V2 w p c l n h) (V2.start w p c l n h _) ?_
  intro W hW
  obtain ⟨t0,t1,t2,t3,t4,tz,tf⟩:=hW.v.five
  have HW:=hid hW
  clear hW
  go_wp2
  go_region_held3 (fun w'=>w'.cell? ⟨w.heap.size,0,none⟩=some (.int .u16 p))
   (first
     | exact keep0 t0
     | (go_keep;done))
   (fail)
  refine Pl.cutE (V2 w p (p - (m - (c+1)) % (p+1)) l n h) ⟨(Bl.set HW.out.low (Nat.le_refl _) _).drew,(HW.out.v.set 1 _ (by simp)).drew,(HW.out.r.far (by omega) _).drew⟩ ?_
  clear t0 t1 t2 t3 t4 tz tf
  intro W1 hW1
  obtain ⟨t0,t1,t2,t3,t4,tz,tf⟩:=hW1.v.five
  have HW1:=hid hW1
  clear hW1 HW
  have hsw:=fun W=>swing_any p (p - (m - (c+1)) % (p+1)) l n h (ltK p c m) W hn hk
  rw [<- HQ.out] at hsw
  go_wp2
  go_region_held3 (fun w'=>w'.cell? ⟨w.heap.size,0,none⟩=some (.int .u16 p)/\w'.cell? ⟨w.heap.size,1,none⟩=some (.int .u16 (p - (m - (c+1)) % (p+1)))/\w'.cell? ⟨w.heap.size,2,none⟩=some (.int .u8 l)/\w'.cell? ⟨w.heap.size,3,none⟩=some (.bool h)/\w'.cell? ⟨w.heap.size,4,none⟩=some (.int .u16 n))
   (first
     | with_reducible exact keep5 (by assumption) (by assumption)
     | (go_keep;done))
   ((go_at_call 142;refine (hsw _).mono ?_;rintro e w1 ⟨rfl,hb1⟩;obtain ⟨r0,r1,r2,r3,r4,rz,rf⟩:=(HW1.out.r.drew.kept hb1).five))
  go_wp2
  have hR:=(HW1.out.r.drew.kept hb1).put5 rfl p (p - (m - (c+1)) % (p+1)) l (swsN n (ltK p c m)) (swsH h n (ltK p c m))
  have hY:=Bl.put5 (b:=w.heap.size+1) (stp HW1.out.low.drew hb1) (by omega) p (p - (m - (c+1)) % (p+1)) l (swsN n (ltK p c m)) (swsH h n (ltK p c m))
  refine Pl.cutB (fun Y=>Below w.heap.size w Y/\Y.rangeAt (w.heap.size+1) 0 (vL p (p - (m - (c+1)) % (p+1)) l (swsH h n (ltK p c m)) (swsN n (ltK p c m)))) ⟨hY,hR.c⟩ ?_
  rintro Y ⟨hY,hR⟩
  exact bodyPost_ret (v:=.agg _) (by simp only [results,Tryz.results93];simp;exact load_voice _ _ _ _ _ _ _ _ hR) rfl ⟨rfl,hY⟩
abbrev vcs (v:Vc):List Value:=[.int .u16 v.p,.int .u16 v.c,.int .u8 v.l,.bool v.h,.int .u16 v.n]
theorem latV (v:Vc) (m:Int) (w:World) (h:v.ok) (hm:0<=m/\m<=20000) :
 Calls Tryz.prog 93 #[(.agg #[.int .u16 v.p,.int .u16 v.c,.int .u8 v.l,.bool v.h,.int .u16 v.n]),.int .i64 m] w fun e w'=>e = .returned (.agg #[.int .u16 (v.later m).p,.int .u16 (v.later m).c,.int .u8 (v.later m).l,.bool (v.later m).h,.int .u16 (v.later m).n])/\Below w.heap.size w w' :=
 later_any v.p v.c v.l v.n v.h m w h.p h.c h.n hm
theorem may_any (n:Int) (w:World):Calls Tryz.prog 91 #[.int .i64 n] w fun e w'=>e = .returned (.bool (decide (0<=n/\n<=20000)))/\w=w':=by
 by_cases h1:0<=n
 ·by_cases h2:n<=20000
  ·rw [decide_eq_true ⟨h1,h2⟩]
   go_enter Tryz.func91,Tryz.ntmps91
   go_wp2
   go_ret
   exact ⟨rfl,rfl⟩
  ·rw [decide_eq_false (fun h=>h2 h.2)]
   go_enter Tryz.func91,Tryz.ntmps91
   go_wp2
   go_ret
   exact ⟨rfl,rfl⟩
 ·rw [decide_eq_false (fun h=>h1 h.1)]
  go_enter Tryz.func91,Tryz.ntmps91
  go_wp2
  go_ret
  exact ⟨rfl,rfl⟩
theorem Lncheck_ok (s:Sd) (w:World) (h:0<=s.w/\s.w<=15) :
 Calls Tryz.prog 90 #[(.agg #[.int .u16 s.a.p,.int .u16 s.a.c,.int .u8 s.a.l,.bool s.a.h,.int .u16 s.a.n,.int .u16 s.b.p,.int .u16 s.b.c,.int .u8 s.b.l,.bool s.b.h,.int .u16 s.b.n,.int .u16 s.c.p,.int .u16 s.c.c,.int .u8 s.c.l,.bool s.c.h,.int .u16 s.c.n,.int .i64 s.w])] w fun e w'=>e = .returned (.int .i64 0)/\Below w.heap.size w w':=by
 go_enter Tryz.func90,Tryz.ntmps90
 go_wp2
 go_ret
 exact ⟨rfl,stA (st0 _) _⟩
theorem check_bad (s:Sd) (w:World) (h:s.w < 0 \/ 15 < s.w) :
 Calls Tryz.prog 90 #[(.agg #[.int .u16 s.a.p,.int .u16 s.a.c,.int .u8 s.a.l,.bool s.a.h,.int .u16 s.a.n,.int .u16 s.b.p,.int .u16 s.b.c,.int .u8 s.b.l,.bool s.b.h,.int .u16 s.b.n,.int .u16 s.c.p,.int .u16 s.c.c,.int .u8 s.c.l,.bool s.c.h,.int .u16 s.c.n,.int .i64 s.w])] w fun e w'=>e = .returned (.int .i64 3)/\Below w.heap.size w w':=by
 rcases h with h | h
 ·go_enter Tryz.func90,Tryz.ntmps90
  go_wp2
  go_ret
  exact ⟨rfl,stA (st0 _) _⟩
 ·have h':¬ s.w < 0:=by omega
  go_enter Tryz.func90,Tryz.ntmps90
  go_wp2
  go_ret
  exact ⟨rfl,stA (st0 _) _⟩
theorem v3_0 (x0 x1 x2 x3 x4 x5 x6 x7 x8 x9 y0 y1 y2 y3 y4:Value) (w:World):(Instr.index 34 (.agg #[x0,x1,x2,x3,x4,x5,x6,x7,x8,x9,y0,y1,y2,y3,y4]) (.int .i64 0)).run Tryz.prog w = .ok (.agg #[x0,x1,x2,x3,x4]) w:=by kernel_rfl
theorem v3_1 (x0 x1 x2 x3 x4 x5 x6 x7 x8 x9 y0 y1 y2 y3 y4:Value) (w:World):(Instr.index 34 (.agg #[x0,x1,x2,x3,x4,x5,x6,x7,x8,x9,y0,y1,y2,y3,y4]) (.int .i64 1)).run Tryz.prog w = .ok (.agg #[x5,x6,x7,x8,x9]) w:=by kernel_rfl
theorem v3_2 (x0 x1 x2 x3 x4 x5 x6 x7 x8 x9 y0 y1 y2 y3 y4:Value) (w:World):(Instr.index 34 (.agg #[x0,x1,x2,x3,x4,x5,x6,x7,x8,x9,y0,y1,y2,y3,y4]) (.int .i64 2)).run Tryz.prog w = .ok (.agg #[y0,y1,y2,y3,y4]) w:=by kernel_rfl
theorem and15 (l:Int) (h:0<=l/\l<=255):bits .and .u8 l 15=l % 16:=by
 obtain ⟨X,hX⟩:=Int.eq_ofNat_of_zero_le h.1
 subst hX
 rw [show (15:Int)=((15:Nat):Int) from rfl,u8_and_nat _ _ (by omega) (by omega)]
 have:=Nat.and_two_pow_sub_one_eq_mod X 4
 simp only [Nat.reducePow,Nat.reduceSub] at this
 rw [this];omega
theorem ld_t {v:Vc} (h:v.h=true):ld v=v.l % 16:=by unfold ld;rw [h];rfl
theorem ld_f {v:Vc} (h:v.h=false):ld v=0:=by unfold ld;rw [h];rfl
theorem sample_any (s:Sd) (w:World) (h:s.ok) :
 Calls Tryz.prog 92 #[(.agg #[.int .u16 s.a.p,.int .u16 s.a.c,.int .u8 s.a.l,.bool s.a.h,.int .u16 s.a.n,.int .u16 s.b.p,.int .u16 s.b.c,.int .u8 s.b.l,.bool s.b.h,.int .u16 s.b.n,.int .u16 s.c.p,.int .u16 s.c.c,.int .u8 s.c.l,.bool s.c.h,.int .u16 s.c.n])] w fun e w'=>e = .returned (.int .u8 (smI s))/\Below w.heap.size w w':=by
 have a0:=and15 _ h.a.l
 have a1:=and15 _ h.b.l
 have a2:=and15 _ h.c.l
 have i0:=v3_0
 have i1:=v3_1
 have i2:=v3_2
 have la:=ld_bd s.a
 have lb:=ld_bd s.b
 have lc:=ld_bd s.c
 have LA:=hid la
 have LB:=hid lb
 have LC:=hid lc
 go_enter Tryz.func92,Tryz.ntmps92
 go_wp2
 go_loopw [3,7] (fun x i wr=>Below w.heap.size w wr/\((i = .int .i64 0/\x = .int .u8 0) \/ (i = .int .i64 1/\x = .int .u8 (ld s.a)) \/ (i = .int .i64 2/\x = .int .u8 (ld s.a+ld s.b)) \/ (i = .int .i64 3/\x = .int .u8 (smI s)))) (fun _ i _=>3 - (intOf i).toNat)
 case atStart=>exact ⟨stA (st0 _) _,Or.inl ⟨rfl,rfl⟩⟩
 case round =>
  obtain ⟨hB,hcase⟩:=hrel
  have HB:=hid hB
  clear hB
  rcases hcase with ⟨rfl,rfl⟩ | ⟨rfl,rfl⟩ | ⟨rfl,rfl⟩ | ⟨rfl,rfl⟩
  ·cases hv:s.a.h
   ·have e:=ld_f hv
    go_wp2
    refine ⟨⟨stA HB.out _,Or.inr (Or.inl ⟨rfl,?_⟩)⟩,by decide⟩
    first | rfl | rw [e]
   ·have e:=ld_t hv
    go_wp2
    refine ⟨⟨stA HB.out _,Or.inr (Or.inl ⟨rfl,?_⟩)⟩,by decide⟩
    first | rfl | rw [e] | (rw [e];simp)
  ·cases hv:s.b.h
   ·have e:=ld_f hv
    go_wp2
    refine ⟨⟨stA HB.out _,Or.inr (Or.inr (Or.inl ⟨rfl,?_⟩))⟩,by decide⟩
    first | rfl | (rw [e];simp)
   ·have e:=ld_t hv
    go_wp2
    refine ⟨⟨stA HB.out _,Or.inr (Or.inr (Or.inl ⟨rfl,?_⟩))⟩,by decide⟩
    first | rfl | rw [e] | (rw [e];simp)
  ·cases hv:s.c.h
   ·have e:=ld_f hv
    go_wp2
    refine ⟨⟨stA HB.out _,Or.inr (Or.inr (Or.inr ⟨rfl,?_⟩))⟩,by decide⟩
    first | rfl | (unfold smI;rw [e];simp)
   ·have e:=ld_t hv
    go_wp2
    refine ⟨⟨stA HB.out _,Or.inr (Or.inr (Or.inr ⟨rfl,?_⟩))⟩,by decide⟩
    first | rfl | (unfold smI;rw [e]) | (unfold smI;rw [e];simp)
  ·go_wp2
   go_ret
   exact ⟨rfl,HB.out⟩
abbrev scs (s:Sd):List Value:=[.int .u16 s.a.p,.int .u16 s.a.c,.int .u8 s.a.l,.bool s.a.h,.int .u16 s.a.n,.int .u16 s.b.p,.int .u16 s.b.c,.int .u8 s.b.l,.bool s.b.h,.int .u16 s.b.n,.int .u16 s.c.p,.int .u16 s.c.c,.int .u8 s.c.l,.bool s.c.h,.int .u16 s.c.n,.int .i64 s.w]
abbrev zs:List Value:=[.int .u16 0,.int .u16 0,.int .u8 0,.bool false,.int .u16 0,.int .u16 0,.int .u16 0,.int .u8 0,.bool false,.int .u16 0,.int .u16 0,.int .u16 0,.int .u8 0,.bool false,.int .u16 0,.int .i64 0]
theorem own_kept {w w':World} {B n:Nat} {v:Value} {xs:List Value} (h:w.ownsRow B 5 1 v n xs) (hb:Below w.heap.size w w'):w'.ownsRow B 5 1 v n xs:=own_of_block h (fun k hk=>hb.block k (h.lt k hk).2)
theorem own_far {w:World} {B n b o:Nat} {v:Value} {xs:List Value} (h:w.ownsRow B 5 1 v n xs) (hb:b < B) (x:Value):(w.setCell ⟨b,o,none⟩ x).ownsRow B 5 1 v n xs:=own_of_block h (fun k hk=>by
 have:=h.lt k hk
 exact Below.heap_setCell w ⟨b,o,none⟩ x k (show k ≠ b by omega))
theorem own_fars {B n b:Nat} {v:Value} {xs:List Value} (hb:b < B):∀ (vs:List Value) (o:Nat) {w:World},w.ownsRow B 5 1 v n xs->(w.setCells b o vs).ownsRow B 5 1 v n xs
 | [],o,w,h=>h
 | x :: vs,o,w,h=>own_fars hb vs (o+1) (own_far h hb x)
theorem bl_grown {w w':World} {B:Nat} {x:Option Nat} (h:w.grownBy w' x) (hB:B<=w.heap.size) (hx:∀ k,x=some k->B<=k):Below B w w':=(Below.refl B w).grown h hB hx
theorem app1 {ops:Array Oper} {rest:List Oper} {o:Oper} {a:Act} {w:World} {Q:Exit->Act->World->Prop} (hgd:o.guard=none) (s x:Operand) (ho:o.op = .call { callee:=.builtin .append,args:=#[s,x],argTypes:=#[26,26] })
 (B:Nat) (v:Value) (xs:List UInt8) (hs:a.eval s=v) (hown:w.ownsRow B 5 1 v xs.length (bcs xs)) (g c:Nat) (y:UInt8) (z:Int) (hx:a.eval x = .slice (some ⟨g,0,none⟩) 1 c) (hc:w.cell? ⟨g,0,none⟩=some (.int .u8 z)) (hz:z=y.toNat) (hl:xs.length<=50000) (hB:B<=w.heap.size)
 (h:∀ v' w',w'.ownsRow B 5 1 v' (xs++[y]).length (bcs (xs++[y]))->Below B w w'->wpList Tryz.prog ops Q rest (a.put o.dst v') w'):wpList Tryz.prog ops Q (o :: rest) a w:=by
 obtain ⟨i0,hi0,hz0,hz1,hz2⟩:=info_parts info_byte
 subst hz
 refine wpList_append_own _ hgd s x _ ho B 5 i0 _ 1 1 Tryz.underlying26 hi0 hz0 hz1 hz2 rfl (by omega) v xs.length (bcs xs) hs hown ⟨g,0,none⟩ 1 c [.int .u8 y.toNat] hx rfl (fun j u hj=>?_) (fun u hu=>?_) (by unfold maxLen;omega) (by omega) hB ?_
 ·match j,hj with
  | 0,hj =>
   simp only [List.getElem?_cons_zero,Option.some.injEq] at hj
   rw [<- hj,addr_add];exact hc
 ·simp only [List.mem_singleton] at hu;rw [hu];rfl
 ·intro v' w' hown' hgrow _
  refine h _ w' ?_ (bl_grown hgrow hB (fun k hk=>(hown.lt k hk).1))
  rw [List.length_append,<- bcs_append];exact hown'
theorem info_three:(Tryz.prog.info? 34).map (·.size)=some 15:=by kernel_rfl
theorem info_sound:(Tryz.prog.info? 36).map (·.size)=some 16:=by kernel_rfl
theorem under_three:Tryz.prog.underlying 34=some (.array 3 33):=by kernel_rfl
theorem load3 {W:World} {b:Nat} {x:Sd} (h:Bx W b (scs x)):(Instr.loadAt 34 (.pointer (some ⟨b,0,none⟩))).run Tryz.prog W = .ok (.agg #[.int .u16 x.a.p,.int .u16 x.a.c,.int .u8 x.a.l,.bool x.a.h,.int .u16 x.a.n,.int .u16 x.b.p,.int .u16 x.b.c,.int .u8 x.b.l,.bool x.b.h,.int .u16 x.b.n,.int .u16 x.c.p,.int .u16 x.c.c,.int .u8 x.c.l,.bool x.c.h,.int .u16 x.c.n]) W :=
 run_loadAt_mid W b 0 34 _ _ (h.mid 0 15) under_three rfl info_three
theorem loadS {W:World} {b:Nat} {x:Sd} (h:Bx W b (scs x)):(loadVar 36 ⟨b,0,none⟩).run Tryz.prog W = .ok (.agg #[.int .u16 x.a.p,.int .u16 x.a.c,.int .u8 x.a.l,.bool x.a.h,.int .u16 x.a.n,.int .u16 x.b.p,.int .u16 x.b.c,.int .u8 x.b.l,.bool x.b.h,.int .u16 x.b.n,.int .u16 x.c.p,.int .u16 x.c.c,.int .u8 x.c.l,.bool x.c.h,.int .u16 x.c.n,.int .i64 x.w]) W :=
 run_loadVar_mid W b 0 36 _ _ h.c Tryz.underlying36 rfl info_sound
structure SmW (w : World) (x : Sd) (l : List UInt8) (v : Value) (W : World) : Prop where
 low:Below w.heap.size w W
 b:Bx W w.heap.size (scs x)
 r:Bx W (w.heap.size+1) zs
 o:W.ownsRow (w.heap.size+2) 5 1 v l.length (bcs l)
section
variable {w W w1 : World} {x : Sd} {l : List UInt8} {v : Value}
theorem SmW.kept (h:SmW w x l v W) (hb:Below W.heap.size W w1):SmW w x l v w1:=⟨stp h.low hb,h.b.kept hb,h.r.kept hb,own_kept h.o hb⟩
theorem SmW.over (h:SmW w x l v W) (o:Obj):SmW w x l v (W.alloc o):=h.kept (stA (st0 W) o)
theorem SmW.app (h:SmW w x l v W) {l':List UInt8} {v':Value} (hb:Below (w.heap.size+2) W w1) (ho:w1.ownsRow (w.heap.size+2) 5 1 v' l'.length (bcs l')):SmW w x l' v' w1:=⟨h.low.trans (hb.mono (by omega)),h.b.under hb (by omega),h.r.under hb (by omega),ho⟩
theorem SmW.wait (h:SmW w x l v W) (z:Int):SmW w ⟨x.a,x.b,x.c,z⟩ l v (W.setCell ⟨w.heap.size,15,none⟩ (.int .i64 z)):=⟨Bl.set h.low (Nat.le_refl _) _,h.b.set 15 _ (by simp),h.r.far (by omega) _,own_far h.o (by omega) _⟩
theorem SmW.v0 (h:SmW w x l v W) (y:Vc):SmW w ⟨y,x.b,x.c,x.w⟩ l v (((((W.setCell ⟨w.heap.size,0,none⟩ (.int .u16 y.p)).setCell ⟨w.heap.size,1,none⟩ (.int .u16 y.c)).setCell ⟨w.heap.size,2,none⟩ (.int .u8 y.l)).setCell ⟨w.heap.size,3,none⟩ (.bool y.h)).setCell ⟨w.heap.size,4,none⟩ (.int .u16 y.n)) :=
 ⟨Bl.puts (o:=0) h.low (Nat.le_refl _) (vcs y),h.b.puts 0 (vcs y) (by simp),h.r.fars (by omega) 0 (vcs y),own_fars (by omega) (vcs y) 0 h.o⟩
theorem SmW.v1 (h:SmW w x l v W) (y:Vc):SmW w ⟨x.a,y,x.c,x.w⟩ l v (((((W.setCell ⟨w.heap.size,5,none⟩ (.int .u16 y.p)).setCell ⟨w.heap.size,6,none⟩ (.int .u16 y.c)).setCell ⟨w.heap.size,7,none⟩ (.int .u8 y.l)).setCell ⟨w.heap.size,8,none⟩ (.bool y.h)).setCell ⟨w.heap.size,9,none⟩ (.int .u16 y.n)) :=
 ⟨Bl.puts (o:=5) h.low (Nat.le_refl _) (vcs y),h.b.puts 5 (vcs y) (by simp),h.r.fars (by omega) 5 (vcs y),own_fars (by omega) (vcs y) 5 h.o⟩
theorem SmW.v2 (h:SmW w x l v W) (y:Vc):SmW w ⟨x.a,x.b,y,x.w⟩ l v (((((W.setCell ⟨w.heap.size,10,none⟩ (.int .u16 y.p)).setCell ⟨w.heap.size,11,none⟩ (.int .u16 y.c)).setCell ⟨w.heap.size,12,none⟩ (.int .u8 y.l)).setCell ⟨w.heap.size,13,none⟩ (.bool y.h)).setCell ⟨w.heap.size,14,none⟩ (.int .u16 y.n)) :=
 ⟨Bl.puts (o:=10) h.low (Nat.le_refl _) (vcs y),h.b.puts 10 (vcs y) (by simp),h.r.fars (by omega) 10 (vcs y),own_fars (by omega) (vcs y) 10 h.o⟩
theorem SmW.w15 (h:SmW w x l v W):W.cell? ⟨w.heap.size,15,none⟩=some (.int .i64 x.w):=h.b.at 15 _ rfl
end
theorem Lnbytes_any (a:Int) (w:World) (h:0<=a/\a<=65535) :
 Calls Tryz.prog 109 #[.int .u16 a] w fun e w'=>e = .returned (.tuple #[.int .u8 (a / 256),.int .u8 (a % 256)])/\w=w':=by
 go_enter Tryz.func109,Tryz.ntmps109
 go_wp2
 go_ret2
 exact ⟨rfl,rfl⟩
theorem Lnof_any (a b:Int) (w:World) (ha:0<=a/\a<=255) (hb:0<=b/\b<=255) :
 Calls Tryz.prog 133 #[.int .u8 a,.int .u8 b] w fun e w'=>e = .returned (.int .u16 (a * 256+b))/\w=w':=by
 have e:=M.joined a b ha.1 ha.2 hb.1 hb.2
 go_enter Tryz.func133,Tryz.ntmps133
 go_wp2
 go_ret
 exact ⟨by first | rfl | (simp [e];done) | (rw [e]),rfl⟩
theorem high_any (a b:Int) (w:World) (ha:0<=a/\a<=65535) (hb:0<=b/\b<=255) :
 Calls Tryz.prog 256 #[.int .u16 a,.int .u8 b] w fun e w'=>e = .returned (.int .u16 (b * 256+a % 256))/\w=w':=by
 go_enter Tryz.func256,Tryz.ntmps256
 go_wp2_with (first
  | (go_at_call 109;refine (Lnbytes_any a _ ha).mono ?_;rintro e w1 ⟨rfl,rfl⟩)
  | (go_at_call 133;refine (Lnof_any b (a % 256) _ hb ⟨by omega,by omega⟩).mono ?_;rintro e w1 ⟨rfl,rfl⟩))
 go_ret
 exact ⟨rfl,rfl⟩
theorem low_any (a b:Int) (w:World) (ha:0<=a/\a<=65535) (hb:0<=b/\b<=255) :
 Calls Tryz.prog 258 #[.int .u16 a,.int .u8 b] w fun e w'=>e = .returned (.int .u16 (a / 256 * 256+b))/\w=w':=by
 go_enter Tryz.func258,Tryz.ntmps258
 go_wp2_with (first
  | (go_at_call 109;refine (Lnbytes_any a _ ha).mono ?_;rintro e w1 ⟨rfl,rfl⟩)
  | (go_at_call 133;refine (Lnof_any (a / 256) b _ ⟨by omega,by omega⟩ hb).mono ?_;rintro e w1 ⟨rfl,rfl⟩))
 go_ret
 exact ⟨rfl,rfl⟩
def Vc.put (v:Vc) (k:Nat) (b:Int):Vc :=
 if k=0 then ⟨b * 256+v.p % 256,v.c,v.l,v.h,v.n⟩ else if k=1 then ⟨v.p / 256 * 256+b,v.c,v.l,v.h,v.n⟩ else if k=2 then ⟨v.p,v.c,b % 16,v.h,v.n⟩
 else if k=3 then ⟨v.p,v.c,v.l,v.h,b * 256+v.n % 256⟩ else if k=4 then ⟨v.p,v.c,v.l,v.h,v.n / 256 * 256+b⟩ else v
def Sd.put (s:Sd) (k:Nat) (b:Int):Sd:=if k < 8 then ⟨s.a.put (k % 8) b,s.b,s.c,s.w⟩ else if k < 16 then ⟨s.a,s.b.put (k % 8) b,s.c,s.w⟩ else ⟨s.a,s.b,s.c.put (k % 8) b,s.w⟩
theorem port_idle (v:Vc) (b:Int) (w:World) :
 Calls Tryz.prog 254 #[(.agg #[.int .u16 v.p,.int .u16 v.c,.int .u8 v.l,.bool v.h,.int .u16 v.n]),.int .u8 b] w fun e w'=>e = .returned (.agg #[.int .u16 v.p,.int .u16 v.c,.int .u8 v.l,.bool v.h,.int .u16 v.n])/\Below w.heap.size w w':=by
 go_enter Tryz.func254,Tryz.ntmps254
 go_wp2
 refine bodyPost_ret (v:=.agg _) (by simp [results,Tryz.results254,go_sem]) rfl ⟨rfl,?_⟩
 exact (stA (stA (st0 _) _) _)
theorem port_0 (v:Vc) (b:Int) (w:World) (h:v.ok) (hb:0<=b/\b<=255) :
 Calls Tryz.prog 255 #[(.agg #[.int .u16 v.p,.int .u16 v.c,.int .u8 v.l,.bool v.h,.int .u16 v.n]),.int .u8 b] w fun e w'=>e = .returned (.agg #[.int .u16 (v.put 0 b).p,.int .u16 (v.put 0 b).c,.int .u8 (v.put 0 b).l,.bool (v.put 0 b).h,.int .u16 (v.put 0 b).n])/\Below w.heap.size w w':=by
 go_enter Tryz.func255,Tryz.ntmps255
 go_wp2_with (go_at_call 256;refine (high_any v.p b _ h.p hb).mono ?_;rintro e w1 ⟨rfl,rfl⟩)
 refine bodyPost_ret (v:=.agg _) (by simp [results,Tryz.results255,go_sem];exact ⟨rfl,rfl,rfl,rfl,rfl⟩) rfl ⟨rfl,?_⟩
 exact (stA (stA (st0 _) _) _)
theorem port_1 (v:Vc) (b:Int) (w:World) (h:v.ok) (hb:0<=b/\b<=255) :
 Calls Tryz.prog 257 #[(.agg #[.int .u16 v.p,.int .u16 v.c,.int .u8 v.l,.bool v.h,.int .u16 v.n]),.int .u8 b] w fun e w'=>e = .returned (.agg #[.int .u16 (v.put 1 b).p,.int .u16 (v.put 1 b).c,.int .u8 (v.put 1 b).l,.bool (v.put 1 b).h,.int .u16 (v.put 1 b).n])/\Below w.heap.size w w':=by
 go_enter Tryz.func257,Tryz.ntmps257
 go_wp2_with (go_at_call 258;refine (low_any v.p b _ h.p hb).mono ?_;rintro e w1 ⟨rfl,rfl⟩)
 refine bodyPost_ret (v:=.agg _) (by simp [results,Tryz.results257,go_sem];exact ⟨rfl,rfl,rfl,rfl,rfl⟩) rfl ⟨rfl,?_⟩
 exact (stA (stA (st0 _) _) _)
theorem port_2 (v:Vc) (b:Int) (w:World) (h:v.ok) (hb:0<=b/\b<=255) :
 Calls Tryz.prog 259 #[(.agg #[.int .u16 v.p,.int .u16 v.c,.int .u8 v.l,.bool v.h,.int .u16 v.n]),.int .u8 b] w fun e w'=>e = .returned (.agg #[.int .u16 (v.put 2 b).p,.int .u16 (v.put 2 b).c,.int .u8 (v.put 2 b).l,.bool (v.put 2 b).h,.int .u16 (v.put 2 b).n])/\Below w.heap.size w w':=by
 have e:=and15 b hb
 go_enter Tryz.func259,Tryz.ntmps259
 go_wp2
 refine bodyPost_ret (v:=.agg _) (by simp [results,Tryz.results259,go_sem];exact ⟨rfl,rfl,rfl,rfl,rfl⟩) rfl ⟨rfl,?_⟩
 exact (stA (stA (st0 _) _) _)
theorem port_3 (v:Vc) (b:Int) (w:World) (h:v.ok) (hb:0<=b/\b<=255) :
 Calls Tryz.prog 260 #[(.agg #[.int .u16 v.p,.int .u16 v.c,.int .u8 v.l,.bool v.h,.int .u16 v.n]),.int .u8 b] w fun e w'=>e = .returned (.agg #[.int .u16 (v.put 3 b).p,.int .u16 (v.put 3 b).c,.int .u8 (v.put 3 b).l,.bool (v.put 3 b).h,.int .u16 (v.put 3 b).n])/\Below w.heap.size w w':=by
 go_enter Tryz.func260,Tryz.ntmps260
 go_wp2_with (go_at_call 256;refine (high_any v.n b _ h.n hb).mono ?_;rintro e w1 ⟨rfl,rfl⟩)
 refine bodyPost_ret (v:=.agg _) (by simp [results,Tryz.results260,go_sem];exact ⟨rfl,rfl,rfl,rfl,rfl⟩) rfl ⟨rfl,?_⟩
 exact (stA (stA (st0 _) _) _)
theorem port_4 (v:Vc) (b:Int) (w:World) (h:v.ok) (hb:0<=b/\b<=255) :
 Calls Tryz.prog 261 #[(.agg #[.int .u16 v.p,.int .u16 v.c,.int .u8 v.l,.bool v.h,.int .u16 v.n]),.int .u8 b] w fun e w'=>e = .returned (.agg #[.int .u16 (v.put 4 b).p,.int .u16 (v.put 4 b).c,.int .u8 (v.put 4 b).l,.bool (v.put 4 b).h,.int .u16 (v.put 4 b).n])/\Below w.heap.size w w':=by
 go_enter Tryz.func261,Tryz.ntmps261
 go_wp2_with (go_at_call 258;refine (low_any v.n b _ h.n hb).mono ?_;rintro e w1 ⟨rfl,rfl⟩)
 refine bodyPost_ret (v:=.agg _) (by simp [results,Tryz.results261,go_sem];exact ⟨rfl,rfl,rfl,rfl,rfl⟩) rfl ⟨rfl,?_⟩
 exact (stA (stA (st0 _) _) _)
theorem ports_any (w:World):Calls Tryz.prog 199 #[] w fun e w'=>e = .returned (.agg #[.func (.func 255) #[] #[],.func (.func 257) #[] #[],.func (.func 259) #[] #[],.func (.func 260) #[] #[],.func (.func 261) #[] #[],.func (.func 254) #[] #[],.func (.func 254) #[] #[],.func (.func 254) #[] #[]])/\Below w.heap.size w w':=by
 go_enter Tryz.func199,Tryz.ntmps199
 go_wp2
 refine bodyPost_ret (v:=.agg _) (by simp [results,Tryz.results199,go_sem]) rfl ⟨rfl,?_⟩
 exact (stA (st0 _) _)
end Go.Proofs.YtbhpfkjfijdmaaaGreatDoor
