/-
  Parts of a proof, joined.
-/
import Derived.Test.YtbennamieealbaaGreatDoorZg07
import Derived.Deep.DeepCutAuto
import Derived.Test.YtbennamieealbaaGreatDoorZg04
import Derived.Test.YtbennamieealbaaGreatDoorZg02
import Derived.Deep.RegionLaw
import Derived.Test.YtbennamieealbaaGreatDoorZg03
import Derived.ChangeKeysEq
set_option linter.unusedVariables false
set_option maxRecDepth 100000
set_option maxHeartbeats 1600000
namespace Go.Proofs.YtbennamieealbaaGreatDoor
open Go.ChangeShapes Go.WideShapes Go.ChangeAt Go.RowKit
def zeroM:Mach:=⟨C.Cpu.zero,C.Cpu.zero,[],[],[],[],[],⟨0,false,0⟩,⟨0,false,0⟩,⟨0,0,false,false⟩,⟨⟨0,0,0,false,0⟩,⟨0,0,0,false,0⟩,⟨0,0,0,false,0⟩,0⟩,⟨0,0,false,0⟩,0,0,false,false,0,0,false,0,0,0⟩
def nilS:Sl:=⟨.slice none 0 0,.slice none 0 0,.slice none 0 0,.slice none 0 0,.slice none 0 0⟩
def OwnAt (B:Nat) (M:Mach) (S:Sl) (Y:World) (j:Nat):Prop:=(S.get j = .slice none 0 0/\M.byt j=[]) \/ ∃ b cap,S.get j = .slice (some ⟨b,0,none⟩) (M.byt j).length cap/\(M.byt j).length<=cap/\B<=b/\Bx Y b (bcs (M.byt j))
structure OwnK (B : Nat) (M : Mach) (S : Sl) (k : Nat) (Y : World) : Prop where
 own:∀ j,j<k->OwnAt B M S Y j
 dist:∀ i j b b' n c n' c',i<k->j<k->i≠j->S.get i = .slice (some ⟨b,0,none⟩) n c->S.get j = .slice (some ⟨b',0,none⟩) n' c'->b≠b'
theorem OwnAt.same {B:Nat} {M:Mach} {S:Sl} {Y Y':World} {j:Nat} (h:OwnAt B M S Y j) (hz:Y.heap.size<=Y'.heap.size) (e:∀ b,B<=b->b<Y.heap.size->Y'.heap[b]? = Y.heap[b]?):OwnAt B M S Y' j:=by
 rcases h with h|⟨b,cap,h1,h2,h3,h4⟩
 ·exact Or.inl h
 ·exact Or.inr ⟨b,cap,h1,h2,h3,h4.same hz (e b h3 h4.z)⟩
theorem OwnK.same {B:Nat} {M:Mach} {S:Sl} {k:Nat} {Y Y':World} (h:OwnK B M S k Y) (hz:Y.heap.size<=Y'.heap.size) (e:∀ b,B<=b->b<Y.heap.size->Y'.heap[b]? = Y.heap[b]?):OwnK B M S k Y' :=
 ⟨λj hj=>(h.own j hj).same hz e,h.dist⟩
theorem OwnK.isSl {B:Nat} {M:Mach} {S:Sl} {Y:World} (h:OwnK B M S 5 Y):S.isSl:=λj hj=>by
 rcases h.own j hj with ⟨e,_⟩|⟨b,cap,e,_⟩
 ·exact ⟨_,_,_,e⟩
 ·exact ⟨_,_,_,e⟩
structure CP (w : World) (M : Mach) (S0 : Sl) (k : Nat) (S : Sl) (Y : World) : Prop where
 low:Below w.heap.size w Y
 bx:Bx Y w.heap.size (machL M S)
 res:Bx Y (w.heap.size+1) (machL zeroM nilS)
 ptr:Bx Y (w.heap.size+2) [pt w.heap.size 30,pt w.heap.size 31,pt w.heap.size 32,pt w.heap.size 33,pt w.heap.size 34]
 own:OwnK (w.heap.size+3) M S k Y
 todo:∀ j,j<5->k<=j->S.get j=S0.get j
theorem CP.next {w Y w1:World} {M:Mach} {S0 S:Sl} {k:Nat} {v:Value} (h:CP w M S0 k S Y) (hk:k<5) (ho:w1.ownsRow Y.heap.size 5 1 v (M.byt k).length (bcs (M.byt k))) (hb:Below Y.heap.size Y w1) :
 CP w M S0 (k+1) (S.set k v) (w1.setCell ⟨w.heap.size,30+k,none⟩ v):=by
 have hz:=h.ptr.z
 have hz1:=hb.size
 have hsame:∀ b,w.heap.size+3<=b->b<Y.heap.size->(w1.setCell ⟨w.heap.size,30+k,none⟩ v).heap[b]? = Y.heap[b]?:=λb h1 h2=>(zae (by omega)).trans (hb.block b h2)
 have hold:=h.own.same (Y':=w1.setCell ⟨w.heap.size,30+k,none⟩ v) (by rw [zao];exact hz1) hsame
 have hlen:30+k<(machL M S).length:=by rw [zah];omega
 refine ⟨(stp h.low hb).setCell (Nat.le_refl _) _,?_,(h.res.kept hb).far (by omega) _,(h.ptr.kept hb).far (by omega) _,⟨λj hj=>?_,λi j b b' n c n' c' hi hj hij e1 e2=>?_⟩,λj hj hkj=>?_⟩
 ·rw [<- ziw M S k v hk]
  exact (h.bx.kept hb).set _ _ hlen
 ·unfold OwnAt
  rw [S.get_set k j v hk (by omega)]
  by_cases e:j=k
  ·subst e
   rw [if_pos rfl]
   rcases zfI ho with ⟨e1,e2⟩|⟨b,cap,e1,e2,e3,e4⟩
   ·exact Or.inl ⟨e1,e2⟩
   ·exact Or.inr ⟨b,cap,e1,e2,by omega,e4.far (by omega) _⟩
  ·rw [if_neg e]
   exact hold.own j (by omega)
 ·rw [S.get_set k i v hk (by omega)] at e1
  rw [S.get_set k j v hk (by omega)] at e2
  by_cases ei:i=k
  ·by_cases ej:j=k
   ·omega
   ·rw [if_pos ei] at e1
    rw [if_neg ej] at e2
    have hbn:Y.heap.size<=b:=by
     rcases zfI ho with ⟨x1,_⟩|⟨bb,cap,x1,_,x3,_⟩
     ·rw [x1] at e1;cases e1
     ·rw [x1] at e1;cases e1;exact x3
    rcases h.own.own j (by omega) with ⟨x1,_⟩|⟨bb,cap,x1,_,_,x4⟩
    ·rw [x1] at e2;cases e2
    ·rw [x1] at e2;cases e2;have:=x4.z;omega
  ·rw [if_neg ei] at e1
   by_cases ej:j=k
   ·rw [if_pos ej] at e2
    have hbn:Y.heap.size<=b':=by
     rcases zfI ho with ⟨x1,_⟩|⟨bb,cap,x1,_,x3,_⟩
     ·rw [x1] at e2;cases e2
     ·rw [x1] at e2;cases e2;exact x3
    rcases h.own.own i (by omega) with ⟨x1,_⟩|⟨bb,cap,x1,_,_,x4⟩
    ·rw [x1] at e1;cases e1
    ·rw [x1] at e1;cases e1;have:=x4.z;omega
   ·rw [if_neg ej] at e2
    exact h.own.dist i j b b' n c n' c' (by omega) (by omega) hij e1 e2
 ·rw [S.get_set k j v hk hj,if_neg (by omega)]
  exact h.todo j hj (by omega)
theorem zon (z k:Nat) (hk:k<5):([pt z 30,pt z 31,pt z 32,pt z 33,pt z 34]:List Value)[k]? = some (pt z (30+k)):=by
 rcases five hk with rfl|rfl|rfl|rfl|rfl <;> rfl
theorem ziy:nilS.isSl:=λj hj=>by rcases five hj with rfl|rfl|rfl|rfl|rfl <;> exact ⟨_,_,_,rfl⟩
theorem CP.start (w:World) (M:Mach) (S:Sl) (o1 o2 o3:TypeId):CP w M S 0 S (((w.alloc (.cells (machL M S).toArray o1)).alloc (.cells (machL zeroM nilS).toArray o2)).alloc (.cells #[pt w.heap.size 30,pt w.heap.size 31,pt w.heap.size 32,pt w.heap.size 33,pt w.heap.size 34] o3)) :=
 ⟨stA (stA (stA (st0 w) _) _) _,((Bx.new w (machL M S) o1 rfl).over _).over _,(Bx.new (w.alloc _) (machL zeroM nilS) o2 (by simp)).over _,Bx.new _ [pt w.heap.size 30,pt w.heap.size 31,pt w.heap.size 32,pt w.heap.size 33,pt w.heap.size 34] o3 (by simp),⟨λj hj=>by omega,λi j b b' n c n' c' hi=>by omega⟩,λj _ _=>rfl⟩
theorem zgU {w:World} {B:Nat} {v:Value} {l:List UInt8} (h:w.ownsRow B 5 1 v l.length (bcs l)):∃ a n c,v = .slice a n c:=by
 rcases zfI h with ⟨e,_⟩|⟨k,cap,e,_⟩
 ·exact ⟨_,_,_,e⟩
 ·exact ⟨_,_,_,e⟩
theorem zoo {Y w1:World} {x o:Nat} {v:Value} (hb:Below Y.heap.size Y w1) (hc:Y.cell? ⟨x,o,none⟩=some v) (hf:Y.frozen? ⟨x,o,none⟩=false) (hz:x<Y.heap.size):w1.cell? ⟨x,o,none⟩=some v/\w1.frozen? ⟨x,o,none⟩=false/\x<w1.heap.size :=
 ⟨(hb.cell (p:=⟨x,o,none⟩) hz).trans hc,(hb.frozen (p:=⟨x,o,none⟩) hz).trans hf,Nat.lt_of_lt_of_le hz hb.size⟩
theorem zau (L L':List Value) (h:L'.length=L.length):putL L 0 L'=L':=by
 have:=zbg [] L' L [] h
 simpa using this
theorem zgk (M:Mach) (S:Sl) (w:World) (hs:∀ j,j<5->sliceAt w (S.get j) (M.byt j)) (hl:∀ j,j<5->(M.byt j).length<=100000) :
 Calls Tryz.prog 86 #[.agg (machL M S).toArray] w λe w'=>∃ S',e = .returned (.agg (machL M S').toArray)/\OwnK (w.heap.size+3) M S' 5 w'/\Below w.heap.size w w':=by
 go_enter Tryz.func86,Tryz.ntmps86
 go_wp2
 refine Pl.cutW (CP w M S 0 S) (CP.start w M S _ _ _) ?_
 intro Y hY
 have HY:=hid hY
 clear hY
 go_loopw [12] (λi wr=>∃ (k:Nat) (S1:Sl),k<=5/\i = .int .i64 k/\CP w M S k S1 wr) (λi _=>5-(intOf i).toNat)
 case atStart=>exact ⟨0,S,by omega,rfl,HY.out⟩
 case round =>
  obtain ⟨k,S1,hk,rfl,hC⟩:=hrel
  clear HY
  by_cases hlt:k<5
  ·have hlt2:(k:Int)<5:=by omega
   have c1:=hC.ptr.at k _ (zon _ k hlt)
   have c2:=hC.bx.at (30+k) _ (ze4 M S1 k hlt)
   have e0:=hC.todo k hlt (Nat.le_refl _)
   rw [e0] at c2
   have z1:=hC.ptr.z
   have z0:=hC.bx.z
   have hsl:=hid ((hs k hlt).kept hC.low)
   have hll:=hl k hlt
   have HC:=hid hC
   clear hC e0 hs hl
   go_wp2_with (go_at_call 160;refine (zcU _ (M.byt k) _ hsl.out hll).mono ?_;rintro e w1 ⟨v',rfl,hown,hb1⟩;obtain ⟨av,nv,cv,rfl⟩:=zgU hown;have HO:=hid hown;have HB:=hid hb1;obtain ⟨d1,d2,d3⟩:=zoo hb1 c2 (HC.out.bx.f (30+k)) z0;clear hown hb1)
   go_roundw
   case rel=>exact ⟨k+1,S1.set k (.slice av nv cv),by omega,by go_num,HC.out.next hlt HO.out HB.out⟩
   case measure=>simp [intOf];omega
  ·obtain rfl:k=5:=by omega
   have z0:=hC.bx.z
   have z1:=hC.res.z
   have HC:=hid hC
   have HONE:=hid (zaC M S1 hC.own.isSl)
   clear hC hs hl
   go_wp2_with (first
    | (refine wpList_load_mid rfl 41 _ rfl w.heap.size 0 rfl (machL M S1) _ HC.out.bx.c Tryz.underlying41 rfl zad ?_)
    | (refine wpList_store_mid rfl 41 _ _ rfl (w.heap.size+1) 0 (machL M S1).toArray rfl rfl (HC.out.res.there 0 75 (by rw [zah];omega)) zad HONE.out ?_
       refine Pl.cutL (λX=>Below w.heap.size w X/\Bx X (w.heap.size+1) (machL M S1)/\OwnK (w.heap.size+3) M S1 5 X) ⟨?_,?_,?_⟩ ?_
       ·exact Bl.puts HC.out.low (by omega) _
       ·have hx:=HC.out.res.puts 0 (machL M S1) (by rw [zah,zah];omega)
        rw [zau _ _ (by rw [zah,zah])] at hx
        exact hx
       ·exact HC.out.own.same (Nat.le_of_eq (zaT _ _ _ _).symm) (λb h1 h2=>zag (by omega) _ _ _)
       rintro X ⟨hX1,hX2,hX3⟩
       have HX1:=hid hX1
       have HX2:=hid hX2
       have HX3:=hid hX3
       clear hX1 hX2 hX3))
   exact bodyPost_ret (v:=.agg (machL M S1).toArray) (by simp only [results,Tryz.results86];simp;exact Pl.res (zck M S1 HX2.out.c)) rfl ⟨S1,rfl,HX3.out,HX1.out⟩
section
variable {F : Fx} {W : World} {M M' : Mach} {tk : Tk}
theorem Pd.next_ok {p:Pd} (h:p.ok):p.next.ok:=by
 obtain ⟨hd,hs⟩:=h
 refine ⟨hd,?_⟩
 unfold Pd.next
 refine zgb (P:=λx=>0<=x/\x<=255) p.l hs ?_
 omega
theorem Pd.wr_ok {p:Pd} (h:p.ok) (x:Int):(p.wr x).ok:=by
 obtain ⟨hd,hs⟩:=h
 refine ⟨hd,?_⟩
 unfold Pd.wr
 exact zgb (P:=λx=>0<=x/\x<=255) _ hd hs
theorem zmw {W w1:World} {o:Obj} (hb:Below ((W.alloc o).drew).heap.size (W.alloc o).drew w1):W.heap.size<w1.heap.size:=Nat.lt_of_lt_of_le (by simp) hb.size
theorem zel {W w0 w1:World} {g:Nat} (hg:g<W.heap.size) (hb:Below w0.heap.size w0 w1) (h:W.heap.size<=w0.heap.size):g<w1.heap.size:=Nat.lt_of_lt_of_le hg (Nat.le_trans h hb.size)
structure PdC (F : Fx) (W : World) (M : Mach) (tk : Tk) (b : Nat) (p : Pd) (wx : World) : Prop where
 bd:Bd F wx M tk
 bt:Bt F W wx
 bx:Bx wx b [.int .u8 p.d,.bool p.l,.int .u8 p.s]
 ne:b≠F.g
theorem PdC.mkA {w1:World} {p:Pd} (h:Bd F W M tk) (hb:Below W.drew.heap.size W.drew w1):PdC F W M tk w1.heap.size p (w1.alloc (.cells #[.int .u8 p.d,.bool p.l,.int .u8 p.s] 28)):=by
 have hB:Below W.heap.size W w1:=stp (st0 W).drew hb
 have hz:=Nat.lt_of_lt_of_le h.bx.z hB.size
 exact ⟨(h.kept hB).over _,Bt.kept (Bt.refl F W) h.big (stA hB _),Bx.new w1 [.int .u8 p.d,.bool p.l,.int .u8 p.s] _ rfl,by omega⟩
theorem PdC.mkB {w1:World} {p:Pd} (h:Bd F W M tk) {x y z:Value} (hb:Below ((W.alloc (.cells #[x,y,z] 28)).drew).heap.size (W.alloc (.cells #[x,y,z] 28)).drew w1) :
 PdC F W M tk W.heap.size p (((w1.setCell ⟨W.heap.size,0,none⟩ (.int .u8 p.d)).setCell ⟨W.heap.size,1,none⟩ (.bool p.l)).setCell ⟨W.heap.size,2,none⟩ (.int .u8 p.s)):=by
 have hB:Below W.heap.size W w1:=stp (stA (st0 W) _).drew hb
 have hB2:Below W.heap.size W (((w1.setCell ⟨W.heap.size,0,none⟩ (.int .u8 p.d)).setCell ⟨W.heap.size,1,none⟩ (.bool p.l)).setCell ⟨W.heap.size,2,none⟩ (.int .u8 p.s)):=((hB.setCell (Nat.le_refl _) _).setCell (Nat.le_refl _) _).setCell (Nat.le_refl _) _
 have hx:=((Bx.new W [x,y,z] 28 rfl).drew.kept hb).puts 0 [.int .u8 p.d,.bool p.l,.int .u8 p.s] (by simp)
 have:=h.bx.z
 exact ⟨h.kept hB2,Bt.kept (Bt.refl F W) h.big hB2,hx,by omega⟩
theorem PdC.all {wx:World} {b:Nat} {p:Pd} (h:PdC F W M tk b p wx):wx.cell? ⟨b,0,none⟩=some (.int .u8 p.d)/\wx.cell? ⟨b,1,none⟩=some (.bool p.l)/\wx.cell? ⟨b,2,none⟩=some (.int .u8 p.s):=⟨h.bx.at 0 _ rfl,h.bx.at 1 _ rfl,h.bx.at 2 _ rfl⟩
theorem ziz (h:Bd F W M tk):Calls Tryz.prog 215 #[pt F.E.q0 0,pt F.E.w0 0] W λe w'=>e = .returned (.int .u8 (M.portM 0).1)/\Bd F w' (M.portM 0).2 tk/\Bt F W w':=by
 have c0:=h.at 35 (.int .u8 M.p0.d) rfl
 have c1:=h.at 36 (.bool M.p0.l) rfl
 have c2:=h.at 37 (.int .u8 M.p0.s) rfl
 have hg:=h.bx.z
 obtain ⟨y1,e1⟩:=h.env _ _ .q0
 obtain ⟨y2,e2⟩:=h.env _ _ .w0
 have hp:=h.fit.p0
 have H:=hid h
 clear h
 go_enter Tryz.func215,Tryz.ntmps215
 go_upto_region 1 with fail
 go_cut [0,1,3,4] (λv0 v1 v3 v4 wx=>v0=pt F.E.q0 0/\v1=pt F.E.w0 0/\v3 = .int .u8 M.p0.rd /\ ∃ b,v4=pt b 0/\PdC F W M tk b M.p0.next wx)
 case first =>
  go_region_with (go_at_call 216;refine (zgN _ _ _ _ hp.d hp.s).mono ?_;rintro e w1 ⟨rfl,hb1⟩;obtain ⟨k1,f1⟩:=bcell hb1;try (have z1:=zmw hb1);have z2:F.g<w1.heap.size:=zel hg hb1 (by simp))
  all_goals (go_wp2_with fail;go_meet)
  all_goals refine ⟨rfl,rfl,rfl,_,rfl,?_⟩
  all_goals first
   | exact PdC.mkB H.out hb1
   | exact PdC.mkA H.out hb1
 case rest =>
  obtain ⟨rfl,rfl,rfl,b,rfl,hC⟩:=hcut
  obtain ⟨d0,d1,d2⟩:=hC.all
  have c0:=hC.bd.at 35 (.int .u8 M.p0.d) rfl
  have c1:=hC.bd.at 36 (.bool M.p0.l) rfl
  have c2:=hC.bd.at 37 (.int .u8 M.p0.s) rfl
  have f0:=hC.bd.bx.f
  have hg:=hC.bd.bx.z
  have hbz:=hC.bx.z
  obtain ⟨y1,e1⟩:=hC.bd.env _ _ .q0
  obtain ⟨y2,e2⟩:=hC.bd.env _ _ .w0
  have HC:=hid hC
  clear hC
  go_wp2
  go_region_with fail
  all_goals go_wp2
  all_goals go_ret
  all_goals
   refine ⟨rfl,?_,?_⟩
   ·exact HC.out.bd.drew.puts (M':={ M with p0:=M.p0.next }) (tk':=tk) 35 [.int .u8 M.p0.next.d,.bool M.p0.next.l,.int .u8 M.p0.next.s] (by simp) rfl ⟨rfl,rfl,rfl,rfl,rfl⟩ { HC.out.bd.fit with main:=HC.out.bd.fit.main,p0:=Pd.next_ok HC.out.bd.fit.p0 }
   ·exact Bt.sets HC.out.bd.nd [.int .u8 M.p0.next.d,.bool M.p0.next.l,.int .u8 M.p0.next.s] 35 _ HC.out.bt.drew
end
def EndA (F:Fx) (W w':World) (M:Mach) (tk:Tk) (l:List Wt):Prop:=(∃ v,Bd F w' M (tk.app l v))/\Bw F W w'
theorem zam {P:Program} {ops:Array Oper} {op:Oper} {a:Act} {w:World} {K:Act->World->Prop} {Q:Exit->Act->World->Prop} {E:Prop} (hgd:op.guard=none) (ty:TypeId) (x y:Operand) (ho:op.op = .store ty x y)
 (b o:Nat) (cells:Array Value) (hx:a.eval x = .pointer (some ⟨b,o,none⟩)) (hy:a.eval y = .agg cells) (ht:w.there b o cells.size) (hi:(P.info? ty).map (·.size)=some cells.size) (h1:cells.all (·.oneCell')=true)
 (h:K (a.put op.dst undef) (w.setCells b o cells.toList)):if Region.wanted op (yielded ops a.tmps)=true then Oper.wp P op a w K Q else E:=by
 rw [if_pos (by simp [Region.wanted,hgd])]
 exact wp_store_mid ty x y ho b o cells hx hy ht hi h1 h
theorem ze5 {P:Program} {ops:Array Oper} {op:Oper} {a:Act} {w:World} {K:Act->World->Prop} {Q:Exit->Act->World->Prop} {E:Prop} (hgd:op.guard=none) (ty:TypeId) (x:Operand) (ho:op.op = .load ty x)
 (b o:Nat) (hx:a.eval x = .pointer (some ⟨b,o,none⟩)) (cs:List Value) (u:TypeDesc) (hc:w.rangeAt b o cs) (hu:P.underlying ty=some u) (hag:u.isRow=true) (hi:(P.info? ty).map (·.size)=some cs.length)
 (h:K (a.put op.dst (.agg cs.toArray)) w):if Region.wanted op (yielded ops a.tmps)=true then Oper.wp P op a w K Q else E:=by
 rw [if_pos (by simp [Region.wanted,hgd])]
 exact wp_load_mid ty x ho b o hx cs u hc hu hag hi h
theorem ziA {s x:Sd} {k mN:Nat} {L:List UInt8} {m:Int} (hx:s.ticks k=x) (hL:sms s k=L) (hf:x.fit) (e:(mN:Int)=m) (h1:1<=m) (h2:m<=wt x):s.ticks (k+mN)=⟨x.a.later m,x.b.later m,x.c.later m,wt x-m⟩/\sms s (k+mN)=L++one x:=by
 subst e hx hL
 rw [<- Sd.ticks_add,zc8,<- Sd.go_ticks hf mN (by omega) h2,(Sd.near hf mN (by omega) h2).2]
 exact ⟨rfl,rfl⟩
theorem Sd.fit.k {s:Sd} (h:s.fit):s.ok:=⟨h.a,h.b,h.c⟩
theorem SmW.all {w W:World} {x:Sd} {l:List UInt8} {v:Value} (h:SmW w x l v W):W.cell? ⟨w.heap.size,0,none⟩=some (.int .u16 x.a.p)/\W.cell? ⟨w.heap.size,1,none⟩=some (.int .u16 x.a.c)/\W.cell? ⟨w.heap.size,2,none⟩=some (.int .u8 x.a.l)/\W.cell? ⟨w.heap.size,3,none⟩=some (.bool x.a.h)/\W.cell? ⟨w.heap.size,4,none⟩=some (.int .u16 x.a.n)/\W.cell? ⟨w.heap.size,5,none⟩=some (.int .u16 x.b.p)/\W.cell? ⟨w.heap.size,6,none⟩=some (.int .u16 x.b.c)/\W.cell? ⟨w.heap.size,7,none⟩=some (.int .u8 x.b.l)/\W.cell? ⟨w.heap.size,8,none⟩=some (.bool x.b.h)/\W.cell? ⟨w.heap.size,9,none⟩=some (.int .u16 x.b.n)/\W.cell? ⟨w.heap.size,10,none⟩=some (.int .u16 x.c.p)/\W.cell? ⟨w.heap.size,11,none⟩=some (.int .u16 x.c.c)/\W.cell? ⟨w.heap.size,12,none⟩=some (.int .u8 x.c.l)/\W.cell? ⟨w.heap.size,13,none⟩=some (.bool x.c.h)/\W.cell? ⟨w.heap.size,14,none⟩=some (.int .u16 x.c.n)/\W.cell? ⟨w.heap.size,15,none⟩=some (.int .i64 x.w) :=
 ⟨h.b.at 0 _ rfl,h.b.at 1 _ rfl,h.b.at 2 _ rfl,h.b.at 3 _ rfl,h.b.at 4 _ rfl,h.b.at 5 _ rfl,h.b.at 6 _ rfl,h.b.at 7 _ rfl,h.b.at 8 _ rfl,h.b.at 9 _ rfl,h.b.at 10 _ rfl,h.b.at 11 _ rfl,h.b.at 12 _ rfl,h.b.at 13 _ rfl,h.b.at 14 _ rfl,h.b.at 15 _ rfl⟩
theorem SmW.allr {w W:World} {x:Sd} {l:List UInt8} {v:Value} (h:SmW w x l v W):W.cell? ⟨w.heap.size+1,0,none⟩=some (.int .u16 0)/\W.cell? ⟨w.heap.size+1,1,none⟩=some (.int .u16 0)/\W.cell? ⟨w.heap.size+1,2,none⟩=some (.int .u8 0)/\W.cell? ⟨w.heap.size+1,3,none⟩=some (.bool false)/\W.cell? ⟨w.heap.size+1,4,none⟩=some (.int .u16 0)/\W.cell? ⟨w.heap.size+1,5,none⟩=some (.int .u16 0)/\W.cell? ⟨w.heap.size+1,6,none⟩=some (.int .u16 0)/\W.cell? ⟨w.heap.size+1,7,none⟩=some (.int .u8 0)/\W.cell? ⟨w.heap.size+1,8,none⟩=some (.bool false)/\W.cell? ⟨w.heap.size+1,9,none⟩=some (.int .u16 0)/\W.cell? ⟨w.heap.size+1,10,none⟩=some (.int .u16 0)/\W.cell? ⟨w.heap.size+1,11,none⟩=some (.int .u16 0)/\W.cell? ⟨w.heap.size+1,12,none⟩=some (.int .u8 0)/\W.cell? ⟨w.heap.size+1,13,none⟩=some (.bool false)/\W.cell? ⟨w.heap.size+1,14,none⟩=some (.int .u16 0)/\W.cell? ⟨w.heap.size+1,15,none⟩=some (.int .i64 0) :=
 ⟨h.r.at 0 _ rfl,h.r.at 1 _ rfl,h.r.at 2 _ rfl,h.r.at 3 _ rfl,h.r.at 4 _ rfl,h.r.at 5 _ rfl,h.r.at 6 _ rfl,h.r.at 7 _ rfl,h.r.at 8 _ rfl,h.r.at 9 _ rfl,h.r.at 10 _ rfl,h.r.at 11 _ rfl,h.r.at 12 _ rfl,h.r.at 13 _ rfl,h.r.at 14 _ rfl,h.r.at 15 _ rfl⟩
theorem SmW.alls {w W:World} {x:Sd} {l:List UInt8} {v:Value} (h:SmW w x l v W) (y:Sd):(W.setCells (w.heap.size+1) 0 (scs y)).cell? ⟨w.heap.size,0,none⟩=some (.int .u16 x.a.p)/\(W.setCells (w.heap.size+1) 0 (scs y)).cell? ⟨w.heap.size,1,none⟩=some (.int .u16 x.a.c)/\(W.setCells (w.heap.size+1) 0 (scs y)).cell? ⟨w.heap.size,2,none⟩=some (.int .u8 x.a.l)/\(W.setCells (w.heap.size+1) 0 (scs y)).cell? ⟨w.heap.size,3,none⟩=some (.bool x.a.h)/\(W.setCells (w.heap.size+1) 0 (scs y)).cell? ⟨w.heap.size,4,none⟩=some (.int .u16 x.a.n)/\(W.setCells (w.heap.size+1) 0 (scs y)).cell? ⟨w.heap.size,5,none⟩=some (.int .u16 x.b.p)/\(W.setCells (w.heap.size+1) 0 (scs y)).cell? ⟨w.heap.size,6,none⟩=some (.int .u16 x.b.c)/\(W.setCells (w.heap.size+1) 0 (scs y)).cell? ⟨w.heap.size,7,none⟩=some (.int .u8 x.b.l)/\(W.setCells (w.heap.size+1) 0 (scs y)).cell? ⟨w.heap.size,8,none⟩=some (.bool x.b.h)/\(W.setCells (w.heap.size+1) 0 (scs y)).cell? ⟨w.heap.size,9,none⟩=some (.int .u16 x.b.n)/\(W.setCells (w.heap.size+1) 0 (scs y)).cell? ⟨w.heap.size,10,none⟩=some (.int .u16 x.c.p)/\(W.setCells (w.heap.size+1) 0 (scs y)).cell? ⟨w.heap.size,11,none⟩=some (.int .u16 x.c.c)/\(W.setCells (w.heap.size+1) 0 (scs y)).cell? ⟨w.heap.size,12,none⟩=some (.int .u8 x.c.l)/\(W.setCells (w.heap.size+1) 0 (scs y)).cell? ⟨w.heap.size,13,none⟩=some (.bool x.c.h)/\(W.setCells (w.heap.size+1) 0 (scs y)).cell? ⟨w.heap.size,14,none⟩=some (.int .u16 x.c.n)/\(W.setCells (w.heap.size+1) 0 (scs y)).cell? ⟨w.heap.size,15,none⟩=some (.int .i64 x.w) :=
 ⟨(h.b.fars (b':=w.heap.size+1) (by omega) 0 (scs y)).at 0 _ rfl,(h.b.fars (b':=w.heap.size+1) (by omega) 0 (scs y)).at 1 _ rfl,(h.b.fars (b':=w.heap.size+1) (by omega) 0 (scs y)).at 2 _ rfl,(h.b.fars (b':=w.heap.size+1) (by omega) 0 (scs y)).at 3 _ rfl,(h.b.fars (b':=w.heap.size+1) (by omega) 0 (scs y)).at 4 _ rfl,(h.b.fars (b':=w.heap.size+1) (by omega) 0 (scs y)).at 5 _ rfl,(h.b.fars (b':=w.heap.size+1) (by omega) 0 (scs y)).at 6 _ rfl,(h.b.fars (b':=w.heap.size+1) (by omega) 0 (scs y)).at 7 _ rfl,(h.b.fars (b':=w.heap.size+1) (by omega) 0 (scs y)).at 8 _ rfl,(h.b.fars (b':=w.heap.size+1) (by omega) 0 (scs y)).at 9 _ rfl,(h.b.fars (b':=w.heap.size+1) (by omega) 0 (scs y)).at 10 _ rfl,(h.b.fars (b':=w.heap.size+1) (by omega) 0 (scs y)).at 11 _ rfl,(h.b.fars (b':=w.heap.size+1) (by omega) 0 (scs y)).at 12 _ rfl,(h.b.fars (b':=w.heap.size+1) (by omega) 0 (scs y)).at 13 _ rfl,(h.b.fars (b':=w.heap.size+1) (by omega) 0 (scs y)).at 14 _ rfl,(h.b.fars (b':=w.heap.size+1) (by omega) 0 (scs y)).at 15 _ rfl⟩
theorem SmW.drew {w W:World} {x:Sd} {l:List UInt8} {v:Value} (h:SmW w x l v W):SmW w x l v W.drew:=⟨h.low.drew,h.b.drew,h.r.drew,zeZ h.o (st0 W).drew⟩
theorem SmW.alls' {w W:World} {x:Sd} {l:List UInt8} {v:Value} (h:SmW w x l v W) (y:Sd):(W.setCells (w.heap.size+1) 0 (scs y)).drew.cell? ⟨w.heap.size,0,none⟩=some (.int .u16 x.a.p)/\(W.setCells (w.heap.size+1) 0 (scs y)).drew.cell? ⟨w.heap.size,1,none⟩=some (.int .u16 x.a.c)/\(W.setCells (w.heap.size+1) 0 (scs y)).drew.cell? ⟨w.heap.size,2,none⟩=some (.int .u8 x.a.l)/\(W.setCells (w.heap.size+1) 0 (scs y)).drew.cell? ⟨w.heap.size,3,none⟩=some (.bool x.a.h)/\(W.setCells (w.heap.size+1) 0 (scs y)).drew.cell? ⟨w.heap.size,4,none⟩=some (.int .u16 x.a.n)/\(W.setCells (w.heap.size+1) 0 (scs y)).drew.cell? ⟨w.heap.size,5,none⟩=some (.int .u16 x.b.p)/\(W.setCells (w.heap.size+1) 0 (scs y)).drew.cell? ⟨w.heap.size,6,none⟩=some (.int .u16 x.b.c)/\(W.setCells (w.heap.size+1) 0 (scs y)).drew.cell? ⟨w.heap.size,7,none⟩=some (.int .u8 x.b.l)/\(W.setCells (w.heap.size+1) 0 (scs y)).drew.cell? ⟨w.heap.size,8,none⟩=some (.bool x.b.h)/\(W.setCells (w.heap.size+1) 0 (scs y)).drew.cell? ⟨w.heap.size,9,none⟩=some (.int .u16 x.b.n)/\(W.setCells (w.heap.size+1) 0 (scs y)).drew.cell? ⟨w.heap.size,10,none⟩=some (.int .u16 x.c.p)/\(W.setCells (w.heap.size+1) 0 (scs y)).drew.cell? ⟨w.heap.size,11,none⟩=some (.int .u16 x.c.c)/\(W.setCells (w.heap.size+1) 0 (scs y)).drew.cell? ⟨w.heap.size,12,none⟩=some (.int .u8 x.c.l)/\(W.setCells (w.heap.size+1) 0 (scs y)).drew.cell? ⟨w.heap.size,13,none⟩=some (.bool x.c.h)/\(W.setCells (w.heap.size+1) 0 (scs y)).drew.cell? ⟨w.heap.size,14,none⟩=some (.int .u16 x.c.n)/\(W.setCells (w.heap.size+1) 0 (scs y)).drew.cell? ⟨w.heap.size,15,none⟩=some (.int .i64 x.w) :=
 ⟨(h.b.fars (b':=w.heap.size+1) (by omega) 0 (scs y)).drew.at 0 _ rfl,(h.b.fars (b':=w.heap.size+1) (by omega) 0 (scs y)).drew.at 1 _ rfl,(h.b.fars (b':=w.heap.size+1) (by omega) 0 (scs y)).drew.at 2 _ rfl,(h.b.fars (b':=w.heap.size+1) (by omega) 0 (scs y)).drew.at 3 _ rfl,(h.b.fars (b':=w.heap.size+1) (by omega) 0 (scs y)).drew.at 4 _ rfl,(h.b.fars (b':=w.heap.size+1) (by omega) 0 (scs y)).drew.at 5 _ rfl,(h.b.fars (b':=w.heap.size+1) (by omega) 0 (scs y)).drew.at 6 _ rfl,(h.b.fars (b':=w.heap.size+1) (by omega) 0 (scs y)).drew.at 7 _ rfl,(h.b.fars (b':=w.heap.size+1) (by omega) 0 (scs y)).drew.at 8 _ rfl,(h.b.fars (b':=w.heap.size+1) (by omega) 0 (scs y)).drew.at 9 _ rfl,(h.b.fars (b':=w.heap.size+1) (by omega) 0 (scs y)).drew.at 10 _ rfl,(h.b.fars (b':=w.heap.size+1) (by omega) 0 (scs y)).drew.at 11 _ rfl,(h.b.fars (b':=w.heap.size+1) (by omega) 0 (scs y)).drew.at 12 _ rfl,(h.b.fars (b':=w.heap.size+1) (by omega) 0 (scs y)).drew.at 13 _ rfl,(h.b.fars (b':=w.heap.size+1) (by omega) 0 (scs y)).drew.at 14 _ rfl,(h.b.fars (b':=w.heap.size+1) (by omega) 0 (scs y)).drew.at 15 _ rfl⟩
theorem nest16 (W:World) (b:Nat) (x:Sd):((((((((((((((((W.setCell ⟨b,0,none⟩ (.int .u16 x.a.p)).setCell ⟨b,1,none⟩ (.int .u16 x.a.c)).setCell ⟨b,2,none⟩ (.int .u8 x.a.l)).setCell ⟨b,3,none⟩ (.bool x.a.h)).setCell ⟨b,4,none⟩ (.int .u16 x.a.n)).setCell ⟨b,5,none⟩ (.int .u16 x.b.p)).setCell ⟨b,6,none⟩ (.int .u16 x.b.c)).setCell ⟨b,7,none⟩ (.int .u8 x.b.l)).setCell ⟨b,8,none⟩ (.bool x.b.h)).setCell ⟨b,9,none⟩ (.int .u16 x.b.n)).setCell ⟨b,10,none⟩ (.int .u16 x.c.p)).setCell ⟨b,11,none⟩ (.int .u16 x.c.c)).setCell ⟨b,12,none⟩ (.int .u8 x.c.l)).setCell ⟨b,13,none⟩ (.bool x.c.h)).setCell ⟨b,14,none⟩ (.int .u16 x.c.n)).setCell ⟨b,15,none⟩ (.int .i64 x.w))=W.setCells b 0 (scs x):=rfl
theorem sliceAt.drew {W:World} {v:Value} {l:List UInt8} (h:sliceAt W v l):sliceAt W.drew v l:=h
theorem eqv (v:Vc) (d:Nat) (w:World):(Op.equalIn (d+2) 33 (.agg #[.int .u16 v.p,.int .u16 v.c,.int .u8 v.l,.bool v.h,.int .u16 v.n]) (.agg #[.int .u16 v.p,.int .u16 v.c,.int .u8 v.l,.bool v.h,.int .u16 v.n])).run Tryz.prog w = .ok true w:=by
 have u3:=Tryz.underlying22
 have a3:=Tryz.isAgg22
 have z3:=Tryz.sizeOf22
 have u4:=Tryz.underlying4
 have a4:=Tryz.isAgg4
 have z4:=Tryz.sizeOf4
 have u5:=Tryz.underlying5
 have a5:=Tryz.isAgg5
 have z5:=Tryz.sizeOf5
 have hS:Tryz.prog.underlying 33=some (.struct (Tryz.prog.fieldsOf 33)):=by kernel_rfl
 have hp:Tryz.prog.stoodInHeld 33=false:=by kernel_rfl
 rw [run_equalIn_agg w (d+1) 33 _ _ hS hp]
 simp only [Program.fieldsOf,Tryz.underlying33]
 go_simp
theorem zkP (s:Sd) (d:Nat) (w:World):(Op.equalIn (d+3) 34 (.agg #[.int .u16 s.a.p,.int .u16 s.a.c,.int .u8 s.a.l,.bool s.a.h,.int .u16 s.a.n,.int .u16 s.b.p,.int .u16 s.b.c,.int .u8 s.b.l,.bool s.b.h,.int .u16 s.b.n,.int .u16 s.c.p,.int .u16 s.c.c,.int .u8 s.c.l,.bool s.c.h,.int .u16 s.c.n]) (.agg #[.int .u16 s.a.p,.int .u16 s.a.c,.int .u8 s.a.l,.bool s.a.h,.int .u16 s.a.n,.int .u16 s.b.p,.int .u16 s.b.c,.int .u8 s.b.l,.bool s.b.h,.int .u16 s.b.n,.int .u16 s.c.p,.int .u16 s.c.c,.int .u8 s.c.l,.bool s.c.h,.int .u16 s.c.n])).run Tryz.prog w = .ok true w:=by
 have h0:=eqv s.a d
 have h1:=eqv s.b d
 have h2:=eqv s.c d
 have a3:=Tryz.isAgg33
 have z3:=Tryz.sizeOf33
 have hU:Tryz.prog.cellsOf 33=5:=by kernel_rfl
 have hs:(Tryz.prog.info? 33).isSome=true:=by kernel_rfl
 obtain ⟨i,hi⟩:=Option.isSome_iff_exists.1 hs
 rw [run_equalIn_array w (d+2) _ _ zb5 hi,hU]
 simp only [List.range,List.range.loop,Op.eqItems]
 go_simp
theorem zkQ (s:Sd) (w:World):(binOp .eql 36 (.agg #[.int .u16 s.a.p,.int .u16 s.a.c,.int .u8 s.a.l,.bool s.a.h,.int .u16 s.a.n,.int .u16 s.b.p,.int .u16 s.b.c,.int .u8 s.b.l,.bool s.b.h,.int .u16 s.b.n,.int .u16 s.c.p,.int .u16 s.c.c,.int .u8 s.c.l,.bool s.c.h,.int .u16 s.c.n,.int .i64 s.w]) (.agg #[.int .u16 s.a.p,.int .u16 s.a.c,.int .u8 s.a.l,.bool s.a.h,.int .u16 s.a.n,.int .u16 s.b.p,.int .u16 s.b.c,.int .u8 s.b.l,.bool s.b.h,.int .u16 s.b.n,.int .u16 s.c.p,.int .u16 s.c.c,.int .u8 s.c.l,.bool s.c.h,.int .u16 s.c.n,.int .i64 s.w])).run Tryz.prog w = .ok (.bool true) w:=by
 have u3:=Tryz.underlying3
 have x3:=Tryz.isAgg3
 have z3:=Tryz.sizeOf3
 have x5:=Tryz.isAgg34
 have z5:=Tryz.sizeOf34
 have ha:=zkP s 9996
 have hS:Tryz.prog.underlying 36=some (.struct (Tryz.prog.fieldsOf 36)):=by kernel_rfl
 have hp:Tryz.prog.stoodInHeld 36=false:=by kernel_rfl
 rw [run_eql_struct,show (10000:Nat)=9999+1 from rfl,run_equalIn_agg w 9999 36 _ _ hS hp]
 simp only [Program.fieldsOf,Tryz.underlying36]
 go_simp
theorem there16 {W:World} {b:Nat} (h:Bx W b zs):W.there b 0 16:=h.there 0 16 (by simp)
theorem all16 (x:Sd):(#[.int .u16 x.a.p,.int .u16 x.a.c,.int .u8 x.a.l,.bool x.a.h,.int .u16 x.a.n,.int .u16 x.b.p,.int .u16 x.b.c,.int .u8 x.b.l,.bool x.b.h,.int .u16 x.b.n,.int .u16 x.c.p,.int .u16 x.c.c,.int .u8 x.c.l,.bool x.c.h,.int .u16 x.c.n,.int .i64 x.w]:Array Value).all (·.oneCell')=true:=by simp [Value.oneCell']
theorem Bx.w0 {W:World} {b:Nat} {x:Sd} (h:Bx W b (scs x)):W.cell? ⟨b,0,none⟩=some (.int .u16 x.a.p)/\W.cell? ⟨b,1,none⟩=some (.int .u16 x.a.c)/\W.cell? ⟨b,2,none⟩=some (.int .u8 x.a.l)/\W.cell? ⟨b,3,none⟩=some (.bool x.a.h)/\W.cell? ⟨b,4,none⟩=some (.int .u16 x.a.n)/\b<W.heap.size /\ ∀ o,W.frozen? ⟨b,o,none⟩=false :=
 ⟨h.at 0 _ rfl,h.at 1 _ rfl,h.at 2 _ rfl,h.at 3 _ rfl,h.at 4 _ rfl,h.z,h.f⟩
theorem Bx.w1 {W:World} {b:Nat} {x:Sd} (h:Bx W b (scs x)):W.cell? ⟨b,5,none⟩=some (.int .u16 x.b.p)/\W.cell? ⟨b,6,none⟩=some (.int .u16 x.b.c)/\W.cell? ⟨b,7,none⟩=some (.int .u8 x.b.l)/\W.cell? ⟨b,8,none⟩=some (.bool x.b.h)/\W.cell? ⟨b,9,none⟩=some (.int .u16 x.b.n)/\b<W.heap.size /\ ∀ o,W.frozen? ⟨b,o,none⟩=false :=
 ⟨h.at 5 _ rfl,h.at 6 _ rfl,h.at 7 _ rfl,h.at 8 _ rfl,h.at 9 _ rfl,h.z,h.f⟩
theorem Bx.w2 {W:World} {b:Nat} {x:Sd} (h:Bx W b (scs x)):W.cell? ⟨b,10,none⟩=some (.int .u16 x.c.p)/\W.cell? ⟨b,11,none⟩=some (.int .u16 x.c.c)/\W.cell? ⟨b,12,none⟩=some (.int .u8 x.c.l)/\W.cell? ⟨b,13,none⟩=some (.bool x.c.h)/\W.cell? ⟨b,14,none⟩=some (.int .u16 x.c.n)/\b<W.heap.size /\ ∀ o,W.frozen? ⟨b,o,none⟩=false :=
 ⟨h.at 10 _ rfl,h.at 11 _ rfl,h.at 12 _ rfl,h.at 13 _ rfl,h.at 14 _ rfl,h.z,h.f⟩
theorem SmW.two (w:World) (s:Sd):SmW w s [] (.slice none 0 0) ((w.alloc (.cells #[.int .u16 s.a.p,.int .u16 s.a.c,.int .u8 s.a.l,.bool s.a.h,.int .u16 s.a.n,.int .u16 s.b.p,.int .u16 s.b.c,.int .u8 s.b.l,.bool s.b.h,.int .u16 s.b.n,.int .u16 s.c.p,.int .u16 s.c.c,.int .u8 s.c.l,.bool s.c.h,.int .u16 s.c.n,.int .i64 s.w] 36)).alloc (.cells #[.int .u16 0,.int .u16 0,.int .u8 0,.bool false,.int .u16 0,.int .u16 0,.int .u16 0,.int .u8 0,.bool false,.int .u16 0,.int .u16 0,.int .u16 0,.int .u8 0,.bool false,.int .u16 0,.int .i64 0] 36)):=⟨stA (stA (st0 w) _) _,(Bx.new w (scs s) _ rfl).over _,Bx.new _ zs _ (by simp),⟨rfl,Or.inl ⟨rfl,rfl⟩⟩⟩
theorem zkR (x0 x1 x2 x3 x4 x5 x6 x7:Value) (w:World):(Instr.index 348 (.agg #[x0,x1,x2,x3,x4,x5,x6,x7]) (.int .i64 0)).run Tryz.prog w = .ok x0 w:=by kernel_rfl
theorem zkS (x0 x1 x2 x3 x4 x5 x6 x7:Value) (w:World):(Instr.index 348 (.agg #[x0,x1,x2,x3,x4,x5,x6,x7]) (.int .i64 1)).run Tryz.prog w = .ok x1 w:=by kernel_rfl
theorem zkT (x0 x1 x2 x3 x4 x5 x6 x7:Value) (w:World):(Instr.index 348 (.agg #[x0,x1,x2,x3,x4,x5,x6,x7]) (.int .i64 2)).run Tryz.prog w = .ok x2 w:=by kernel_rfl
theorem zkU (x0 x1 x2 x3 x4 x5 x6 x7:Value) (w:World):(Instr.index 348 (.agg #[x0,x1,x2,x3,x4,x5,x6,x7]) (.int .i64 3)).run Tryz.prog w = .ok x3 w:=by kernel_rfl
theorem zkV (x0 x1 x2 x3 x4 x5 x6 x7:Value) (w:World):(Instr.index 348 (.agg #[x0,x1,x2,x3,x4,x5,x6,x7]) (.int .i64 4)).run Tryz.prog w = .ok x4 w:=by kernel_rfl
theorem zkW (x0 x1 x2 x3 x4 x5 x6 x7:Value) (w:World):(Instr.index 348 (.agg #[x0,x1,x2,x3,x4,x5,x6,x7]) (.int .i64 5)).run Tryz.prog w = .ok x5 w:=by kernel_rfl
theorem zkX (x0 x1 x2 x3 x4 x5 x6 x7:Value) (w:World):(Instr.index 348 (.agg #[x0,x1,x2,x3,x4,x5,x6,x7]) (.int .i64 6)).run Tryz.prog w = .ok x6 w:=by kernel_rfl
theorem zkY (x0 x1 x2 x3 x4 x5 x6 x7:Value) (w:World):(Instr.index 348 (.agg #[x0,x1,x2,x3,x4,x5,x6,x7]) (.int .i64 7)).run Tryz.prog w = .ok x7 w:=by kernel_rfl
theorem zkZ (v:Vc) (b:Int) (w:World):Calls Tryz.prog 307 #[(.agg #[.int .u16 v.p,.int .u16 v.c,.int .u8 v.l,.bool v.h,.int .u16 v.n]),.int .u8 b] w λe w'=>e = .returned (.agg #[.int .u16 (v.put 5 b).p,.int .u16 (v.put 5 b).c,.int .u8 (v.put 5 b).l,.bool (v.put 5 b).h,.int .u16 (v.put 5 b).n])/\Below w.heap.size w w':=zda v b w
theorem zk0 (v:Vc) (b:Int) (w:World):Calls Tryz.prog 307 #[(.agg #[.int .u16 v.p,.int .u16 v.c,.int .u8 v.l,.bool v.h,.int .u16 v.n]),.int .u8 b] w λe w'=>e = .returned (.agg #[.int .u16 (v.put 6 b).p,.int .u16 (v.put 6 b).c,.int .u8 (v.put 6 b).l,.bool (v.put 6 b).h,.int .u16 (v.put 6 b).n])/\Below w.heap.size w w':=zda v b w
theorem zk1 (v:Vc) (b:Int) (w:World):Calls Tryz.prog 307 #[(.agg #[.int .u16 v.p,.int .u16 v.c,.int .u8 v.l,.bool v.h,.int .u16 v.n]),.int .u8 b] w λe w'=>e = .returned (.agg #[.int .u16 (v.put 7 b).p,.int .u16 (v.put 7 b).c,.int .u8 (v.put 7 b).l,.bool (v.put 7 b).h,.int .u16 (v.put 7 b).n])/\Below w.heap.size w w':=zda v b w
end Go.Proofs.YtbennamieealbaaGreatDoor
