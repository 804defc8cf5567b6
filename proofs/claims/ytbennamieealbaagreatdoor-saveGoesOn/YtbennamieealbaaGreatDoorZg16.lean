/-
  Parts of a proof, joined.
-/
import Derived.Test.YtbennamieealbaaGreatDoorZg15
import Derived.Test.YtbennamieealbaaGreatDoorZg07
import Derived.Test.YtbennamieealbaaGreatDoorZg14
set_option linter.unusedVariables false
set_option maxRecDepth 100000
set_option maxHeartbeats 800000
namespace Go.Proofs.YtbennamieealbaaGreatDoor
open Go.ChangeShapes Go.WideShapes Go.ChangeAt Go.RowKit
def apW (n g i k:Nat):Value:=if k<i then fval 222 #[pt (n+3+2*k) 0,pt (n+4+2*k) 0] else if k=24 then fval 178 #[pt n 0] else .nilFunc
def apR (g k:Nat):Value:=if k=24 then mval 177 g 0 else .nilFunc
theorem zcV (r w w':Nat->Value):∀ n,(∀ k,k<n->w k=w' k)->portsN r w n=portsN r w' n
 | 0,_=>rfl
 | n+1,h=>by rw [portsN,portsN,zcV r w w' n (λk hk=>h k (by omega)),h n (by omega)]
theorem zen (r w:Nat->Value) (v:Value) (i:Nat):∀ n,i<n->(portsN r w n).set (2*i+1) v=portsN r (λk=>if k=i then v else w k) n
 | 0,h=>by omega
 | n+1,h=>by
  rw [portsN,portsN]
  by_cases e:i<n
  ·rw [List.set_append_left _ _ (by rw [zay];omega),zen r w v i n e]
   rw [if_neg (by omega)]
  ·obtain rfl:i=n:=by omega
   rw [List.set_append_right _ _ (by rw [zay];omega),zay,show 2*i+1-2*i=1 by omega,if_pos rfl]
   have:portsN r (λk=>if k=i then v else w k) i=portsN r w i:=zcV r _ _ i (λk hk=>if_neg (by omega))
   rw [this]
   rfl
theorem zk6 (n g i:Nat) (hi:i<24):(λk=>if k=i then fval 222 #[pt (n+3+2*i) 0,pt (n+4+2*i) 0] else apW n g i k)=apW n g (i+1):=by
 funext k
 unfold apW
 by_cases e:k=i
 ·subst e;rw [if_pos rfl,if_pos (by omega)]
 ·rw [if_neg e]
  by_cases e2:k<i
  ·rw [if_pos e2,if_pos (by omega)]
  ·simp only [if_neg e2,if_neg (show ¬ k<i+1 by omega)]
def apL (n g i:Nat):List Value:=portsN (apR g) (apW n g i) 32
theorem zgm (n g i:Nat):(apL n g i).length=64:=zay _ _ 32
structure LnAP (w : World) (g i : Nat) (Y : World) : Prop where
 low:Below w.heap.size w Y
 sz:Y.heap.size=w.heap.size+3+2*i
 b:Bx Y w.heap.size [pt g 0]
 r:Bx Y (w.heap.size+1) (List.replicate 64 .nilFunc)
 l:Bx Y (w.heap.size+2) (apL w.heap.size g i)
 sb:∀ k,k<i->Bx Y (w.heap.size+3+2*k) [pt g 0]/\Bx Y (w.heap.size+4+2*k) [.int .i64 k]
theorem LnAP.next {w Y:World} {g i:Nat} (h:LnAP w g i Y) (hi:i<24) (o1 o2:TypeId) :
 LnAP w g (i+1) (((Y.alloc (.cells #[pt g 0] o1)).alloc (.cells #[.int .i64 (i:Int)] o2)).setCell ⟨w.heap.size+2,2*i+1,none⟩ (fval 222 #[pt (w.heap.size+3+2*i) 0,pt (w.heap.size+4+2*i) 0])):=by
 have hz:=h.sz
 have hlow:=stA (stA h.low (.cells #[pt g 0] o1)) (.cells #[.int .i64 (i:Int)] o2)
 refine ⟨hlow.setCell (Nat.le_add_right _ _) _,?_,((h.b.over _).over _).far (by omega) _,((h.r.over _).over _).far (by omega) _,?_,λk hk=>?_⟩
 ·rw [zao];simp;omega
 ·have:=((h.l.over (.cells #[pt g 0] o1)).over (.cells #[.int .i64 (i:Int)] o2)).set (2*i+1) (fval 222 #[pt (w.heap.size+3+2*i) 0,pt (w.heap.size+4+2*i) 0]) (by rw [zgm];omega)
  unfold apL at this
  rw [zen _ _ _ i 32 (by omega),zk6 _ _ _ hi] at this
  exact this
 ·by_cases e:k<i
  ·obtain ⟨h1,h2⟩:=h.sb k e
   exact ⟨((h1.over _).over _).far (by omega) _,((h2.over _).over _).far (by omega) _⟩
  ·obtain rfl:k=i:=by omega
   refine ⟨((Bx.new Y [pt g 0] o1 (by omega)).over _).far (by omega) _,(Bx.new (Y.alloc (.cells #[pt g 0] o1)) [.int .i64 (k:Int)] o2 (by simp;omega)).far (by omega) _⟩
theorem load64 {Y:World} {b:Nat} {L:List Value} (hl:L.length=64) (h:Bx Y b L):(loadVar 130 ⟨b,0,none⟩).run Tryz.prog Y = .ok (.agg L.toArray) Y :=
 run_loadVar_mid Y b 0 130 _ _ h.c Tryz.underlying130 rfl (zbj.trans (by rw [hl]))
theorem zmz (n g i:Nat):(apL n g i).toArray.all (·.oneCell')=true:=by
 refine all_oneCell_toArray (λv hv=>?_)
 have key:∀ m,v∈portsN (apR g) (apW n g i) m->v.oneCell'=true:=by
  intro m
  induction m with
  | zero=>intro h;simp [portsN] at h
  | succ m ih =>
   intro h
   simp only [portsN,List.mem_append,List.mem_cons,List.not_mem_nil,or_false] at h
   rcases h with h|rfl|rfl
   ·exact ih h
   ·unfold apR;split <;> rfl
   ·unfold apW;split
    ·rfl
    ·split <;> rfl
 exact key 32 hv
theorem LnAP.next' {w Y:World} {g i:Nat} (h:LnAP w g i Y) (hi:i<24) (o1 o2:TypeId) :
 LnAP w g (i+1) (((Y.alloc (.cells #[pt g 0] o1)).alloc (.cells #[.int .i64 (i:Int)] o2)).setCell ⟨w.heap.size+1+1,i*2+1,none⟩ (fval 222 #[pt Y.heap.size 0,pt (Y.heap.size+1) 0])):=by
 have hn:=h.next hi o1 o2
 rw [show w.heap.size+4+2*i=w.heap.size+3+2*i+1 by omega,<- h.sz,show 2*i+1=i*2+1 by omega] at hn
 exact hn
theorem zot {W w1:World} {a b:Obj} {x o:Nat} {v:Value} (hw:w1=(W.alloc a).alloc b) (hc:W.cell? ⟨x,o,none⟩=some v) (hf:W.frozen? ⟨x,o,none⟩=false) (hz:x<W.heap.size):w1.cell? ⟨x,o,none⟩=some v/\w1.frozen? ⟨x,o,none⟩=false/\x<w1.heap.size:=by
 subst hw
 have hb:=stA (stA (st0 W) a) b
 exact ⟨(hb.cell (p:=⟨x,o,none⟩) hz).trans hc,(hb.frozen (p:=⟨x,o,none⟩) hz).trans hf,Nat.lt_of_lt_of_le hz hb.size⟩
def ap0L (n g:Nat):List Value:=[.nilFunc,.nilFunc,.nilFunc,.nilFunc,.nilFunc,.nilFunc,.nilFunc,.nilFunc,.nilFunc,.nilFunc,.nilFunc,.nilFunc,.nilFunc,.nilFunc,.nilFunc,.nilFunc,.nilFunc,.nilFunc,.nilFunc,.nilFunc,.nilFunc,.nilFunc,.nilFunc,.nilFunc,.nilFunc,.nilFunc,.nilFunc,.nilFunc,.nilFunc,.nilFunc,.nilFunc,.nilFunc,.nilFunc,.nilFunc,.nilFunc,.nilFunc,.nilFunc,.nilFunc,.nilFunc,.nilFunc,.nilFunc,.nilFunc,.nilFunc,.nilFunc,.nilFunc,.nilFunc,.nilFunc,.nilFunc,mval 177 g 0,fval 178 #[pt n 0],.nilFunc,.nilFunc,.nilFunc,.nilFunc,.nilFunc,.nilFunc,.nilFunc,.nilFunc,.nilFunc,.nilFunc,.nilFunc,.nilFunc,.nilFunc,.nilFunc]
theorem zmA (n g:Nat):ap0L n g=apL n g 0:=by kernel_rfl
theorem zm4 (n g:Nat):(ap0L n g).toArray.all (·.oneCell')=true:=by rw [zmA];exact zmz n g 0
theorem ziI (L L':List Value) (h:L'.length=L.length):putL L 0 L'=L':=by
 have:=zbg [] L' L [] h
 simpa using this
theorem LnAP.start {w:World} {g:Nat} (o1 o2 o3:TypeId):LnAP w g 0 (((((w.alloc (.cells #[pt g 0] o1)).alloc (.cells (List.replicate 64 Value.nilFunc).toArray o2)).alloc (.cells (List.replicate 64 Value.nilFunc).toArray o3))).setCells (w.heap.size+2) 0 (ap0L w.heap.size g)):=by
 have hx:=(Bx.new ((w.alloc (.cells #[pt g 0] o1)).alloc (.cells (List.replicate 64 Value.nilFunc).toArray o2)) (List.replicate 64 .nilFunc) o3 (b:=w.heap.size+2) (by simp)).puts 0 (ap0L w.heap.size g) (by simp [ap0L])
 rw [ziI _ _ (by simp [ap0L])] at hx
 refine ⟨Bl.puts (stA (stA (stA (st0 w) _) _) _) (by omega) _,by rw [zaT];simp,(((Bx.new w [pt g 0] o1 rfl).over _).over _).fars (by omega) _ _,((Bx.new (w.alloc _) (List.replicate 64 .nilFunc) o2 (by simp)).over _).fars (by omega) _ _,by rw [<- zmA];exact hx,λk hk=>by omega⟩
theorem ap_th {w:World} {g:Nat} (o1 o2 o3:TypeId):(((w.alloc (.cells #[pt g 0] o1)).alloc (.cells (List.replicate 64 Value.nilFunc).toArray o2)).alloc (.cells (List.replicate 64 Value.nilFunc).toArray o3)).there (w.heap.size+2) 0 64 :=
 (Bx.new _ (List.replicate 64 .nilFunc) o3 (b:=w.heap.size+2) (by simp)).there 0 64 (by simp)
theorem zfa (g:Nat) (w:World):Calls Tryz.prog 90 #[pt g 0] w λe w' =>
 e = .returned (.agg (apL w.heap.size g 24).toArray) /\ ∃ Y,LnAP w g 24 Y/\Below w.heap.size w w'/\(∀ k,k≠w.heap.size+1->w'.heap[k]? = Y.heap[k]?)/\Y.heap.size=w'.heap.size:=by
 go_enter Tryz.func90,Tryz.ntmps90
 go_wp2_with (first
  | (refine wpList_store_mid rfl 130 _ _ rfl (w.heap.size+2) 0 _ rfl rfl (ap_th 91 130 130) zbj (zm4 w.heap.size g) ?_
     refine Pl.cutL (LnAP w g 0) (LnAP.start 91 130 130) ?_
     intro Y hY
     have HY:=hid hY
     clear hY))
 go_loopw [10] (λi wr=>∃ k:Nat,k<=24/\i = .int .i64 k/\LnAP w g k wr) (λi _=>24-(intOf i).toNat)
 case atStart=>exact ⟨0,by omega,rfl,HY.out⟩
 case round =>
  obtain ⟨k,hk,rfl,hA⟩:=hrel
  by_cases hlt:k<24
  ·have hlt2:(k:Int)<24:=by omega
   have hlt3:(k:Int)<32:=by omega
   have c1:=hA.b.at 0 (pt g 0) rfl
   have z1:=hA.b.z
   have z2:=hA.l.z
   obtain ⟨v0,hv0⟩:∃ v,(apL w.heap.size g k)[k*2+1]? = some v:=⟨_,by rw [Nat.mul_comm];exact (zch _ _ 32 k (by omega)).2⟩
   have c2:wr.cell? ⟨w.heap.size+1+1,k*2+1,none⟩=some v0:=hA.l.at _ _ hv0
   have f2:wr.frozen? ⟨w.heap.size+1+1,k*2+1,none⟩=false:=hA.l.f (k*2+1)
   have z3:w.heap.size+1+1<wr.heap.size:=z2
   have HA:=hid hA
   clear hA hv0
   go_wp2_with (go_at_call 179;refine (zho g k _).mono ?_;rintro e w1 ⟨rfl,hw⟩;obtain ⟨c3,f3,z4⟩:=zot hw c2 f2 z3;have HW:=hid hw;clear hw c2 f2 z3 z2)
   go_roundw
   case rel =>
    refine ⟨k+1,by omega,by go_num,?_⟩
    rw [HW.out]
    exact HA.out.next' hlt _ _
   case measure=>simp [intOf];omega
  ·obtain rfl:k=24:=by omega
   have HA:=hid hA
   have z2:=hA.l.z
   have HR:=hid hA.r
   have HL:=hid hA.l
   have hL:=zgm w.heap.size g 24
   have HO:=hid (zmz w.heap.size g 24)
   clear hA HY
   generalize hLL:apL w.heap.size g 24=L at HL hL HO
   have HLL:=hid hLL
   have hsz:L.toArray.size=64:=by simp [hL]
   have HTH:Hid (wr.there (w.heap.size+1) 0 L.toArray.size):=hid (by rw [hsz];exact HR.out.there 0 64 (by simp))
   have HIN:Hid ((Tryz.prog.info? 130).map (·.size)=some L.toArray.size):=hid (by rw [hsz];exact zbj)
   clear hLL hsz
   go_wp2_with (first
    | (refine wpList_load_mid rfl 130 _ rfl (w.heap.size+2) 0 rfl L _ HL.out.c Tryz.underlying130 rfl (zbj.trans (by rw [hL])) ?_)
    | (refine wpList_store_mid rfl 130 _ _ rfl (w.heap.size+1) 0 L.toArray rfl rfl HTH.out HIN.out HO.out ?_
       refine Pl.cutL (λX=>Below w.heap.size w X/\(∀ k,k≠w.heap.size+1->X.heap[k]? = wr.heap[k]?)/\wr.heap.size=X.heap.size/\Bx X (w.heap.size+1) L) ⟨?_,?_,?_,?_⟩ ?_
       ·exact Bl.puts HA.out.low (by omega) _
       ·exact λk hk=>zag hk _ _ _
       ·exact (zaT _ _ _ _).symm
       ·have hx:=HR.out.puts 0 L (by rw [hL];simp)
        rw [ziI _ _ (by rw [hL];simp)] at hx
        exact hx
       rintro X ⟨hX1,hX2,hX3,hX4⟩
       have HX1:=hid hX1
       have HX2:=hid hX2
       have HX3:=hid hX3
       have HX4:=hid hX4
       clear hX1 hX2 hX3 hX4))
   exact bodyPost_ret (v:=.agg L.toArray) (by simp only [results,Tryz.results90];simp;exact Pl.res (load64 hL HX4.out)) rfl ⟨by rw [HLL.out],wr,HA.out,HX1.out,HX2.out,HX3.out⟩
def halfL (M:Mach) (S:Sl) (A B:List Value):List Value:=machL M S++([.int .i64 0,.slice none 0 0]++(A++B))
def nil66:List Value:=.pointer none :: .nilFunc::List.replicate 64 .nilFunc
theorem za9:nil66.length=66:=by simp [nil66]
theorem zcn (M:Mach) (S:Sl) (A B:List Value) (hA:A.length=66) (hB:B.length=66):(halfL M S A B).length=209:=by
 unfold halfL
 simp only [List.length_append,zah,hA,hB]
 rfl
theorem zhq (M:Mach) (S:Sl) (A A' B:List Value) (h:A'.length=A.length):putL (halfL M S A B) 77 A'=halfL M S A' B:=by
 have e:∀ X:List Value,halfL M S X B=(machL M S++[.int .i64 0,.slice none 0 0])++(X++B):=λX=>by unfold halfL;simp only [List.append_assoc]
 rw [e A,e A']
 exact zbg B A' A (machL M S++[.int .i64 0,.slice none 0 0]) h
theorem zhr (M:Mach) (S:Sl) (A B B':List Value) (hA:A.length=66) (h:B'.length=B.length):putL (halfL M S A B) 143 B'=halfL M S A B':=by
 have e:∀ X:List Value,halfL M S A X=((machL M S++[.int .i64 0,.slice none 0 0])++A)++(X++[]):=λX=>by unfold halfL;simp only [List.append_assoc,List.append_nil]
 rw [e B,e B']
 have hl:((machL M S++[Value.int .i64 0,.slice none 0 0])++A).length=143:=by simp only [List.length_append,zah,hA];rfl
 rw [<- hl]
 exact zbg [] B' B _ h
theorem zfK:(Tryz.prog.info? 132).map (·.size)=some 66:=by kernel_rfl
def boE (n:Nat) (a:Nat):Env:={ mE n with ab:=a,sb:=λk=>a+3+2*k,sa:=λk=>a+4+2*k }
theorem wpList_build {P:Program} {ops:Array Oper} {rest:List Oper} {op:Oper} {a:Act} {w:World} {Q:Exit->Act->World->Prop} (hgd:op.guard=none) (t:TypeId) (parts:Array (Nat × Operand)) (ho:op.op = .build t parts) (v:Value)
 (hrun:(Instr.build t (parts.map λ(i,x)=>(i,a.eval x))).run P w = .ok v w) (h:wpList P ops Q rest (a.put op.dst v) w):wpList P ops Q (op::rest) a w :=
 wpList_plain hgd λK hK=>by
  unfold Oper.wp execOp
  simp only [ho,Sem.run_bind,hrun,Result.andThen_ok,Sem.run_pure]
  exact hK _ _ h
theorem ziJ (M:Mach) (S:Sl) (w:World):(Instr.build 134 #[(0,.agg (machL M S).toArray)]).run Tryz.prog w = .ok (.agg (halfL M S nil66 nil66).toArray) w:=by kernel_rfl
theorem zeo {P:Program} {a:Act} {o:Oper} {w:World} (t:TypeId) (parts:Array (Nat × Operand)) (ho:o.op = .build t parts) (v:Value) (hrun:(Instr.build t (parts.map λ(i,x)=>(i,a.eval x))).run P w = .ok v w):(execOp a.eval o).run P w = .ok (.value v) w:=by
 unfold execOp
 simp only [ho,Sem.run_bind,hrun,Result.andThen_ok,Sem.run_pure]
theorem zdl {B g:Nat} {M:Mach} {S:Sl} {Y:World} {j:Nat} (h:OwnAt B M S Y j):∃ k,Rw Y (S.get j) k (M.byt j)/\((k=g+1/\S.get j = .slice none 0 0) \/ (B<=k/\k<Y.heap.size /\ ∃ n c,S.get j = .slice (some ⟨k,0,none⟩) n c)):=by
 rcases h with ⟨e1,e2⟩|⟨b,cap,e1,e2,e3,e4⟩
 ·exact ⟨g+1,Or.inl ⟨e1,e2⟩,Or.inl ⟨rfl,e1⟩⟩
 ·exact ⟨b,Or.inr ⟨cap,e1,e2,e4⟩,Or.inr ⟨e3,e4.z,_,_,e1⟩⟩
def sM (g n:Nat):List Value:=pt g 30::mval 87 g 0::portsN (fxE g (mE n)).rdM (fxE g (mE n)).wrM 32
def sA (g a:Nat):List Value:=pt g 31::mval 89 g 0::apL a g 24
theorem zep (g n:Nat):(sM g n).length=66:=by unfold sM;simp [zay]
theorem zgZ (g n:Nat):(sA g n).length=66:=by unfold sA;simp [zgm]
theorem zhs (B g k0 k1 k2 k3 k4 n a:Nat) (S:Sl) (M:Mach):(Fx.mk B g k0 k1 k2 k3 k4 S (boE n a)).cells M Tk.zero=halfL M S (sM g n) (sA g a):=by kernel_rfl
theorem Bd.make {w2 w5:World} {M:Mach} {S1:Sl} {B B1 n a:Nat} (hO:OwnK B1 M S1 5 w2) (hB:B<=B1) (hB2:B1<=w2.heap.size) (hf:M.fit) (hbx:Bx w5 w2.heap.size (halfL M S1 (sM w2.heap.size n) (sA w2.heap.size a))) (hk:∀ b,b<w2.heap.size->w5.heap[b]? = w2.heap[b]?)
 (hE:EnvM w2.heap.size (mE n) w5) (hn:w2.heap.size<n) (hA:Bx w5 a [pt w2.heap.size 0] /\ ∀ k,k<24->Bx w5 (a+3+2*k) [pt w2.heap.size 0]/\Bx w5 (a+4+2*k) [.int .i64 k]) (ha:w2.heap.size<a) :
 ∃ F:Fx,F.B=B/\F.g=w2.heap.size/\(F.B<=F.mr/\F.B<=F.ar)/\Bd F w5 M Tk.zero:=by
 obtain ⟨k0,r0,d0⟩:=zdl (g:=w2.heap.size) (hO.own 0 (by omega))
 obtain ⟨k1,r1,d1⟩:=zdl (g:=w2.heap.size) (hO.own 1 (by omega))
 obtain ⟨k2,r2,d2⟩:=zdl (g:=w2.heap.size) (hO.own 2 (by omega))
 obtain ⟨k3,r3,d3⟩:=zdl (g:=w2.heap.size) (hO.own 3 (by omega))
 obtain ⟨k4,r4,d4⟩:=zdl (g:=w2.heap.size) (hO.own 4 (by omega))
 have hz:=hbx.z
 have r0':Rw w5 S1.mr k0 M.mrom:=r0.same (by omega) (λh=>hk _ h)
 have r1':Rw w5 S1.ar k1 M.arom:=r1.same (by omega) (λh=>hk _ h)
 have r2':Rw w5 S1.ra k2 M.ram:=r2.same (by omega) (λh=>hk _ h)
 have r3':Rw w5 S1.ow k3 M.own:=r3.same (by omega) (λh=>hk _ h)
 have r4':Rw w5 S1.vi k4 M.video:=r4.same (by omega) (λh=>hk _ h)
 have n2:S1.get 2 ≠ .slice none 0 0:=λe=>by
  obtain ⟨cap,e1,_⟩:=r2'.some (by rw [hf.ram];omega)
  have:S1.get 2=S1.ra:=rfl
  rw [this,e1] at e;cases e
 have n3:S1.get 3 ≠ .slice none 0 0:=λe=>by
  obtain ⟨cap,e1,_⟩:=r3'.some (by rw [hf.own];omega)
  have:S1.get 3=S1.ow:=rfl
  rw [this,e1] at e;cases e
 have n4:S1.get 4 ≠ .slice none 0 0:=λe=>by
  obtain ⟨cap,e1,_⟩:=r4'.some (by rw [hf.video];omega)
  have:S1.get 4=S1.vi:=rfl
  rw [this,e1] at e;cases e
 rcases d2 with ⟨_,e⟩|⟨b2,z2,_,_,e2⟩
 ·exact absurd e n2
 rcases d3 with ⟨_,e⟩|⟨b3,z3,_,_,e3⟩
 ·exact absurd e n3
 rcases d4 with ⟨_,e⟩|⟨b4,z4,_,_,e4⟩
 ·exact absurd e n4
 have x23:=hO.dist 2 3 _ _ _ _ _ _ (by omega) (by omega) (by omega) e2 e3
 have x24:=hO.dist 2 4 _ _ _ _ _ _ (by omega) (by omega) (by omega) e2 e4
 have x34:=hO.dist 3 4 _ _ _ _ _ _ (by omega) (by omega) (by omega) e3 e4
 have y0:k0≠w2.heap.size/\k0≠k2/\k0≠k3/\k0≠k4:=by
  rcases d0 with ⟨e,_⟩|⟨_,z0,_,_,e0⟩
  ·omega
  ·have:=hO.dist 0 2 _ _ _ _ _ _ (by omega) (by omega) (by omega) e0 e2
   have:=hO.dist 0 3 _ _ _ _ _ _ (by omega) (by omega) (by omega) e0 e3
   have:=hO.dist 0 4 _ _ _ _ _ _ (by omega) (by omega) (by omega) e0 e4
   exact ⟨by omega,by assumption,by assumption,by assumption⟩
 have y1:k1≠w2.heap.size/\k1≠k2/\k1≠k3/\k1≠k4:=by
  rcases d1 with ⟨e,_⟩|⟨_,z0,_,_,e0⟩
  ·omega
  ·have:=hO.dist 1 2 _ _ _ _ _ _ (by omega) (by omega) (by omega) e0 e2
   have:=hO.dist 1 3 _ _ _ _ _ _ (by omega) (by omega) (by omega) e0 e3
   have:=hO.dist 1 4 _ _ _ _ _ _ (by omega) (by omega) (by omega) e0 e4
   exact ⟨by omega,by assumption,by assumption,by assumption⟩
 have hT:∀ x,w2.heap.size<x->¬ (x=w2.heap.size \/ x=k2 \/ x=k3 \/ x=k4):=λx hx h=>by omega
 obtain ⟨E0,E1,E2,E3,E4,E5,E6,E7,E8,E9,E10⟩:=hE
 refine ⟨⟨B,w2.heap.size,k0,k1,k2,k3,k4,S1,boE n a⟩,rfl,rfl,⟨by show B<=k0;rcases d0 with ⟨e,_⟩|⟨e,_⟩ <;> omega,by show B<=k1;rcases d1 with ⟨e,_⟩|⟨e,_⟩ <;> omega⟩,by show Bx w5 w2.heap.size ((Fx.mk B w2.heap.size k0 k1 k2 k3 k4 S1 (boE n a)).cells M Tk.zero);rw [zhs];exact hbx,r0',r1',r2',r3',r4',λx v hx=>?_,⟨⟨by show B<=w2.heap.size;omega,by show B<=k2;omega,by show B<=k3;omega,by show B<=k4;omega⟩,⟨by show w2.heap.size≠k2;omega,by show w2.heap.size≠k3;omega,by show w2.heap.size≠k4;omega,x23,x24,x34⟩,λh=>?_,λh=>?_,λx v hx=>?_⟩,hf,by show B<=w5.heap.size;omega,World.ownsRow_nil _ _ _ _,λk hk=>by cases hk⟩
 ·cases hx
  ·exact ⟨E0.z,E0.at 0 _ rfl⟩
  ·exact ⟨E1.z,E1.at 0 _ rfl⟩
  ·exact ⟨E2.z,E2.at 0 _ rfl⟩
  ·exact ⟨E3.z,E3.at 0 _ rfl⟩
  ·exact ⟨E4.z,E4.at 0 _ rfl⟩
  ·exact ⟨E5.z,E5.at 0 _ rfl⟩
  ·exact ⟨E6.z,E6.at 0 _ rfl⟩
  ·exact ⟨E7.z,E7.at 0 _ rfl⟩
  ·exact ⟨E8.z,E8.at 0 _ rfl⟩
  ·exact ⟨E9.z,E9.at 0 _ rfl⟩
  ·exact ⟨E10.z,E10.at 0 _ rfl⟩
  ·exact ⟨hA.1.z,hA.1.at 0 _ rfl⟩
  ·rename_i i hi
   exact ⟨(hA.2 i hi).1.z,(hA.2 i hi).1.at 0 _ rfl⟩
  ·rename_i i hi
   exact ⟨(hA.2 i hi).2.z,(hA.2 i hi).2.at 0 _ rfl⟩
 ·have h':k0=w2.heap.size \/ k0=k2 \/ k0=k3 \/ k0=k4:=h
  omega
 ·have h':k1=w2.heap.size \/ k1=k2 \/ k1=k3 \/ k1=k4:=h
  omega
 ·refine hT x ?_
  cases hx
  ·show w2.heap.size<n+1;omega
  ·show w2.heap.size<n+2;omega
  ·show w2.heap.size<n+3;omega
  ·show w2.heap.size<n+4;omega
  ·show w2.heap.size<n+5;omega
  ·show w2.heap.size<n+6;omega
  ·show w2.heap.size<n+7;omega
  ·show w2.heap.size<n+8;omega
  ·show w2.heap.size<n+9;omega
  ·show w2.heap.size<n+10;omega
  ·show w2.heap.size<n+11;omega
  ·exact ha
  ·rename_i i hi
   show w2.heap.size<a+3+2*i;omega
  ·rename_i i hi
   show w2.heap.size<a+4+2*i;omega
end Go.Proofs.YtbennamieealbaaGreatDoor
