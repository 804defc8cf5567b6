/-
  Parts of a proof, joined.
-/
import Derived.Test.YtbennamieealbaaGreatDoorZc20
import Derived.Test.YtbennamieealbaaGreatDoorZc17
import Derived.Test.YtbennamieealbaaGreatDoorZc15
import Derived.Test.YtbennamieealbaaGreatDoorZc19
set_option linter.unusedVariables false
set_option maxRecDepth 100000
set_option maxHeartbeats 800000
namespace Go.Proofs.YtbennamieealbaaGreatDoor
open Go.ChangeShapes Go.WideShapes Go.ChangeAt Go.RowKit
def apW (n g i k:Nat):Value:=if k<i then fval 222 #[pt (n+3+2*k) 0,pt (n+4+2*k) 0] else if k=24 then fval 178 #[pt n 0] else .nilFunc
def apR (g k:Nat):Value:=if k=24 then mval 177 g 0 else .nilFunc
theorem zdn (r w w':Nat->Value):∀ n,(∀ k,k<n->w k=w' k)->portsN r w n=portsN r w' n
 | 0,_=>rfl
 | n+1,h=>by rw [portsN,portsN,zdn r w w' n (λk hk=>h k (by omega)),h n (by omega)]
theorem zfb (r w:Nat->Value) (v:Value) (i:Nat):∀ n,i<n->(portsN r w n).set (2*i+1) v=portsN r (λk=>if k=i then v else w k) n
 | 0,h=>by omega
 | n+1,h=>by
  rw [portsN,portsN]
  by_cases e:i<n
  ·rw [List.set_append_left _ _ (by rw [zaD];omega),zfb r w v i n e]
   rw [if_neg (by omega)]
  ·obtain rfl:i=n:=by omega
   rw [List.set_append_right _ _ (by rw [zaD];omega),zaD,show 2*i+1-2*i=1 by omega,if_pos rfl]
   have:portsN r (λk=>if k=i then v else w k) i=portsN r w i:=zdn r _ _ i (λk hk=>if_neg (by omega))
   rw [this]
   rfl
theorem zoz (n g i:Nat) (hi:i<24):(λk=>if k=i then fval 222 #[pt (n+3+2*i) 0,pt (n+4+2*i) 0] else apW n g i k)=apW n g (i+1):=by
 funext k
 unfold apW
 by_cases e:k=i
 ·subst e;rw [if_pos rfl,if_pos (by omega)]
 ·rw [if_neg e]
  by_cases e2:k<i
  ·rw [if_pos e2,if_pos (by omega)]
  ·simp only [if_neg e2,if_neg (show ¬ k<i+1 by omega)]
def apL (n g i:Nat):List Value:=portsN (apR g) (apW n g i) 32
theorem zir (n g i:Nat):(apL n g i).length=64:=zaD _ _ 32
structure LnAP (w : World) (g i : Nat) (Y : World) : Prop where
 low:Below w.heap.size w Y
 sz:Y.heap.size=w.heap.size+3+2*i
 b:Bx Y w.heap.size [pt g 0]
 r:Bx Y (w.heap.size+1) (List.replicate 64 .nilFunc)
 l:Bx Y (w.heap.size+2) (apL w.heap.size g i)
 sb:∀ k,k<i->Bx Y (w.heap.size+3+2*k) [pt g 0]/\Bx Y (w.heap.size+4+2*k) [.int .i64 k]
theorem LnAP.next {w Y:World} {g i:Nat} (h:LnAP w g i Y) (hi:i<24) (o1 o2:TypeId) :
 LnAP w g (i+1) (((Y.alloc (.cells #[pt g 0] o1)).alloc (.cells #[.int .i64 (i:Int)] o2)).setCell ⟨w.heap.size+2,2*i+1,none⟩ (fval 222 #[pt (w.heap.size+3+2*i) 0,pt (w.heap.size+4+2*i) 0])):=by
 have hz:=h.sz
 have hlow:=stA (stA h.low (.cells #[pt g 0] o1)) (.cells #[.int .i64 (i:Int)] o2)
 refine ⟨hlow.setCell (Nat.le_add_right _ _) _,?_,((h.b.over _).over _).far (by omega) _,((h.r.over _).over _).far (by omega) _,?_,λk hk=>?_⟩
 ·rw [zas];simp;omega
 ·have:=((h.l.over (.cells #[pt g 0] o1)).over (.cells #[.int .i64 (i:Int)] o2)).set (2*i+1) (fval 222 #[pt (w.heap.size+3+2*i) 0,pt (w.heap.size+4+2*i) 0]) (by rw [zir];omega)
  unfold apL at this
  rw [zfb _ _ _ i 32 (by omega),zoz _ _ _ hi] at this
  exact this
 ·by_cases e:k<i
  ·obtain ⟨h1,h2⟩:=h.sb k e
   exact ⟨((h1.over _).over _).far (by omega) _,((h2.over _).over _).far (by omega) _⟩
  ·obtain rfl:k=i:=by omega
   refine ⟨((Bx.new Y [pt g 0] o1 (by omega)).over _).far (by omega) _,(Bx.new (Y.alloc (.cells #[pt g 0] o1)) [.int .i64 (k:Int)] o2 (by simp;omega)).far (by omega) _⟩
theorem load64 {Y:World} {b:Nat} {L:List Value} (hl:L.length=64) (h:Bx Y b L):(loadVar 130 ⟨b,0,none⟩).run Tryz.prog Y = .ok (.agg L.toArray) Y :=
 run_loadVar_mid Y b 0 130 _ _ h.c Tryz.underlying130 rfl (zbq.trans (by rw [hl]))
theorem zpF (n g i:Nat):(apL n g i).toArray.all (·.oneCell')=true:=by
 refine all_oneCell_toArray (λv hv=>?_)
 have key:∀ m,v∈portsN (apR g) (apW n g i) m->v.oneCell'=true:=by
  intro m
  induction m with
  | zero=>intro h;simp [portsN] at h
  | succ m ih =>
   intro h
   simp only [portsN,List.mem_append,List.mem_cons,List.not_mem_nil,or_false] at h
   rcases h with h|rfl|rfl
   ·exact ih h
   ·unfold apR;split <;> rfl
   ·unfold apW;split
    ·rfl
    ·split <;> rfl
 exact key 32 hv
theorem LnAP.next' {w Y:World} {g i:Nat} (h:LnAP w g i Y) (hi:i<24) (o1 o2:TypeId) :
 LnAP w g (i+1) (((Y.alloc (.cells #[pt g 0] o1)).alloc (.cells #[.int .i64 (i:Int)] o2)).setCell ⟨w.heap.size+1+1,i*2+1,none⟩ (fval 222 #[pt Y.heap.size 0,pt (Y.heap.size+1) 0])):=by
 have hn:=h.next hi o1 o2
 rw [show w.heap.size+4+2*i=w.heap.size+3+2*i+1 by omega,<- h.sz,show 2*i+1=i*2+1 by omega] at hn
 exact hn
theorem zr3 {W w1:World} {a b:Obj} {x o:Nat} {v:Value} (hw:w1=(W.alloc a).alloc b) (hc:W.cell? ⟨x,o,none⟩=some v) (hf:W.frozen? ⟨x,o,none⟩=false) (hz:x<W.heap.size):w1.cell? ⟨x,o,none⟩=some v/\w1.frozen? ⟨x,o,none⟩=false/\x<w1.heap.size:=by
 subst hw
 have hb:=stA (stA (st0 W) a) b
 exact ⟨(hb.cell (p:=⟨x,o,none⟩) hz).trans hc,(hb.frozen (p:=⟨x,o,none⟩) hz).trans hf,Nat.lt_of_lt_of_le hz hb.size⟩
def ap0L (n g:Nat):List Value:=[.nilFunc,.nilFunc,.nilFunc,.nilFunc,.nilFunc,.nilFunc,.nilFunc,.nilFunc,.nilFunc,.nilFunc,.nilFunc,.nilFunc,.nilFunc,.nilFunc,.nilFunc,.nilFunc,.nilFunc,.nilFunc,.nilFunc,.nilFunc,.nilFunc,.nilFunc,.nilFunc,.nilFunc,.nilFunc,.nilFunc,.nilFunc,.nilFunc,.nilFunc,.nilFunc,.nilFunc,.nilFunc,.nilFunc,.nilFunc,.nilFunc,.nilFunc,.nilFunc,.nilFunc,.nilFunc,.nilFunc,.nilFunc,.nilFunc,.nilFunc,.nilFunc,.nilFunc,.nilFunc,.nilFunc,.nilFunc,mval 177 g 0,fval 178 #[pt n 0],.nilFunc,.nilFunc,.nilFunc,.nilFunc,.nilFunc,.nilFunc,.nilFunc,.nilFunc,.nilFunc,.nilFunc,.nilFunc,.nilFunc,.nilFunc,.nilFunc]
theorem zpG (n g:Nat):ap0L n g=apL n g 0:=by kernel_rfl
theorem zqB (n g:Nat):(ap0L n g).toArray.all (·.oneCell')=true:=by rw [zpG];exact zpF n g 0
theorem zmf (L L':List Value) (h:L'.length=L.length):putL L 0 L'=L':=by
 have:=zbn [] L' L [] h
 simpa using this
theorem LnAP.start {w:World} {g:Nat} (o1 o2 o3:TypeId):LnAP w g 0 (((((w.alloc (.cells #[pt g 0] o1)).alloc (.cells (List.replicate 64 Value.nilFunc).toArray o2)).alloc (.cells (List.replicate 64 Value.nilFunc).toArray o3))).setCells (w.heap.size+2) 0 (ap0L w.heap.size g)):=by
 have hx:=(Bx.new ((w.alloc (.cells #[pt g 0] o1)).alloc (.cells (List.replicate 64 Value.nilFunc).toArray o2)) (List.replicate 64 .nilFunc) o3 (b:=w.heap.size+2) (by simp)).puts 0 (ap0L w.heap.size g) (by simp [ap0L])
 rw [zmf _ _ (by simp [ap0L])] at hx
 refine ⟨Bl.puts (stA (stA (stA (st0 w) _) _) _) (by omega) _,by rw [zaQ];simp,(((Bx.new w [pt g 0] o1 rfl).over _).over _).fars (by omega) _ _,((Bx.new (w.alloc _) (List.replicate 64 .nilFunc) o2 (by simp)).over _).fars (by omega) _ _,by rw [<- zpG];exact hx,λk hk=>by omega⟩
theorem ap_th {w:World} {g:Nat} (o1 o2 o3:TypeId):(((w.alloc (.cells #[pt g 0] o1)).alloc (.cells (List.replicate 64 Value.nilFunc).toArray o2)).alloc (.cells (List.replicate 64 Value.nilFunc).toArray o3)).there (w.heap.size+2) 0 64 :=
 (Bx.new _ (List.replicate 64 .nilFunc) o3 (b:=w.heap.size+2) (by simp)).there 0 64 (by simp)
theorem zgn (g:Nat) (w:World):Calls Tryz.prog 90 #[pt g 0] w λe w' =>
 e = .returned (.agg (apL w.heap.size g 24).toArray) /\ ∃ Y,LnAP w g 24 Y/\Below w.heap.size w w'/\(∀ k,k≠w.heap.size+1->w'.heap[k]? = Y.heap[k]?)/\Y.heap.size=w'.heap.size:=by
 go_enter Tryz.func90,Tryz.ntmps90
 go_wp2_with (first
  | (refine wpList_store_mid rfl 130 _ _ rfl (w.heap.size+2) 0 _ rfl rfl (ap_th 91 130 130) zbq (zqB w.heap.size g) ?_
     refine Pl.cutL (LnAP w g 0) (LnAP.start 91 130 130) ?_
     intro Y hY
     have HY:=hid hY
     clear hY))
 go_loopw [10] (λi wr=>∃ k:Nat,k<=24/\i = .int .i64 k/\LnAP w g k wr) (λi _=>24-(intOf i).toNat)
 case atStart=>exact ⟨0,by omega,rfl,HY.out⟩
 case round =>
  obtain ⟨k,hk,rfl,hA⟩:=hrel
  by_cases hlt:k<24
  ·have hlt2:(k:Int)<24:=by omega
   have hlt3:(k:Int)<32:=by omega
   have c1:=hA.b.at 0 (pt g 0) rfl
   have z1:=hA.b.z
   have z2:=hA.l.z
   obtain ⟨v0,hv0⟩:∃ v,(apL w.heap.size g k)[k*2+1]? = some v:=⟨_,by rw [Nat.mul_comm];exact (zcN _ _ 32 k (by omega)).2⟩
   have c2:wr.cell? ⟨w.heap.size+1+1,k*2+1,none⟩=some v0:=hA.l.at _ _ hv0
   have f2:wr.frozen? ⟨w.heap.size+1+1,k*2+1,none⟩=false:=hA.l.f (k*2+1)
   have z3:w.heap.size+1+1<wr.heap.size:=z2
   have HA:=hid hA
   clear hA hv0
   go_wp2_with (go_at_call 179;refine (zjW g k _).mono ?_;rintro e w1 ⟨rfl,hw⟩;obtain ⟨c3,f3,z4⟩:=zr3 hw c2 f2 z3;have HW:=hid hw;clear hw c2 f2 z3 z2)
   go_roundw
   case rel =>
    refine ⟨k+1,by omega,by go_num,?_⟩
    rw [HW.out]
    exact HA.out.next' hlt _ _
   case measure=>simp [intOf];omega
  ·obtain rfl:k=24:=by omega
   have HA:=hid hA
   have z2:=hA.l.z
   have HR:=hid hA.r
   have HL:=hid hA.l
   have hL:=zir w.heap.size g 24
   have HO:=hid (zpF w.heap.size g 24)
   clear hA HY
   generalize hLL:apL w.heap.size g 24=L at HL hL HO
   have HLL:=hid hLL
   have hsz:L.toArray.size=64:=by simp [hL]
   have HTH:Hid (wr.there (w.heap.size+1) 0 L.toArray.size):=hid (by rw [hsz];exact HR.out.there 0 64 (by simp))
   have HIN:Hid ((Tryz.prog.info? 130).map (·.size)=some L.toArray.size):=hid (by rw [hsz];exact zbq)
   clear hLL hsz
   go_wp2_with (first
    | (refine wpList_load_mid rfl 130 _ rfl (w.heap.size+2) 0 rfl L _ HL.out.c Tryz.underlying130 rfl (zbq.trans (by rw [hL])) ?_)
    | (refine wpList_store_mid rfl 130 _ _ rfl (w.heap.size+1) 0 L.toArray rfl rfl HTH.out HIN.out HO.out ?_
       refine Pl.cutL (λX=>Below w.heap.size w X/\(∀ k,k≠w.heap.size+1->X.heap[k]? = wr.heap[k]?)/\wr.heap.size=X.heap.size/\Bx X (w.heap.size+1) L) ⟨?_,?_,?_,?_⟩ ?_
       ·exact Bl.puts HA.out.low (by omega) _
       ·exact λk hk=>zad hk _ _ _
       ·exact (zaQ _ _ _ _).symm
       ·have hx:=HR.out.puts 0 L (by rw [hL];simp)
        rw [zmf _ _ (by rw [hL];simp)] at hx
        exact hx
       rintro X ⟨hX1,hX2,hX3,hX4⟩
       have HX1:=hid hX1
       have HX2:=hid hX2
       have HX3:=hid hX3
       have HX4:=hid hX4
       clear hX1 hX2 hX3 hX4))
   exact bodyPost_ret (v:=.agg L.toArray) (by simp only [results,Tryz.results90];simp;exact Pl.res (load64 hL HX4.out)) rfl ⟨by rw [HLL.out],wr,HA.out,HX1.out,HX2.out,HX3.out⟩
theorem zjY {w:World} {g B:Nat} (hg:w.heap[g]? = some (.cells #[] 5 (0,0))) (hB:B<=g):w.ownsRow B 5 1 (.slice (some ⟨g,0,none⟩) 0 0) ([]:List UInt8).length (bcs []) :=
 ⟨rfl,Or.inr ⟨g,0,#[],rfl,hB,hg,Nat.le_refl _,by decide,by simp,by simp [bcs]⟩⟩
theorem zjc {w:World} {B:Nat} {v:Value} {l:List UInt8} (h:w.ownsRow B 5 1 v l.length (bcs l)):(v = .slice none 0 0/\l=[]) \/ ∃ k cap,v = .slice (some ⟨k,0,none⟩) l.length cap/\l.length<=cap/\B<=k/\Bx w k (bcs l):=by
 rcases h.2 with ⟨rfl,h0⟩|⟨g,cap,cur,rfl,hb,hg,hn,hm,hs,ht⟩
 ·exact Or.inl ⟨rfl,List.length_eq_zero_iff.1 h0⟩
 ·refine Or.inr ⟨g,cap,rfl,hn,hb,(Array.getElem?_eq_some_iff.1 hg).1,λj c hj=>?_,λo=>Lib.frozen_of_heap hg o⟩
  have hjl:=(List.getElem?_eq_some_iff.1 hj).1
  rw [zly] at hjl
  rw [Nat.zero_add,Lib.cell_of_heap hg j]
  have e:cur[j]? = (cur.toList.take (l.length*1))[j]?:=by rw [List.getElem?_take,if_pos (by omega)];simp
  rw [e,ht,hj]
theorem zqC (n c:Nat) (w:World):(binOp .eql 26 (.slice none n c) (.slice none 0 0)).run Tryz.prog w = .ok (.bool true) w:=by kernel_rfl
theorem zr4 (a:Addr) (n c:Nat) (w:World):(binOp .eql 26 (.slice (some a) n c) (.slice none 0 0)).run Tryz.prog w = .ok (.bool false) w:=by kernel_rfl
theorem zhK (v:Value) (l:List UInt8) (w:World) (h:sliceAt w v l) (hl:l.length<=100000) :
 Calls Tryz.prog 160 #[v] w λe w'=>∃ v',e = .returned v'/\w'.ownsRow w.heap.size 5 1 v' l.length (bcs l)/\Below w.heap.size w w':=by
 obtain ⟨a,c,rfl⟩:=zbt h
 cases a with
 | none =>
  have h0:l=[]:=by
   rcases h with ⟨_,_,_,h2⟩|⟨g,o,cap,h1,_⟩
   ·exact h2
   ·cases h1
  subst h0
  have hn:=zqC 0 c
  go_enter Tryz.func160,Tryz.ntmps160
  go_wp2
  go_ret
  exact ⟨_,rfl,⟨rfl,Or.inl ⟨rfl,rfl⟩⟩,st0 _⟩
 | some a =>
  have hn:=zr4 a l.length c
  have H:=hid h
  clear h
  go_enter Tryz.func160,Tryz.ntmps160
  go_wp2_with (at_builtin;refine zdQ (by rfl) _ _ (by rfl) w.heap.size _ ([]:List UInt8) (by rfl) (zjY (heap_alloc_new w _) (Nat.le_refl _)) _ (by rfl) l (H.out.kept (stA (st0 w) _)) (by simp;exact hl) (by simp) ?_;intro v' w' hown' hb')
  go_ret
  exact ⟨_,rfl,by simpa using hown',(stA (st0 w) _).trans hb'⟩
def Sl.get (S:Sl) (j:Nat):Value:=match j with|0=>S.mr|1=>S.ar|2=>S.ra|3=>S.ow|_=>S.vi
def Sl.set (S:Sl) (j:Nat) (v:Value):Sl:=match j with|0=>{ S with mr:=v }|1=>{ S with ar:=v }|2=>{ S with ra:=v }|3=>{ S with ow:=v }|_=>{ S with vi:=v }
def Mach.byt (M:Mach) (j:Nat):List UInt8:=match j with|0=>M.mrom|1=>M.arom|2=>M.ram|3=>M.own|_=>M.video
theorem five {j:Nat} (h:j<5):j=0 \/ j=1 \/ j=2 \/ j=3 \/ j=4:=by omega
theorem Sl.get_set (S:Sl) (i j:Nat) (v:Value) (hi:i<5) (hj:j<5):(S.set i v).get j=if j=i then v else S.get j:=by
 rcases five hi with rfl|rfl|rfl|rfl|rfl <;> rcases five hj with rfl|rfl|rfl|rfl|rfl <;> rfl
theorem zjd (M:Mach) (S:Sl) (j:Nat) (hj:j<5):(machL M S)[30+j]? = some (S.get j):=by
 rcases five hj with rfl|rfl|rfl|rfl|rfl <;> rfl
theorem zmg (M:Mach) (S:Sl) (j:Nat) (v:Value) (hj:j<5):(machL M S).set (30+j) v=machL M (S.set j v):=by
 rcases five hj with rfl|rfl|rfl|rfl|rfl <;> rfl
theorem zaa:(Tryz.prog.info? 41).map (·.size)=some 75:=by kernel_rfl
theorem zhL {Y:World} {b o:Nat} (M:Mach) (S:Sl) (h:Y.rangeAt b o (machL M S)):(loadVar 41 ⟨b,o,none⟩).run Tryz.prog Y = .ok (.agg (machL M S).toArray) Y :=
 run_loadVar_mid Y b o 41 _ _ h Tryz.underlying41 rfl zaa
def Sl.isSl (S:Sl):Prop:=∀ j,j<5->∃ a n c,S.get j = .slice a n c
theorem zaw (M:Mach) (S:Sl) (h:S.isSl):(machL M S).toArray.all (·.oneCell')=true:=by
 obtain ⟨a0,n0,c0,e0⟩:=h 0 (by omega)
 obtain ⟨a1,n1,c1,e1⟩:=h 1 (by omega)
 obtain ⟨a2,n2,c2,e2⟩:=h 2 (by omega)
 obtain ⟨a3,n3,c3,e3⟩:=h 3 (by omega)
 obtain ⟨a4,n4,c4,e4⟩:=h 4 (by omega)
 simp only [Sl.get] at e0 e1 e2 e3 e4
 unfold machL cpuL slL restL
 rw [e0,e1,e2,e3,e4]
 simp [Value.oneCell']
def zeroM:Mach:=⟨C.Cpu.zero,C.Cpu.zero,[],[],[],[],[],⟨0,false,0⟩,⟨0,false,0⟩,⟨0,0,false,false⟩,⟨⟨0,0,0,false,0⟩,⟨0,0,0,false,0⟩,⟨0,0,0,false,0⟩,0⟩,⟨0,0,false,0⟩,0,0,false,false,0,0,false,0,0,0⟩
def nilS:Sl:=⟨.slice none 0 0,.slice none 0 0,.slice none 0 0,.slice none 0 0,.slice none 0 0⟩
def OwnAt (B:Nat) (M:Mach) (S:Sl) (Y:World) (j:Nat):Prop:=(S.get j = .slice none 0 0/\M.byt j=[]) \/ ∃ b cap,S.get j = .slice (some ⟨b,0,none⟩) (M.byt j).length cap/\(M.byt j).length<=cap/\B<=b/\Bx Y b (bcs (M.byt j))
structure OwnK (B : Nat) (M : Mach) (S : Sl) (k : Nat) (Y : World) : Prop where
 own:∀ j,j<k->OwnAt B M S Y j
 dist:∀ i j b b' n c n' c',i<k->j<k->i≠j->S.get i = .slice (some ⟨b,0,none⟩) n c->S.get j = .slice (some ⟨b',0,none⟩) n' c'->b≠b'
theorem OwnAt.same {B:Nat} {M:Mach} {S:Sl} {Y Y':World} {j:Nat} (h:OwnAt B M S Y j) (hz:Y.heap.size<=Y'.heap.size) (e:∀ b,B<=b->b<Y.heap.size->Y'.heap[b]? = Y.heap[b]?):OwnAt B M S Y' j:=by
 rcases h with h|⟨b,cap,h1,h2,h3,h4⟩
 ·exact Or.inl h
 ·exact Or.inr ⟨b,cap,h1,h2,h3,h4.same hz (e b h3 h4.z)⟩
theorem OwnK.same {B:Nat} {M:Mach} {S:Sl} {k:Nat} {Y Y':World} (h:OwnK B M S k Y) (hz:Y.heap.size<=Y'.heap.size) (e:∀ b,B<=b->b<Y.heap.size->Y'.heap[b]? = Y.heap[b]?):OwnK B M S k Y' :=
 ⟨λj hj=>(h.own j hj).same hz e,h.dist⟩
theorem OwnK.isSl {B:Nat} {M:Mach} {S:Sl} {Y:World} (h:OwnK B M S 5 Y):S.isSl:=λj hj=>by
 rcases h.own j hj with ⟨e,_⟩|⟨b,cap,e,_⟩
 ·exact ⟨_,_,_,e⟩
 ·exact ⟨_,_,_,e⟩
structure CP (w : World) (M : Mach) (S0 : Sl) (k : Nat) (S : Sl) (Y : World) : Prop where
 low:Below w.heap.size w Y
 bx:Bx Y w.heap.size (machL M S)
 res:Bx Y (w.heap.size+1) (machL zeroM nilS)
 ptr:Bx Y (w.heap.size+2) [pt w.heap.size 30,pt w.heap.size 31,pt w.heap.size 32,pt w.heap.size 33,pt w.heap.size 34]
 own:OwnK (w.heap.size+3) M S k Y
 todo:∀ j,j<5->k<=j->S.get j=S0.get j
theorem CP.next {w Y w1:World} {M:Mach} {S0 S:Sl} {k:Nat} {v:Value} (h:CP w M S0 k S Y) (hk:k<5) (ho:w1.ownsRow Y.heap.size 5 1 v (M.byt k).length (bcs (M.byt k))) (hb:Below Y.heap.size Y w1) :
 CP w M S0 (k+1) (S.set k v) (w1.setCell ⟨w.heap.size,30+k,none⟩ v):=by
 have hz:=h.ptr.z
 have hz1:=hb.size
 have hsame:∀ b,w.heap.size+3<=b->b<Y.heap.size->(w1.setCell ⟨w.heap.size,30+k,none⟩ v).heap[b]? = Y.heap[b]?:=λb h1 h2=>(zab (by omega)).trans (hb.block b h2)
 have hold:=h.own.same (Y':=w1.setCell ⟨w.heap.size,30+k,none⟩ v) (by rw [zas];exact hz1) hsame
 have hlen:30+k<(machL M S).length:=by rw [zae];omega
 refine ⟨(stp h.low hb).setCell (Nat.le_refl _) _,?_,(h.res.kept hb).far (by omega) _,(h.ptr.kept hb).far (by omega) _,⟨λj hj=>?_,λi j b b' n c n' c' hi hj hij e1 e2=>?_⟩,λj hj hkj=>?_⟩
 ·rw [<- zmg M S k v hk]
  exact (h.bx.kept hb).set _ _ hlen
 ·unfold OwnAt
  rw [S.get_set k j v hk (by omega)]
  by_cases e:j=k
  ·subst e
   rw [if_pos rfl]
   rcases zjc ho with ⟨e1,e2⟩|⟨b,cap,e1,e2,e3,e4⟩
   ·exact Or.inl ⟨e1,e2⟩
   ·exact Or.inr ⟨b,cap,e1,e2,by omega,e4.far (by omega) _⟩
  ·rw [if_neg e]
   exact hold.own j (by omega)
 ·rw [S.get_set k i v hk (by omega)] at e1
  rw [S.get_set k j v hk (by omega)] at e2
  by_cases ei:i=k
  ·by_cases ej:j=k
   ·omega
   ·rw [if_pos ei] at e1
    rw [if_neg ej] at e2
    have hbn:Y.heap.size<=b:=by
     rcases zjc ho with ⟨x1,_⟩|⟨bb,cap,x1,_,x3,_⟩
     ·rw [x1] at e1;cases e1
     ·rw [x1] at e1;cases e1;exact x3
    rcases h.own.own j (by omega) with ⟨x1,_⟩|⟨bb,cap,x1,_,_,x4⟩
    ·rw [x1] at e2;cases e2
    ·rw [x1] at e2;cases e2;have:=x4.z;omega
  ·rw [if_neg ei] at e1
   by_cases ej:j=k
   ·rw [if_pos ej] at e2
    have hbn:Y.heap.size<=b':=by
     rcases zjc ho with ⟨x1,_⟩|⟨bb,cap,x1,_,x3,_⟩
     ·rw [x1] at e2;cases e2
     ·rw [x1] at e2;cases e2;exact x3
    rcases h.own.own i (by omega) with ⟨x1,_⟩|⟨bb,cap,x1,_,_,x4⟩
    ·rw [x1] at e1;cases e1
    ·rw [x1] at e1;cases e1;have:=x4.z;omega
   ·rw [if_neg ej] at e2
    exact h.own.dist i j b b' n c n' c' (by omega) (by omega) hij e1 e2
 ·rw [S.get_set k j v hk hj,if_neg (by omega)]
  exact h.todo j hj (by omega)
theorem zr5 (z k:Nat) (hk:k<5):([pt z 30,pt z 31,pt z 32,pt z 33,pt z 34]:List Value)[k]? = some (pt z (30+k)):=by
 rcases five hk with rfl|rfl|rfl|rfl|rfl <;> rfl
theorem zgo:nilS.isSl:=λj hj=>by rcases five hj with rfl|rfl|rfl|rfl|rfl <;> exact ⟨_,_,_,rfl⟩
theorem CP.start (w:World) (M:Mach) (S:Sl) (o1 o2 o3:TypeId):CP w M S 0 S (((w.alloc (.cells (machL M S).toArray o1)).alloc (.cells (machL zeroM nilS).toArray o2)).alloc (.cells #[pt w.heap.size 30,pt w.heap.size 31,pt w.heap.size 32,pt w.heap.size 33,pt w.heap.size 34] o3)) :=
 ⟨stA (stA (stA (st0 w) _) _) _,((Bx.new w (machL M S) o1 rfl).over _).over _,(Bx.new (w.alloc _) (machL zeroM nilS) o2 (by simp)).over _,Bx.new _ [pt w.heap.size 30,pt w.heap.size 31,pt w.heap.size 32,pt w.heap.size 33,pt w.heap.size 34] o3 (by simp),⟨λj hj=>by omega,λi j b b' n c n' c' hi=>by omega⟩,λj _ _=>rfl⟩
theorem zje {w:World} {B:Nat} {v:Value} {l:List UInt8} (h:w.ownsRow B 5 1 v l.length (bcs l)):∃ a n c,v = .slice a n c:=by
 rcases zjc h with ⟨e,_⟩|⟨k,cap,e,_⟩
 ·exact ⟨_,_,_,e⟩
 ·exact ⟨_,_,_,e⟩
theorem zr6 {Y w1:World} {x o:Nat} {v:Value} (hb:Below Y.heap.size Y w1) (hc:Y.cell? ⟨x,o,none⟩=some v) (hf:Y.frozen? ⟨x,o,none⟩=false) (hz:x<Y.heap.size):w1.cell? ⟨x,o,none⟩=some v/\w1.frozen? ⟨x,o,none⟩=false/\x<w1.heap.size :=
 ⟨(hb.cell (p:=⟨x,o,none⟩) hz).trans hc,(hb.frozen (p:=⟨x,o,none⟩) hz).trans hf,Nat.lt_of_lt_of_le hz hb.size⟩
theorem zau (L L':List Value) (h:L'.length=L.length):putL L 0 L'=L':=by
 have:=zbn [] L' L [] h
 simpa using this
theorem zis (M:Mach) (S:Sl) (w:World) (hs:∀ j,j<5->sliceAt w (S.get j) (M.byt j)) (hl:∀ j,j<5->(M.byt j).length<=100000) :
 Calls Tryz.prog 86 #[.agg (machL M S).toArray] w λe w'=>∃ S',e = .returned (.agg (machL M S').toArray)/\OwnK (w.heap.size+3) M S' 5 w'/\Below w.heap.size w w':=by
 go_enter Tryz.func86,Tryz.ntmps86
 go_wp2
 refine Pl.cutW (CP w M S 0 S) (CP.start w M S _ _ _) ?_
 intro Y hY
 have HY:=hid hY
 clear hY
 go_loopw [12] (λi wr=>∃ (k:Nat) (S1:Sl),k<=5/\i = .int .i64 k/\CP w M S k S1 wr) (λi _=>5-(intOf i).toNat)
 case atStart=>exact ⟨0,S,by omega,rfl,HY.out⟩
 case round =>
  obtain ⟨k,S1,hk,rfl,hC⟩:=hrel
  clear HY
  by_cases hlt:k<5
  ·have hlt2:(k:Int)<5:=by omega
   have c1:=hC.ptr.at k _ (zr5 _ k hlt)
   have c2:=hC.bx.at (30+k) _ (zjd M S1 k hlt)
   have e0:=hC.todo k hlt (Nat.le_refl _)
   rw [e0] at c2
   have z1:=hC.ptr.z
   have z0:=hC.bx.z
   have hsl:=hid ((hs k hlt).kept hC.low)
   have hll:=hl k hlt
   have HC:=hid hC
   clear hC e0 hs hl
   go_wp2_with (go_at_call 160;refine (zhK _ (M.byt k) _ hsl.out hll).mono ?_;rintro e w1 ⟨v',rfl,hown,hb1⟩;obtain ⟨av,nv,cv,rfl⟩:=zje hown;have HO:=hid hown;have HB:=hid hb1;obtain ⟨d1,d2,d3⟩:=zr6 hb1 c2 (HC.out.bx.f (30+k)) z0;clear hown hb1)
   go_roundw
   case rel=>exact ⟨k+1,S1.set k (.slice av nv cv),by omega,by go_num,HC.out.next hlt HO.out HB.out⟩
   case measure=>simp [intOf];omega
  ·obtain rfl:k=5:=by omega
   have z0:=hC.bx.z
   have z1:=hC.res.z
   have HC:=hid hC
   have HONE:=hid (zaw M S1 hC.own.isSl)
   clear hC hs hl
   go_wp2_with (first
    | (refine wpList_load_mid rfl 41 _ rfl w.heap.size 0 rfl (machL M S1) _ HC.out.bx.c Tryz.underlying41 rfl zaa ?_)
    | (refine wpList_store_mid rfl 41 _ _ rfl (w.heap.size+1) 0 (machL M S1).toArray rfl rfl (HC.out.res.there 0 75 (by rw [zae];omega)) zaa HONE.out ?_
       refine Pl.cutL (λX=>Below w.heap.size w X/\Bx X (w.heap.size+1) (machL M S1)/\OwnK (w.heap.size+3) M S1 5 X) ⟨?_,?_,?_⟩ ?_
       ·exact Bl.puts HC.out.low (by omega) _
       ·have hx:=HC.out.res.puts 0 (machL M S1) (by rw [zae,zae];omega)
        rw [zau _ _ (by rw [zae,zae])] at hx
        exact hx
       ·exact HC.out.own.same (Nat.le_of_eq (zaQ _ _ _ _).symm) (λb h1 h2=>zad (by omega) _ _ _)
       rintro X ⟨hX1,hX2,hX3⟩
       have HX1:=hid hX1
       have HX2:=hid hX2
       have HX3:=hid hX3
       clear hX1 hX2 hX3))
   exact bodyPost_ret (v:=.agg (machL M S1).toArray) (by simp only [results,Tryz.results86];simp;exact Pl.res (zhL M S1 HX2.out.c)) rfl ⟨S1,rfl,HX3.out,HX1.out⟩
def Mach.chk (M:Mach):Int :=
 if M.mrom.length<=1024/\M.arom.length<=1024 then
  if M.ram.length=128/\M.own.length=64/\M.video.length=256 then
   if 0<=M.s.w/\M.s.w<=15 then
    if bok M.b.l M.b.a M.b.f then
     if (0<=M.clock/\M.clock<=200000)/\(0<=M.mready/\M.mready<=M.clock+20000)/\(0<=M.aready/\M.aready<=M.clock+20000) then 0 else 3
    else 3
   else 3
  else 4
 else 2
theorem zgp {M:Mach} (hok:M.ok) (h:M.chk=0):M.fit:=by
 unfold Mach.chk at h
 split at h
 ·rename_i h1
  split at h
  ·rename_i h2
   split at h
   ·rename_i h3
    split at h
    ·rename_i h4
     split at h
     ·rename_i h5
      have hb:=(zax _ _ _).1 h4
      exact ⟨hok,h1.1,h1.2,h2.1,h2.2.1,h2.2.2,h3,⟨hb.l0,hb.l1,hb.a0,hb.a1,hb.f0,Int.le_trans hb.f1 (by decide)⟩,h5.1,h5.2.1,h5.2.2⟩
     ·cases h
    ·cases h
   ·cases h
  ·cases h
 ·cases h
theorem zqD {M:Mach} (h:M.fit) (hf2:M.b.f<=20000):M.chk=0:=by
 unfold Mach.chk
 rw [if_pos ⟨h.mrom,h.arom⟩,if_pos ⟨h.ram,h.own,h.video⟩,if_pos h.w,if_pos ((zax _ _ _).2 ⟨h.b.l0,h.b.l1,h.b.a0,h.b.a1,h.b.f0,hf2⟩),if_pos ⟨h.clock,h.mready,h.aready⟩]
theorem zmh {M:Mach} (h:M.chk=0):M.b.f<=20000:=by
 unfold Mach.chk at h
 split at h
 ·split at h
  ·split at h
   ·split at h
    ·rename_i h4
     exact ((zax _ _ _).1 h4).f1
    ·cases h
   ·cases h
  ·cases h
 ·cases h
def Sl.lens (S:Sl) (M:Mach):Prop:=∀ j,j<5->∃ a c,S.get j = .slice a (M.byt j).length c
theorem Bx.sndR {Y:World} {b:Nat} {M:Mach} {S:Sl} (h:Bx Y b (machL M S)):Y.rangeAt b 45 (sndL M.s):=λi v hi=>by
 refine h.at (45+i) v ?_
 have hl:=(List.getElem?_eq_some_iff.1 hi).1
 have hc:i=0 \/ i=1 \/ i=2 \/ i=3 \/ i=4 \/ i=5 \/ i=6 \/ i=7 \/ i=8 \/ i=9 \/ i=10 \/ i=11 \/ i=12 \/ i=13 \/ i=14 \/ i=15:=by simp [sndL] at hl;omega
 rcases hc with rfl|rfl|rfl|rfl|rfl|rfl|rfl|rfl|rfl|rfl|rfl|rfl|rfl|rfl|rfl|rfl <;> exact hi
def halfL (M:Mach) (S:Sl) (A B:List Value):List Value:=machL M S++([.int .i64 0,.slice none 0 0]++(A++B))
def nil66:List Value:=.pointer none :: .nilFunc::List.replicate 64 .nilFunc
theorem zbh:nil66.length=66:=by simp [nil66]
theorem zcR (M:Mach) (S:Sl) (A B:List Value) (hA:A.length=66) (hB:B.length=66):(halfL M S A B).length=209:=by
 unfold halfL
 simp only [List.length_append,zae,hA,hB]
 rfl
theorem zjZ (M:Mach) (S:Sl) (A A' B:List Value) (h:A'.length=A.length):putL (halfL M S A B) 77 A'=halfL M S A' B:=by
 have e:∀ X:List Value,halfL M S X B=(machL M S++[.int .i64 0,.slice none 0 0])++(X++B):=λX=>by unfold halfL;simp only [List.append_assoc]
 rw [e A,e A']
 exact zbn B A' A (machL M S++[.int .i64 0,.slice none 0 0]) h
theorem zj0 (M:Mach) (S:Sl) (A B B':List Value) (hA:A.length=66) (h:B'.length=B.length):putL (halfL M S A B) 143 B'=halfL M S A B':=by
 have e:∀ X:List Value,halfL M S A X=((machL M S++[.int .i64 0,.slice none 0 0])++A)++(X++[]):=λX=>by unfold halfL;simp only [List.append_assoc,List.append_nil]
 rw [e B,e B']
 have hl:((machL M S++[Value.int .i64 0,.slice none 0 0])++A).length=143:=by simp only [List.length_append,zae,hA];rfl
 rw [<- hl]
 exact zbn [] B' B _ h
theorem zhM:(Tryz.prog.info? 132).map (·.size)=some 66:=by kernel_rfl
def boE (n:Nat) (a:Nat):Env:={ mE n with ab:=a,sb:=λk=>a+3+2*k,sa:=λk=>a+4+2*k }
theorem wpList_build {P:Program} {ops:Array Oper} {rest:List Oper} {op:Oper} {a:Act} {w:World} {Q:Exit->Act->World->Prop} (hgd:op.guard=none) (t:TypeId) (parts:Array (Nat × Operand)) (ho:op.op = .build t parts) (v:Value)
 (hrun:(Instr.build t (parts.map λ(i,x)=>(i,a.eval x))).run P w = .ok v w) (h:wpList P ops Q rest (a.put op.dst v) w):wpList P ops Q (op::rest) a w :=
 wpList_plain hgd λK hK=>by
  unfold Oper.wp execOp
  simp only [ho,Sem.run_bind,hrun,Result.andThen_ok,Sem.run_pure]
  exact hK _ _ h
theorem zmi (M:Mach) (S:Sl) (w:World):(Instr.build 134 #[(0,.agg (machL M S).toArray)]).run Tryz.prog w = .ok (.agg (halfL M S nil66 nil66).toArray) w:=by kernel_rfl
theorem zfc {P:Program} {a:Act} {o:Oper} {w:World} (t:TypeId) (parts:Array (Nat × Operand)) (ho:o.op = .build t parts) (v:Value) (hrun:(Instr.build t (parts.map λ(i,x)=>(i,a.eval x))).run P w = .ok v w):(execOp a.eval o).run P w = .ok (.value v) w:=by
 unfold execOp
 simp only [ho,Sem.run_bind,hrun,Result.andThen_ok,Sem.run_pure]
theorem zd0 {B g:Nat} {M:Mach} {S:Sl} {Y:World} {j:Nat} (h:OwnAt B M S Y j):∃ k,Rw Y (S.get j) k (M.byt j)/\((k=g+1/\S.get j = .slice none 0 0) \/ (B<=k/\k<Y.heap.size /\ ∃ n c,S.get j = .slice (some ⟨k,0,none⟩) n c)):=by
 rcases h with ⟨e1,e2⟩|⟨b,cap,e1,e2,e3,e4⟩
 ·exact ⟨g+1,Or.inl ⟨e1,e2⟩,Or.inl ⟨rfl,e1⟩⟩
 ·exact ⟨b,Or.inr ⟨cap,e1,e2,e4⟩,Or.inr ⟨e3,e4.z,_,_,e1⟩⟩
def sM (g n:Nat):List Value:=pt g 30::mval 87 g 0::portsN (fxE g (mE n)).rdM (fxE g (mE n)).wrM 32
def sA (g a:Nat):List Value:=pt g 31::mval 89 g 0::apL a g 24
theorem zfd (g n:Nat):(sM g n).length=66:=by unfold sM;simp [zaD]
theorem zjf (g n:Nat):(sA g n).length=66:=by unfold sA;simp [zir]
theorem zj1 (B g k0 k1 k2 k3 k4 n a:Nat) (S:Sl) (M:Mach):(Fx.mk B g k0 k1 k2 k3 k4 S (boE n a)).cells M Tk.zero=halfL M S (sM g n) (sA g a):=by kernel_rfl
theorem Bd.make {w2 w5:World} {M:Mach} {S1:Sl} {B B1 n a:Nat} (hO:OwnK B1 M S1 5 w2) (hB:B<=B1) (hB2:B1<=w2.heap.size) (hf:M.fit) (hbx:Bx w5 w2.heap.size (halfL M S1 (sM w2.heap.size n) (sA w2.heap.size a))) (hk:∀ b,b<w2.heap.size->w5.heap[b]? = w2.heap[b]?)
 (hE:EnvM w2.heap.size (mE n) w5) (hn:w2.heap.size<n) (hA:Bx w5 a [pt w2.heap.size 0] /\ ∀ k,k<24->Bx w5 (a+3+2*k) [pt w2.heap.size 0]/\Bx w5 (a+4+2*k) [.int .i64 k]) (ha:w2.heap.size<a) :
 ∃ F:Fx,F.B=B/\F.g=w2.heap.size/\(F.B<=F.mr/\F.B<=F.ar)/\Bd F w5 M Tk.zero:=by
 obtain ⟨k0,r0,d0⟩:=zd0 (g:=w2.heap.size) (hO.own 0 (by omega))
 obtain ⟨k1,r1,d1⟩:=zd0 (g:=w2.heap.size) (hO.own 1 (by omega))
 obtain ⟨k2,r2,d2⟩:=zd0 (g:=w2.heap.size) (hO.own 2 (by omega))
 obtain ⟨k3,r3,d3⟩:=zd0 (g:=w2.heap.size) (hO.own 3 (by omega))
 obtain ⟨k4,r4,d4⟩:=zd0 (g:=w2.heap.size) (hO.own 4 (by omega))
 have hz:=hbx.z
 have r0':Rw w5 S1.mr k0 M.mrom:=r0.same (by omega) (λh=>hk _ h)
 have r1':Rw w5 S1.ar k1 M.arom:=r1.same (by omega) (λh=>hk _ h)
 have r2':Rw w5 S1.ra k2 M.ram:=r2.same (by omega) (λh=>hk _ h)
 have r3':Rw w5 S1.ow k3 M.own:=r3.same (by omega) (λh=>hk _ h)
 have r4':Rw w5 S1.vi k4 M.video:=r4.same (by omega) (λh=>hk _ h)
 have n2:S1.get 2 ≠ .slice none 0 0:=λe=>by
  obtain ⟨cap,e1,_⟩:=r2'.some (by rw [hf.ram];omega)
  have:S1.get 2=S1.ra:=rfl
  rw [this,e1] at e;cases e
 have n3:S1.get 3 ≠ .slice none 0 0:=λe=>by
  obtain ⟨cap,e1,_⟩:=r3'.some (by rw [hf.own];omega)
  have:S1.get 3=S1.ow:=rfl
  rw [this,e1] at e;cases e
 have n4:S1.get 4 ≠ .slice none 0 0:=λe=>by
  obtain ⟨cap,e1,_⟩:=r4'.some (by rw [hf.video];omega)
  have:S1.get 4=S1.vi:=rfl
  rw [this,e1] at e;cases e
 rcases d2 with ⟨_,e⟩|⟨b2,z2,_,_,e2⟩
 ·exact absurd e n2
 rcases d3 with ⟨_,e⟩|⟨b3,z3,_,_,e3⟩
 ·exact absurd e n3
 rcases d4 with ⟨_,e⟩|⟨b4,z4,_,_,e4⟩
 ·exact absurd e n4
 have x23:=hO.dist 2 3 _ _ _ _ _ _ (by omega) (by omega) (by omega) e2 e3
 have x24:=hO.dist 2 4 _ _ _ _ _ _ (by omega) (by omega) (by omega) e2 e4
 have x34:=hO.dist 3 4 _ _ _ _ _ _ (by omega) (by omega) (by omega) e3 e4
 have y0:k0≠w2.heap.size/\k0≠k2/\k0≠k3/\k0≠k4:=by
  rcases d0 with ⟨e,_⟩|⟨_,z0,_,_,e0⟩
  ·omega
  ·have:=hO.dist 0 2 _ _ _ _ _ _ (by omega) (by omega) (by omega) e0 e2
   have:=hO.dist 0 3 _ _ _ _ _ _ (by omega) (by omega) (by omega) e0 e3
   have:=hO.dist 0 4 _ _ _ _ _ _ (by omega) (by omega) (by omega) e0 e4
   exact ⟨by omega,by assumption,by assumption,by assumption⟩
 have y1:k1≠w2.heap.size/\k1≠k2/\k1≠k3/\k1≠k4:=by
  rcases d1 with ⟨e,_⟩|⟨_,z0,_,_,e0⟩
  ·omega
  ·have:=hO.dist 1 2 _ _ _ _ _ _ (by omega) (by omega) (by omega) e0 e2
   have:=hO.dist 1 3 _ _ _ _ _ _ (by omega) (by omega) (by omega) e0 e3
   have:=hO.dist 1 4 _ _ _ _ _ _ (by omega) (by omega) (by omega) e0 e4
   exact ⟨by omega,by assumption,by assumption,by assumption⟩
 have hT:∀ x,w2.heap.size<x->¬ (x=w2.heap.size \/ x=k2 \/ x=k3 \/ x=k4):=λx hx h=>by omega
 obtain ⟨E0,E1,E2,E3,E4,E5,E6,E7,E8,E9,E10⟩:=hE
 refine ⟨⟨B,w2.heap.size,k0,k1,k2,k3,k4,S1,boE n a⟩,rfl,rfl,⟨by show B<=k0;rcases d0 with ⟨e,_⟩|⟨e,_⟩ <;> omega,by show B<=k1;rcases d1 with ⟨e,_⟩|⟨e,_⟩ <;> omega⟩,by show Bx w5 w2.heap.size ((Fx.mk B w2.heap.size k0 k1 k2 k3 k4 S1 (boE n a)).cells M Tk.zero);rw [zj1];exact hbx,r0',r1',r2',r3',r4',λx v hx=>?_,⟨⟨by show B<=w2.heap.size;omega,by show B<=k2;omega,by show B<=k3;omega,by show B<=k4;omega⟩,⟨by show w2.heap.size≠k2;omega,by show w2.heap.size≠k3;omega,by show w2.heap.size≠k4;omega,x23,x24,x34⟩,λh=>?_,λh=>?_,λx v hx=>?_⟩,hf,by show B<=w5.heap.size;omega,World.ownsRow_nil _ _ _ _,λk hk=>by cases hk⟩
 ·cases hx
  ·exact ⟨E0.z,E0.at 0 _ rfl⟩
  ·exact ⟨E1.z,E1.at 0 _ rfl⟩
  ·exact ⟨E2.z,E2.at 0 _ rfl⟩
  ·exact ⟨E3.z,E3.at 0 _ rfl⟩
  ·exact ⟨E4.z,E4.at 0 _ rfl⟩
  ·exact ⟨E5.z,E5.at 0 _ rfl⟩
  ·exact ⟨E6.z,E6.at 0 _ rfl⟩
  ·exact ⟨E7.z,E7.at 0 _ rfl⟩
  ·exact ⟨E8.z,E8.at 0 _ rfl⟩
  ·exact ⟨E9.z,E9.at 0 _ rfl⟩
  ·exact ⟨E10.z,E10.at 0 _ rfl⟩
  ·exact ⟨hA.1.z,hA.1.at 0 _ rfl⟩
  ·rename_i i hi
   exact ⟨(hA.2 i hi).1.z,(hA.2 i hi).1.at 0 _ rfl⟩
  ·rename_i i hi
   exact ⟨(hA.2 i hi).2.z,(hA.2 i hi).2.at 0 _ rfl⟩
 ·have h':k0=w2.heap.size \/ k0=k2 \/ k0=k3 \/ k0=k4:=h
  omega
 ·have h':k1=w2.heap.size \/ k1=k2 \/ k1=k3 \/ k1=k4:=h
  omega
 ·refine hT x ?_
  cases hx
  ·show w2.heap.size<n+1;omega
  ·show w2.heap.size<n+2;omega
  ·show w2.heap.size<n+3;omega
  ·show w2.heap.size<n+4;omega
  ·show w2.heap.size<n+5;omega
  ·show w2.heap.size<n+6;omega
  ·show w2.heap.size<n+7;omega
  ·show w2.heap.size<n+8;omega
  ·show w2.heap.size<n+9;omega
  ·show w2.heap.size<n+10;omega
  ·show w2.heap.size<n+11;omega
  ·exact ha
  ·rename_i i hi
   show w2.heap.size<a+3+2*i;omega
  ·rename_i i hi
   show w2.heap.size<a+4+2*i;omega
end Go.Proofs.YtbennamieealbaaGreatDoor
