/-
  Parts of a proof, joined.
-/
import Derived.Test.YtbennamieealbaaGreatDoorZg29
import Derived.Lib.SlBuf
import Derived.Laws.IdiomCopy
import Derived.Deep.RegionLaw
set_option linter.unusedVariables false
set_option maxRecDepth 100000
set_option maxHeartbeats 1600000
namespace Go.Proofs.YtbennamieealbaaGreatDoor
open Go.ChangeShapes Go.WideShapes Go.ChangeAt Go.RowKit
theorem zlN:(Tryz.prog.info? 3).map (λi=>(i.zero,i.size,i.bytes))=some (some (.int .i64 0),1,8):=by kernel_rfl
def ics (l:List Nat):List Value:=l.map (λc:Nat=>Value.int .i64 (c:Int))
theorem zhT (a b:List Nat):ics a++ics b=ics (a++b):=by simp [ics]
theorem app1i {ops:Array Oper} {rest:List Oper} {o:Oper} {a:Act} {w:World} {Q:Exit->Act->World->Prop} (hgd:o.guard=none) (s x:Operand) (ho:o.op = .call { callee:=.builtin .append,args:=#[s,x],argTypes:=#[216,216] })
 (B:Nat) (v:Value) (xs:List Nat) (hs:a.eval s=v) (hown:w.ownsRow B 3 1 v xs.length (ics xs)) (g c:Nat) (y:Nat) (z:Int) (hx:a.eval x = .slice (some ⟨g,0,none⟩) 1 c) (hc:w.cell? ⟨g,0,none⟩=some (.int .i64 z)) (hz:z=y) (hl:xs.length<=50000) (hB:B<=w.heap.size)
 (h:∀ v' w',w'.ownsRow B 3 1 v' (xs++[y]).length (ics (xs++[y]))->Below B w w'->wpList Tryz.prog ops Q rest (a.put o.dst v') w'):wpList Tryz.prog ops Q (o::rest) a w:=by
 obtain ⟨i0,hi0,hz0,hz1,hz2⟩:=info_parts zlN
 subst hz
 refine wpList_append_own _ hgd s x _ ho B 3 i0 _ 1 8 Tryz.underlying216 hi0 hz0 hz1 hz2 rfl (by omega) v xs.length (ics xs) hs hown ⟨g,0,none⟩ 1 c [.int .i64 y] hx rfl (λj u hj=>?_) (λu hu=>?_) (by unfold maxLen;omega) (by omega) hB ?_
 ·match j,hj with
  | 0,hj =>
   simp only [List.getElem?_cons_zero,Option.some.injEq] at hj
   rw [<- hj,addr_add];exact hc
 ·simp only [List.mem_singleton] at hu;rw [hu];rfl
 ·intro v' w' hown' hgrow _
  refine h _ w' ?_ ((Below.refl B w).grown hgrow hB (λk hk=>(hown.lt k hk).1))
  rw [List.length_append,<- zhT];exact hown'
theorem zjV (m:List UInt8) (y:Nat) {j n:Nat} (h:j<=n):drS m y j <+: drS m y n:=by
 unfold drS
 obtain ⟨d,rfl⟩:=Nat.exists_eq_add_of_le h
 rw [List.range_add,List.filter_append]
 exact ⟨_,rfl⟩
theorem znB {m:List UInt8} {y j:Nat} (h:j<8) (h2:(drS m y j).length=2) (ho:onS m y j=true):(drS m y 8).take 2=drS m y j/\decide (2<(drS m y 8).length)=true:=by
 have h1:=zjV m y (show j<=8 by omega)
 have h3:=zjV m y (show j+1<=8 by omega)
 have hl:(drS m y (j+1)).length=3:=by rw [zfn,if_pos ho];simp [h2]
 refine ⟨?_,decide_eq_true ?_⟩
 ·have:=List.prefix_iff_eq_take.1 h1
  rw [h2] at this
  exact this.symm
 ·have:=h3.length_le
  omega
theorem zjW (m:List UInt8) (y k:Nat):decide ((lnS m k:Int)<=(y:Int)/\(y:Int)<(lnS m k:Int)+4)=onS m y k:=by
 unfold onS
 rw [decide_eq_decide]
 omega
theorem ln_bd (m:List UInt8) (k:Nat):0<=(lnS m k:Int)/\(lnS m k:Int)<=255:=by have:lnS m k<256:=gb_lt _ _;omega
theorem zjX {w:World} {B:Nat} {v:Value} {n:Nat} {xs:List Value} (h:w.ownsRow B 3 1 v n xs):∃ a c,v = .slice a n c:=by
 rcases h.2 with ⟨rfl,rfl⟩|⟨g,cap,cur,rfl,_⟩
 ·exact ⟨_,_,rfl⟩
 ·exact ⟨_,_,rfl⟩
theorem zaU {w w':World} {B:Nat} {v:Value} {n:Nat} {xs:List Value} (h:w.ownsRow B 3 1 v n xs) (hb:Below w.heap.size w w'):w'.ownsRow B 3 1 v n xs:=by
 refine ⟨h.1,?_⟩
 rcases h.2 with h2|⟨g,cap,cur,rfl,hb',hg,r⟩
 ·exact Or.inl h2
 ·exact Or.inr ⟨g,cap,cur,rfl,hb',(hb.block g (Array.getElem?_eq_some_iff.1 hg).1).trans hg,r⟩
theorem zjY (m:List UInt8) (v:Value) (g o c:Nat) (y:Nat) (w:World) (h:Mm w m v g o c) (hy:y<8) :
 Calls Tryz.prog 226 #[v,.int .i64 y] w λe w'=>∃ s,e = .returned (.tuple #[s,.bool (decide (2<(drS m y 8).length))])/\w'.ownsRow w.heap.size 3 1 s ((drS m y 8).take 2).length (ics ((drS m y 8).take 2))/\Below w.heap.size w w':=by
 have H:=hid h
 clear h
 go_enter Tryz.func226,Tryz.ntmps226
 go_wp2
 go_loopw [4,7] (λs i wr=>∃ j:Nat,j<=8/\i = .int .i64 j/\(drS m y j).length<=2/\wr.ownsRow w.heap.size 3 1 s (drS m y j).length (ics (drS m y j))/\Below w.heap.size w wr) (λ_ i _=>8-(intOf i).toNat)
 case atStart=>exact ⟨0,Nat.zero_le _,rfl,by simp [drS],⟨rfl,Or.inl ⟨rfl,rfl⟩⟩,st0 w⟩
 case round =>
  obtain ⟨j,hj,rfl,h2,hown,hbl⟩:=hrel
  have HO:=hid hown
  have HB:=hid hbl
  obtain ⟨sa,sc,rfl⟩:=zjX hown
  clear hown hbl
  by_cases h8:j<8
  ·have h8':(j:Int)<8:=by omega
   cases ho:onS m y j with
   | false =>
    have HN:Hid (drS m y (j+1)=drS m y j):=by rw [zfn,ho];rfl
    have HOn:=hid ho
    clear ho
    go_wp2_with (first
     | (go_at_call 227;refine (zbu m v g o c j _ (H.out.kept HB.out) h8).mono ?_;rintro e w1 ⟨rfl,hb1⟩)
     | (go_at_call 254;refine (zcN _ _ _ _ _ _ _ _ (ln_bd m j)).mono ?_;rw [zjW,HOn.out];rintro e w2 ⟨rfl,hb2⟩))
    go_round
    case rel=>exact ⟨j+1,h8,by go_num,by rw [HN.out];exact h2,by rw [HN.out];exact zaU (zaU HO.out hb1) hb2,stp (stp HB.out hb1) hb2⟩
    case measure=>simp [intOf];omega
   | true =>
    by_cases hl:(drS m y j).length=2
    ·have HR:=hid (znB h8 hl ho)
     have hl':(((drS m y j).length:Int) == 2)=true:=by rw [hl];rfl
     have HOn:=hid ho
     clear ho hl
     go_wp2_with (first
      | (go_at_call 227;refine (zbu m v g o c j _ (H.out.kept HB.out) h8).mono ?_;rintro e w1 ⟨rfl,hb1⟩)
      | (go_at_call 254;refine (zcN _ _ _ _ _ _ _ _ (ln_bd m j)).mono ?_;rw [zjW,HOn.out];rintro e w2 ⟨rfl,hb2⟩))
     refine bodyPost_ret (v:=.tuple #[.slice sa (drS m y j).length sc,.bool true]) (by simp [results,Tryz.results226,go_sem]) rfl ?_
     rw [HR.out.1,HR.out.2]
     exact ⟨_,rfl,zaU (zaU HO.out hb1) hb2,stp (stp HB.out hb1) hb2⟩
    ·have HN:Hid (drS m y (j+1)=drS m y j++[j]):=by rw [zfn,ho];rfl
     have hl':(((drS m y j).length:Int) == 2)=false:=by simp;omega
     have HLn:Hid ((drS m y j++[j]).length<=2):=by simp only [List.length_append,List.length_singleton];unfold Hid;omega
     have hle:(drS m y j).length<=50000:=by omega
     have HLe:=hid hle
     have HOn:=hid ho
     clear ho hl hle
     go_wp2_with (first
      | (go_at_call 227;refine (zbu m v g o c j _ (H.out.kept HB.out) h8).mono ?_;rintro e w1 ⟨rfl,hb1⟩)
      | (go_at_call 254;refine (zcN _ _ _ _ _ _ _ _ (ln_bd m j)).mono ?_;rw [zjW,HOn.out];rintro e w2 ⟨rfl,hb2⟩;have HO2:=hid (zaU (zaU HO.out hb1) hb2);have HB2:=hid (stp (stp HB.out hb1) hb2))
      | (at_builtin;refine app1i (by rfl) _ _ (by rfl) w.heap.size _ (drS m y j) (by rfl) (zaU HO2.out (stA (st0 w2) _)) w2.heap.size 1 j j (by rfl) (Pl.new _ _ _ _ rfl) rfl HLe.out (Nat.le_trans HB2.out.size (by simp)) ?_;intro v' w' hown' hb'))
     go_round
     case rel=>exact ⟨j+1,h8,by go_num,by rw [HN.out];exact HLn.out,by rw [HN.out];exact hown',(stA HB2.out _).trans hb'⟩
     case measure=>simp [intOf];omega
  ·have h9:¬ (j:Int)<8:=by omega
   have e8:j=8:=by omega
   subst e8
   have HR:Hid ((drS m y 8).take 2=drS m y 8/\decide (2<(drS m y 8).length)=false):=⟨List.take_of_length_le h2,decide_eq_false (by omega)⟩
   go_wp2
   refine bodyPost_ret (v:=.tuple #[.slice sa (drS m y 8).length sc,.bool false]) (by simp [results,Tryz.results226,go_sem]) rfl ?_
   rw [HR.out.1,HR.out.2]
   exact ⟨_,rfl,HO.out,HB.out⟩
theorem zjZ {W:World} {b rb:Nat} {L R:List Value} (hb:Bx W b L) (hr:Bx W rb R) (o dLen dCap sCap n:Nat) (ty:TypeId) (hn:n=R.length) (ho:o+R.length<=L.length) (hd:R.length<=dLen) (h1:∀ v∈R,v.oneCell'=true) :
 (Builtin.copy_ #[26,26] ty #[.slice (some ⟨b,o,none⟩) dLen dCap,.slice (some ⟨rb,0,none⟩) n sCap]).run Tryz.prog W = .ok (goInt R.length) (W.setCells b o R):=by
 subst hn
 refine run_copy_cells W 26 26 ty 5 b o dLen dCap ⟨rb,0,none⟩ R.length sCap R Tryz.underlying26 (by kernel_rfl) (Nat.min_eq_left hd).symm (λj v hj=>?_) (λj hj=>?_) (λj hj=>hb.f _) h1
 ·rw [addr_add];exact hr.c j v hj
 ·rw [hb.at (o+j) _ (List.getElem?_eq_getElem (by omega))];rfl
theorem info16:(Tryz.prog.info? 60).map (·.size)=some 16:=by kernel_rfl
theorem zj0 (f:Nat->Nat):(row16 f).toArray.all (·.oneCell')=true:=by
 refine all_oneCell_toArray λv hv=>?_
 unfold row16 at hv
 rw [List.mem_map] at hv
 obtain ⟨x,_,rfl⟩:=hv
 rfl
theorem zhU (A B vs:List Value) (h:vs.length=B.length):putL (A++B) A.length vs=A++vs:=by
 induction vs generalizing A B with
 | nil=>cases B with
  | nil=>rfl
  | cons b B=>cases h
 | cons v vs ih=>cases B with
  | nil=>cases h
  | cons b B =>
   have:=ih (A++[v]) B (by simpa using h)
   simp only [List.append_assoc,List.singleton_append,List.length_append,List.length_singleton] at this
   rw [putL,<- this]
   congr 1
   rw [List.set_append_right _ _ (Nat.le_refl _)]
   simp
theorem Bx.all {W:World} {b:Nat} {L:List Value} (h:Bx W b L) (vs:List Value) (hl:vs.length=L.length):Bx (W.setCells b 0 vs) b vs:=by
 have:=h.puts 0 vs (by omega)
 rwa [show putL L 0 vs=vs from zhU [] L vs hl] at this
theorem ld16 {ops:Array Oper} {rest:List Oper} {op:Oper} {a:Act} {w:World} {Q:Exit->Act->World->Prop} (hgd:op.guard=none) (x:Operand) (ho:op.op = .load 60 x) (b:Nat) (f:Nat->Nat) (hx:a.eval x = .pointer (some ⟨b,0,none⟩)) (hb:Bx w b (row16 f))
 (h:wpList Tryz.prog ops Q rest (a.put op.dst (.agg (row16 f).toArray)) w):wpList Tryz.prog ops Q (op::rest) a w :=
 wpList_load_mid hgd 60 x ho b 0 hx (row16 f) _ hb.c Tryz.underlying60 rfl (by rw [zaq];exact info16) h
theorem st16 {ops:Array Oper} {rest:List Oper} {op:Oper} {a:Act} {w:World} {Q:Exit->Act->World->Prop} (hgd:op.guard=none) (x z:Operand) (ho:op.op = .store 60 x z) (b:Nat) (f f':Nat->Nat) (hx:a.eval x = .pointer (some ⟨b,0,none⟩)) (hz:a.eval z = .agg (row16 f).toArray) (hb:Bx w b (row16 f'))
 (h:∀ w',w'=w.setCells b 0 (row16 f)->Bx w' b (row16 f)->wpList Tryz.prog ops Q rest (a.put op.dst undef) w'):wpList Tryz.prog ops Q (op::rest) a w:=by
 refine wpList_store_mid hgd 60 x z ho b 0 (row16 f).toArray hx hz ?_ (by simp only [List.size_toArray,zaq];exact info16) (zj0 f) ?_
 ·simp only [List.size_toArray,zaq];exact hb.there 0 16 (by rw [zaq];omega)
 ·exact h _ rfl (hb.all _ (by rw [zaq,zaq]))
theorem lv16 {W:World} {b:Nat} {f:Nat->Nat} (h:Bx W b (row16 f)):(loadVar 60 ⟨b,0,none⟩).run Tryz.prog W = .ok (.agg (row16 f).toArray) W :=
 run_loadVar_mid W b 0 60 _ _ h.c Tryz.underlying60 rfl (by rw [zaq];exact info16)
theorem zhV (m:List UInt8) (Y n:Nat) (hn:n<4):putL (row16 (λX=>if X<4*n then g16 m Y X else 0)) (4*n) [.int .u8 (td m (gb m (Y/4*4+n)) 0 (Y%4)),.int .u8 (td m (gb m (Y/4*4+n)) 1 (Y%4)),.int .u8 (td m (gb m (Y/4*4+n)) 2 (Y%4)),.int .u8 (td m (gb m (Y/4*4+n)) 3 (Y%4))]=row16 (λX=>if X<4*(n+1) then g16 m Y X else 0):=by
 simp only [putL]
 rw [zbA _ _ _ (by omega),zbA _ _ _ (by omega),zbA _ _ _ (by omega),zbA _ _ _ (by omega)]
 apply zbo
 intro X hX
 have h:∀ i,i<4->td m (gb m (Y/4*4+n)) i (Y%4)=g16 m Y (4*n+i):=λi hi=>by
  unfold g16
  rw [show (4*n+i)/4=n by omega,show (4*n+i)%4=i by omega]
 rw [h 0 (by omega),h 1 (by omega),h 2 (by omega),h 3 (by omega)]
 by_cases e3:X=4*n+1+1+1
 ·subst e3;simp;intro;omega
 ·by_cases e2:X=4*n+1+1
  ·subst e2;simp;intro;omega
  ·by_cases e1:X=4*n+1
   ·subst e1;simp;intro;omega
   ·by_cases e0:X=4*n
    ·subst e0
     rw [if_neg e3,if_neg e2,if_neg e1,if_pos rfl,if_pos (by omega)]
     rfl
    ·simp only [if_neg e3,if_neg e2,if_neg e1,if_neg e0]
     by_cases hlt:X<4*n
     ·rw [if_pos hlt,if_pos (by omega)]
     ·rw [if_neg hlt,if_neg (by omega)]
structure GdW (w : World) (m : List UInt8) (Y n : Nat) (W : World) : Prop where
 low:Below w.heap.size w W
 r:Bx W w.heap.size (row16 λ_=>0)
 g:Bx W (w.heap.size+1) (row16 λX=>if X<4*n then g16 m Y X else 0)
section
variable {w W w1 : World} {m : List UInt8} {Y n : Nat}
theorem GdW.kept (h:GdW w m Y n W) (hb:Below W.heap.size W w1):GdW w m Y n w1:=⟨stp h.low hb,h.r.kept hb,h.g.kept hb⟩
theorem GdW.over (h:GdW w m Y n W) (o:Obj):GdW w m Y n (W.alloc o):=h.kept (stA (st0 W) o)
theorem GdW.drew (h:GdW w m Y n W):GdW w m Y n W.drew:=⟨h.low.drew,h.r.drew,h.g.drew⟩
theorem GdW.put (h:GdW w m Y n W) (hn:n<4):GdW w m Y (n+1) (W.setCells (w.heap.size+1) (4*n) [.int .u8 (td m (gb m (Y/4*4+n)) 0 (Y%4)),.int .u8 (td m (gb m (Y/4*4+n)) 1 (Y%4)),.int .u8 (td m (gb m (Y/4*4+n)) 2 (Y%4)),.int .u8 (td m (gb m (Y/4*4+n)) 3 (Y%4))]) :=
 ⟨Bl.puts h.low (by omega) _,h.r.fars (by omega) _ _,zhV m Y n hn ▸ h.g.puts (4*n) _ (by rw [zaq];simp;omega)⟩
end
structure SnW (w : World) (m : List UInt8) (y x bs : Nat) (W : World) : Prop where
 low:Below w.heap.size w W
 r:Bx W w.heap.size (row16 λ_=>0)
 g:Bx W (w.heap.size+1) (row16 (g16 m ((y+gb m 169)%16)))
 s:Bx W bs (row16 λi=>if i<x then gd m y i else 0)
 far:w.heap.size+1<bs
theorem SnW.put {w W:World} {m:List UInt8} {y x bs:Nat} (h:SnW w m y x bs W) (hx:x<16):SnW w m y (x+1) bs (W.setCell ⟨bs,x,none⟩ (.int .u8 (g16 m ((y+gb m 169)%16) ((x+gb m 168)%16)))):=by
 have hf:=h.far
 refine ⟨Bl.set h.low (by omega) _,h.r.far (by omega) _,h.g.far (by omega) _,?_,hf⟩
 have:=h.s.set x (.int .u8 (gd m y x)) (by rw [zaq];exact hx)
 rw [zbA _ _ _ hx] at this
 rwa [zbo (g:=λi=>if i<x+1 then gd m y i else 0) (λi hi=>?_)] at this
 by_cases e:i=x
 ·subst e;simp
 ·simp only [if_neg e]
  by_cases hlt:i<x
  ·rw [if_pos hlt,if_pos (by omega)]
  ·rw [if_neg hlt,if_neg (by omega)]
theorem zhW (m:List UInt8) (v:Value) (g o c:Nat) (y:Nat) (w:World) (h:Mm w m v g o c) (hy:y<8) :
 Calls Tryz.prog 225 #[v,.int .i64 y] w λe w'=>e = .returned (.agg (row16 (gd m y)).toArray)/\Below w.heap.size w w':=by
 have H:=hid h
 obtain ⟨rfl,hl,hz,hc⟩:=h
 have h1:=hc 169 (by omega)
 have hb:=gb_lt m 169
 obtain ⟨Y,hY⟩:∃ Y,Y=(y+gb m 169)%16:=⟨_,rfl⟩
 have eY:((y:Int)+(gb m 169:Nat))%16=(Y:Int):=by omega
 have HY:=hid hY
 have HE:=hid eY
 have hYl:Y<16:=by omega
 clear hc eY
 go_enter Tryz.func225,Tryz.ntmps225
 go_wp2
 rw [HE.out]
 clear hY hb h1 hl
 go_loopw [18] (λi wr=>∃ n:Nat,n<=4/\i = .int .i64 n/\GdW w m Y n wr) (λi _=>4-(intOf i).toNat)
 case atStart=>exact ⟨0,Nat.zero_le _,rfl,stA (stA (st0 w) _) _,(Bx.new w (row16 λ_=>0) _ rfl).over _,Bx.new _ (row16 λ_=>0) _ (by simp)⟩
 case round =>
  obtain ⟨n,hn,rfl,hG⟩:=hrel
  have HG:=hid hG
  have HM:=hid (H.out.kept hG.low)
  clear hG
  by_cases h4:n<4
  ·have h4':(n:Int)<4:=by omega
   have hc:=HM.out.c (Y/4*4+n) (by omega)
   have hcl:=gb_lt m (Y/4*4+n)
   have ym:Y%4<4:=Nat.mod_lt _ (by decide)
   go_wp2_with (first
    | (go_at_call 253;refine (zbL m _ g o c (gb m (Y/4*4+n)) (Y%4) _ HM.out hcl ym).mono ?_;rintro e w1 ⟨rfl,hb1⟩))
   obtain ⟨W2,hcp,hG2⟩:∃ W2,(Builtin.copy_ #[26,26] 3 #[.slice (some ⟨w.heap.size+1,4*n,none⟩) (16-4*n) (16-4*n),.slice (some ⟨w1.heap.size,0,none⟩) 4 4]).run Tryz.prog (w1.alloc (.cells #[.int .u8 (td m (gb m (Y/4*4+n)) 0 (Y%4)),.int .u8 (td m (gb m (Y/4*4+n)) 1 (Y%4)),.int .u8 (td m (gb m (Y/4*4+n)) 2 (Y%4)),.int .u8 (td m (gb m (Y/4*4+n)) 3 (Y%4))] 312)).drew = .ok (.int .i64 4) W2/\GdW w m Y (n+1) W2 :=
    ⟨_,zjZ ((HG.out.kept hb1).over _).drew.g (Bx.new w1 [.int .u8 (td m (gb m (Y/4*4+n)) 0 (Y%4)),.int .u8 (td m (gb m (Y/4*4+n)) 1 (Y%4)),.int .u8 (td m (gb m (Y/4*4+n)) 2 (Y%4)),.int .u8 (td m (gb m (Y/4*4+n)) 3 (Y%4))] 312 rfl).drew (4*n) _ _ _ _ _ rfl (by rw [zaq];simp;omega) (by simp;omega) (by simp [Value.oneCell']),((HG.out.kept hb1).over _).drew.put h4⟩
   have HG2:=hid hG2
   clear hG2
   have q0:(0:Int)<=(n:Int)*4:=by omega
   have q1:(n:Int)*4<=16:=by omega
   have q2:((n:Int)*4).toNat=4*n:=by omega
   have q3:IntKind.i64.wrap ((n:Int)*4)=(n:Int)*4:=by rw [IntKind.wrap_i64];omega
   have q4:¬ (16=4*n):=by omega
   go_region
   go_wp2
   exact ⟨⟨n+1,h4,by go_num,HG2.out⟩,by simp [intOf];omega⟩
  ·have h9:¬ (n:Int)<4:=by omega
   have e4:n=4:=by omega
   subst e4
   have hY:Y=(y+gb m 169)%16:=HY.out
   have h168:=gb_lt m 168
   have HS0:Hid (SnW w m y 0 wr.heap.size (wr.alloc (.cells (row16 λ_=>0).toArray 60))):=by
    refine ⟨stA HG.out.low _,HG.out.r.over _,?_,Bx.new wr (row16 λ_=>0) _ rfl,HG.out.g.z⟩
    have:=HG.out.g.over (.cells (row16 λ_=>0).toArray 60)
    rw [hY] at this
    rwa [zbo (λX hX=>if_pos (show X<4*4 by omega))] at this
   clear h4 hn h9 hY
   go_wp2
   go_loopw [39] (λi W=>∃ x:Nat,x<=16/\i = .int .i64 x/\SnW w m y x wr.heap.size W) (λi _=>16-(intOf i).toNat)
   case atStart=>exact ⟨0,Nat.zero_le _,rfl,HS0.out⟩
   case round =>
    obtain ⟨x,hx,rfl,hS⟩:=hrel
    have HS:=hid hS
    clear hS HS0
    by_cases h16:x<16
    ·have h16':(x:Int)<16:=by omega
     have c0:=(H.out.kept HS.out.low).c 168 (by omega)
     have c1:=HS.out.g.at ((x+gb m 168)%16) _ (zbF _ (Nat.mod_lt _ (by decide)))
     have c2:=HS.out.s.at x _ (zbF _ h16)
     have f2:=HS.out.s.f x
     go_wp2
     exact ⟨⟨x+1,h16,by go_num,HS.out.put h16⟩,by simp [intOf];omega⟩
    ·have h17:¬ (x:Int)<16:=by omega
     have e16:x=16:=by omega
     subst e16
     have hs:=HS.out.s
     rw [zbo (λX hX=>if_pos hX)] at hs
     have HSS:=hid hs
     clear hs
     go_wp2_with (first
      | (refine ld16 rfl _ rfl _ _ rfl HSS.out ?_)
      | (refine st16 rfl _ _ rfl w.heap.size (gd m y) _ rfl rfl HS.out.r ?_;rintro w' hw' hB';have HB':=hid hB';have HW':=hid hw';clear hB' hw'))
     have hl:=lv16 HB'.out
     refine bodyPost_ret (v:=.agg (row16 (gd m y)).toArray) ?_ rfl ⟨rfl,?_⟩
     ·simp only [results,Tryz.results225]
      simp
      exact hl
     ·rw [HW'.out];exact Bl.puts HS.out.low (Nat.le_refl _) _
theorem znC (f:Nat->Nat) (w:World):(Instr.index 60 (.agg (row16 f).toArray) (.int .i64 0)).run Tryz.prog w = .ok (.int .u8 (f 0)) w:=by kernel_rfl
theorem znD (f:Nat->Nat) (w:World):(Instr.index 60 (.agg (row16 f).toArray) (.int .i64 1)).run Tryz.prog w = .ok (.int .u8 (f 1)) w:=by kernel_rfl
theorem znE (f:Nat->Nat) (w:World):(Instr.index 60 (.agg (row16 f).toArray) (.int .i64 2)).run Tryz.prog w = .ok (.int .u8 (f 2)) w:=by kernel_rfl
theorem znF (f:Nat->Nat) (w:World):(Instr.index 60 (.agg (row16 f).toArray) (.int .i64 3)).run Tryz.prog w = .ok (.int .u8 (f 3)) w:=by kernel_rfl
theorem znG (f:Nat->Nat) (w:World):(Instr.index 60 (.agg (row16 f).toArray) (.int .i64 4)).run Tryz.prog w = .ok (.int .u8 (f 4)) w:=by kernel_rfl
theorem znH (f:Nat->Nat) (w:World):(Instr.index 60 (.agg (row16 f).toArray) (.int .i64 5)).run Tryz.prog w = .ok (.int .u8 (f 5)) w:=by kernel_rfl
theorem znI (f:Nat->Nat) (w:World):(Instr.index 60 (.agg (row16 f).toArray) (.int .i64 6)).run Tryz.prog w = .ok (.int .u8 (f 6)) w:=by kernel_rfl
theorem znJ (f:Nat->Nat) (w:World):(Instr.index 60 (.agg (row16 f).toArray) (.int .i64 7)).run Tryz.prog w = .ok (.int .u8 (f 7)) w:=by kernel_rfl
theorem znK (f:Nat->Nat) (w:World):(Instr.index 60 (.agg (row16 f).toArray) (.int .i64 8)).run Tryz.prog w = .ok (.int .u8 (f 8)) w:=by kernel_rfl
theorem znL (f:Nat->Nat) (w:World):(Instr.index 60 (.agg (row16 f).toArray) (.int .i64 9)).run Tryz.prog w = .ok (.int .u8 (f 9)) w:=by kernel_rfl
theorem zlO (f:Nat->Nat) (w:World):(Instr.index 60 (.agg (row16 f).toArray) (.int .i64 10)).run Tryz.prog w = .ok (.int .u8 (f 10)) w:=by kernel_rfl
theorem zlP (f:Nat->Nat) (w:World):(Instr.index 60 (.agg (row16 f).toArray) (.int .i64 11)).run Tryz.prog w = .ok (.int .u8 (f 11)) w:=by kernel_rfl
theorem zlQ (f:Nat->Nat) (w:World):(Instr.index 60 (.agg (row16 f).toArray) (.int .i64 12)).run Tryz.prog w = .ok (.int .u8 (f 12)) w:=by kernel_rfl
theorem zlR (f:Nat->Nat) (w:World):(Instr.index 60 (.agg (row16 f).toArray) (.int .i64 13)).run Tryz.prog w = .ok (.int .u8 (f 13)) w:=by kernel_rfl
theorem zlS (f:Nat->Nat) (w:World):(Instr.index 60 (.agg (row16 f).toArray) (.int .i64 14)).run Tryz.prog w = .ok (.int .u8 (f 14)) w:=by kernel_rfl
theorem zlT (f:Nat->Nat) (w:World):(Instr.index 60 (.agg (row16 f).toArray) (.int .i64 15)).run Tryz.prog w = .ok (.int .u8 (f 15)) w:=by kernel_rfl
theorem idx16 (f:Nat->Nat) (x:Nat) (h:x<16) (w:World):(Instr.index 60 (.agg (row16 f).toArray) (.int .i64 (x:Nat))).run Tryz.prog w = .ok (.int .u8 (f x)) w:=by
 have hx:x=0 \/ x=1 \/ x=2 \/ x=3 \/ x=4 \/ x=5 \/ x=6 \/ x=7 \/ x=8 \/ x=9 \/ x=10 \/ x=11 \/ x=12 \/ x=13 \/ x=14 \/ x=15:=by omega
 rcases hx with rfl|rfl|rfl|rfl|rfl|rfl|rfl|rfl|rfl|rfl|rfl|rfl|rfl|rfl|rfl|rfl
 ·exact znC f w
 ·exact znD f w
 ·exact znE f w
 ·exact znF f w
 ·exact znG f w
 ·exact znH f w
 ·exact znI f w
 ·exact znJ f w
 ·exact znK f w
 ·exact znL f w
 ·exact zlO f w
 ·exact zlP f w
 ·exact zlQ f w
 ·exact zlR f w
 ·exact zlS f w
 ·exact zlT f w
theorem zpb (f:Nat->Nat) (w:World):(Instr.index 312 (.agg #[.int .u8 (f 0),.int .u8 (f 1),.int .u8 (f 2),.int .u8 (f 3)]) (.int .i64 0)).run Tryz.prog w = .ok (.int .u8 (f 0)) w:=by kernel_rfl
theorem zpc (f:Nat->Nat) (w:World):(Instr.index 312 (.agg #[.int .u8 (f 0),.int .u8 (f 1),.int .u8 (f 2),.int .u8 (f 3)]) (.int .i64 1)).run Tryz.prog w = .ok (.int .u8 (f 1)) w:=by kernel_rfl
theorem zpd (f:Nat->Nat) (w:World):(Instr.index 312 (.agg #[.int .u8 (f 0),.int .u8 (f 1),.int .u8 (f 2),.int .u8 (f 3)]) (.int .i64 2)).run Tryz.prog w = .ok (.int .u8 (f 2)) w:=by kernel_rfl
theorem zpe (f:Nat->Nat) (w:World):(Instr.index 312 (.agg #[.int .u8 (f 0),.int .u8 (f 1),.int .u8 (f 2),.int .u8 (f 3)]) (.int .i64 3)).run Tryz.prog w = .ok (.int .u8 (f 3)) w:=by kernel_rfl
theorem idx4 (f:Nat->Nat) (x:Nat) (h:x<4) (w:World):(Instr.index 312 (.agg #[.int .u8 (f 0),.int .u8 (f 1),.int .u8 (f 2),.int .u8 (f 3)]) (.int .i64 (x:Nat))).run Tryz.prog w = .ok (.int .u8 (f x)) w:=by
 have hx:x=0 \/ x=1 \/ x=2 \/ x=3:=by omega
 rcases hx with rfl|rfl|rfl|rfl
 ·exact zpb f w
 ·exact zpc f w
 ·exact zpd f w
 ·exact zpe f w
structure P0W (w : World) (m : List UInt8) (y bg bo : Nat) (fo : Nat -> Nat) (W : World) : Prop where
 low:Below w.heap.size w W
 r:Bx W w.heap.size (row16 λ_=>0)
 g:Bx W bg (row16 (gd m y))
 o:Bx W bo (row16 fo)
 d1:w.heap.size<bg
 d2:bg<bo
structure PxW (w : World) (m : List UInt8) (y bg bo bt : Nat) (fo : Nat -> Nat) (ft : Nat -> Bool) (W : World) : Prop extends P0W w m y bg bo fo W where
 t:Bx W bt (brow16 ft)
 d3:bo<bt
section
variable {w W w1 : World} {m : List UInt8} {y bg bo bt : Nat} {fo fo' : Nat -> Nat} {ft ft' : Nat -> Bool}
theorem P0W.kept (h:P0W w m y bg bo fo W) (hb:Below W.heap.size W w1):P0W w m y bg bo fo w1:=⟨stp h.low hb,h.r.kept hb,h.g.kept hb,h.o.kept hb,h.d1,h.d2⟩
theorem P0W.over (h:P0W w m y bg bo fo W) (o:Obj):P0W w m y bg bo fo (W.alloc o):=h.kept (stA (st0 W) o)
theorem P0W.congr (h:P0W w m y bg bo fo W) (e:∀ x,x<16->fo x=fo' x):P0W w m y bg bo fo' W:=⟨h.low,h.r,h.g,zbo e ▸ h.o,h.d1,h.d2⟩
theorem P0W.put (h:P0W w m y bg bo fo W) (x n:Nat) (hx:x<16):P0W w m y bg bo (λi=>if i=x then n else fo i) (W.setCell ⟨bo,x,none⟩ (.int .u8 n)):=by
 have h1:=h.d1
 have h2:=h.d2
 exact ⟨Bl.set h.low (by omega) _,h.r.far (by omega) _,h.g.far (by omega) _,zbA fo x n hx ▸ h.o.set x (.int .u8 n) (by rw [zaq];exact hx),h1,h2⟩
theorem PxW.kept (h:PxW w m y bg bo bt fo ft W) (hb:Below W.heap.size W w1):PxW w m y bg bo bt fo ft w1:=⟨h.toP0W.kept hb,h.t.kept hb,h.d3⟩
theorem PxW.over (h:PxW w m y bg bo bt fo ft W) (o:Obj):PxW w m y bg bo bt fo ft (W.alloc o):=h.kept (stA (st0 W) o)
theorem PxW.congr (h:PxW w m y bg bo bt fo ft W) (e:∀ x,x<16->fo x=fo' x) (e':∀ x,x<16->ft x=ft' x):PxW w m y bg bo bt fo' ft' W:=⟨h.toP0W.congr e,zfY e' ▸ h.t,h.d3⟩
theorem PxW.take (h:PxW w m y bg bo bt fo ft W) (x:Nat) (hx:x<16):PxW w m y bg bo bt fo (λi=>if i=x then true else ft i) (W.setCell ⟨bt,x,none⟩ (.bool true)):=by
 have h1:=h.d1
 have h2:=h.d2
 have h3:=h.d3
 exact ⟨⟨Bl.set h.low (by omega) _,h.r.far (by omega) _,h.g.far (by omega) _,h.o.far (by omega) _,h1,h2⟩,zhS ft x true hx ▸ h.t.set x (.bool true) (by rw [zb2];exact hx),h3⟩
theorem PxW.put (h:PxW w m y bg bo bt fo ft W) (x n:Nat) (hx:x<16):PxW w m y bg bo bt (λi=>if i=x then n else fo i) ft (W.setCell ⟨bo,x,none⟩ (.int .u8 n)):=by
 have h3:=h.d3
 exact ⟨h.toP0W.put x n hx,h.t.far (by omega) _,h3⟩
end
def mxN (m:List UInt8) (y:Nat) (ks:List Nat) (k i x:Nat):Nat:=if clS m k<=x/\x<clS m k+i then pxL m y (ks++[k]) x else pxL m y ks x
def mxB (m:List UInt8) (y:Nat) (ks:List Nat) (k i x:Nat):Bool:=if clS m k<=x/\x<clS m k+i then tkL m y (ks++[k]) x else tkL m y ks x
section
variable {m : List UInt8} {y : Nat} {ks : List Nat} {k i : Nat}
theorem zlU (x:Nat):mxN m y ks k 0 x=pxL m y ks x:=by unfold mxN;rw [if_neg (by omega)]
theorem zlV (x:Nat):mxB m y ks k 0 x=tkL m y ks x:=by unfold mxB;rw [if_neg (by omega)]
theorem sx_at (hi:i<4):sxS m y k (clS m k+i)=sdS m y k i:=by
 unfold sxS
 rw [if_pos (by omega),show clS m k+i-clS m k=i by omega]
theorem zmH {x:Nat} (h:¬ (clS m k<=x/\x<clS m k+4)):sxS m y k x=0:=by unfold sxS;rw [if_neg h]
theorem zlW (x:Nat):mxN m y ks k 4 x=pxL m y (ks++[k]) x:=by
 unfold mxN
 split
 ·rfl
 ·rename_i h
  exact (zct (zmH h)).symm
theorem zlX (x:Nat):mxB m y ks k 4 x=tkL m y (ks++[k]) x:=by
 unfold mxB
 split
 ·rfl
 ·rename_i h
  rw [zcs,zmH h];simp
theorem zcu (x:Nat):mxN m y ks k (i+1) x=if x=clS m k+i then pxL m y (ks++[k]) x else mxN m y ks k i x:=by
 unfold mxN
 by_cases e:x=clS m k+i
 ·rw [if_pos e,if_pos (by omega)]
 ·rw [if_neg e]
  by_cases h:clS m k<=x/\x<clS m k+i
  ·rw [if_pos h,if_pos (by omega)]
  ·rw [if_neg h,if_neg (by omega)]
theorem zcv (x:Nat):mxB m y ks k (i+1) x=if x=clS m k+i then tkL m y (ks++[k]) x else mxB m y ks k i x:=by
 unfold mxB
 by_cases e:x=clS m k+i
 ·rw [if_pos e,if_pos (by omega)]
 ·rw [if_neg e]
  by_cases h:clS m k<=x/\x<clS m k+i
  ·rw [if_pos h,if_pos (by omega)]
  ·rw [if_neg h,if_neg (by omega)]
theorem zj1:mxN m y ks k i (clS m k+i)=pxL m y ks (clS m k+i):=by unfold mxN;rw [if_neg (by omega)]
theorem zj2:mxB m y ks k i (clS m k+i)=tkL m y ks (clS m k+i):=by unfold mxB;rw [if_neg (by omega)]
theorem zlY (h:16<=clS m k+i):(∀ x,x<16->mxN m y ks k i x=mxN m y ks k (i+1) x)/\(∀ x,x<16->mxB m y ks k i x=mxB m y ks k (i+1) x) :=
 ⟨λx hx=>by rw [zcu,if_neg (by omega)],λx hx=>by rw [zcv,if_neg (by omega)]⟩
theorem znM (hi:i<4) (h:sdS m y k i=0):(∀ x,x<16->mxN m y ks k i x=mxN m y ks k (i+1) x)/\(∀ x,x<16->mxB m y ks k i x=mxB m y ks k (i+1) x):=by
 have h0:sxS m y k (clS m k+i)=0:=by rw [sx_at hi];exact h
 refine ⟨λx hx=>?_,λx hx=>?_⟩
 ·rw [zcu]
  by_cases e:x=clS m k+i
  ·rw [if_pos e,e,zj1,zct h0]
  ·rw [if_neg e]
 ·rw [zcv]
  by_cases e:x=clS m k+i
  ·rw [if_pos e,e,zj2,zcs,h0];simp
  ·rw [if_neg e]
theorem zlZ (h:tkL m y ks (clS m k+i)=true):(∀ x,x<16->mxN m y ks k i x=mxN m y ks k (i+1) x)/\(∀ x,x<16->mxB m y ks k i x=mxB m y ks k (i+1) x):=by
 refine ⟨λx hx=>?_,λx hx=>?_⟩
 ·rw [zcu]
  by_cases e:x=clS m k+i
  ·rw [if_pos e,e,zj1,zea h]
  ·rw [if_neg e]
 ·rw [zcv]
  by_cases e:x=clS m k+i
  ·rw [if_pos e,e,zj2,zcs,h];simp
  ·rw [if_neg e]
theorem zj3 (hi:i<4) (h:sdS m y k i≠0) (ht:tkL m y ks (clS m k+i)=false) (hb:128<=hwS m k) (hg:gd m y (clS m k+i)≠0):(∀ x,x<16->mxN m y ks k i x=mxN m y ks k (i+1) x)/\(∀ x,x<16->(if x=clS m k+i then true else mxB m y ks k i x)=mxB m y ks k (i+1) x):=by
 have h0:sxS m y k (clS m k+i)≠0:=by rw [sx_at hi];exact h
 refine ⟨λx hx=>?_,λx hx=>?_⟩
 ·rw [zcu]
  by_cases e:x=clS m k+i
  ·rw [if_pos e,e,zj1,zcW ht h0,if_pos ⟨hb,hg⟩]
  ·rw [if_neg e]
 ·rw [zcv]
  by_cases e:x=clS m k+i
  ·rw [if_pos e,if_pos e,e,zcs];simp [h0]
  ·rw [if_neg e,if_neg e]
theorem zj4 (hi:i<4) (h:sdS m y k i≠0) (ht:tkL m y ks (clS m k+i)=false) (hb:¬ (128<=hwS m k/\gd m y (clS m k+i)≠0)):(∀ x,x<16->(if x=clS m k+i then gb m (164+sdS m y k i) else mxN m y ks k i x)=mxN m y ks k (i+1) x)/\(∀ x,x<16->(if x=clS m k+i then true else mxB m y ks k i x)=mxB m y ks k (i+1) x):=by
 have h0:sxS m y k (clS m k+i)≠0:=by rw [sx_at hi];exact h
 refine ⟨λx hx=>?_,λx hx=>?_⟩
 ·rw [zcu]
  by_cases e:x=clS m k+i
  ·rw [if_pos e,if_pos e,e,zcW ht h0,if_neg hb,sx_at hi]
  ·rw [if_neg e,if_neg e]
 ·rw [zcv]
  by_cases e:x=clS m k+i
  ·rw [if_pos e,if_pos e,e,zcs];simp [h0]
  ·rw [if_neg e,if_neg e]
end
end Go.Proofs.YtbennamieealbaaGreatDoor
