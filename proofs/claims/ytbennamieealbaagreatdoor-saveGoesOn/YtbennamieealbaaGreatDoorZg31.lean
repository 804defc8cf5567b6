/-
  Parts of a proof, joined.
-/
import Derived.Test.YtbennamieealbaaGreatDoorZg30
import Derived.Test.YtbennamieealbaaGreatDoorZg29
import Derived.Test.YtbennamieealbaaGreatDoorZg01
import Derived.Laws.EntriesVeiled
set_option linter.unusedVariables false
set_option maxRecDepth 100000
set_option maxHeartbeats 6400000
namespace Go.Proofs.YtbennamieealbaaGreatDoor
open Go.ChangeShapes Go.WideShapes Go.ChangeAt Go.RowKit
structure Lst (W : World) (gl : Nat) (ks : List Nat) : Prop where
 z:gl<W.heap.size
 c:∀ j k,ks[j]? = some k->W.cell? ⟨gl,j,none⟩=some (.int .i64 (k:Nat))
theorem Lst.kept {W w1:World} {gl:Nat} {ks:List Nat} (h:Lst W gl ks) (hb:Below W.heap.size W w1):Lst w1 gl ks:=⟨Nat.lt_of_lt_of_le h.z hb.size,λj k hj=>(hb.cell (p:=⟨gl,j,none⟩) h.z).trans (h.c j k hj)⟩
theorem Lst.far {W:World} {gl:Nat} {ks:List Nat} (h:Lst W gl ks) {b o:Nat} (hne:b≠gl) (v:Value):Lst (W.setCell ⟨b,o,none⟩ v) gl ks:=⟨by simpa using h.z,λj k hj=>(World.cell?_setCell_far W _ _ v hne).trans (h.c j k hj)⟩
theorem Lst.of {W:World} {B:Nat} {v:Value} {ks:List Nat} (h:W.ownsRow B 3 1 v ks.length (ics ks)) (h0:ks≠[]):∃ gl c,v = .slice (some ⟨gl,0,none⟩) ks.length c/\B<=gl/\Lst W gl ks:=by
 rcases h.2 with ⟨rfl,h2⟩|⟨g,cap,cur,rfl,hb,hg,hn,hm,hs,ht⟩
 ·exact absurd (List.length_eq_zero_iff.1 h2) h0
 ·refine ⟨g,cap,rfl,hb,(Array.getElem?_eq_some_iff.1 hg).1,λj k hj=>?_⟩
  have hjl:=(List.getElem?_eq_some_iff.1 hj).1
  rw [Lib.cell_of_heap hg j]
  have e:cur[j]? = (cur.toList.take (ks.length*1))[j]?:=by rw [List.getElem?_take,if_pos (by omega)];simp
  rw [e,ht,ics,List.getElem?_map,hj]
  rfl
theorem P0W.init {w w1 w2:World} {m:List UInt8} {y:Nat} {t:TypeId} (hb1:Below (w.alloc (.cells (row16 λ_=>0).toArray t)).heap.size (w.alloc (.cells (row16 λ_=>0).toArray t)) w1)
 (hw2:w2=(w1.alloc (.cells (row16 λ_=>0).toArray t)).setCells w1.heap.size 0 (row16 (gd m y))) (hB:Bx w2 w1.heap.size (row16 (gd m y))) :
 P0W w m y w1.heap.size w2.heap.size (λi=>if i<0 then gb m (160+gd m y i) else 0) (w2.alloc (.cells (row16 λ_=>0).toArray t)):=by
 have hs:w.heap.size<w1.heap.size:=Nat.lt_of_lt_of_le (by simp) hb1.size
 refine ⟨stA ?_ _,Bx.over ?_ _,hB.over _,?_,hs,hB.z⟩
 ·rw [hw2];exact Bl.puts (stA (stp (stA (st0 w) _) hb1) _) (by omega) _
 ·rw [hw2];exact (((Bx.new w (row16 λ_=>0) t rfl).kept hb1).over _).fars (by omega) _ _
 ·exact Bx.new w2 (row16 λ_=>0) t rfl
theorem P0W.step {w W:World} {m:List UInt8} {y bg bo x:Nat} (h:P0W w m y bg bo (λi=>if i<x then gb m (160+gd m y i) else 0) W) (hx:x<16):P0W w m y bg bo (λi=>if i<x+1 then gb m (160+gd m y i) else 0) (W.setCell ⟨bo,x,none⟩ (.int .u8 (gb m (160+gd m y x)))):=by
 refine (h.put x _ hx).congr λi hi=>?_
 by_cases e:i=x
 ·subst e;simp
 ·simp only [if_neg e]
  by_cases hlt:i<x
  ·rw [if_pos hlt,if_pos (by omega)]
  ·rw [if_neg hlt,if_neg (by omega)]
structure InW (w : World) (m : List UInt8) (y bg bo bt gl bs : Nat) (ks pre : List Nat) (k i : Nat) (W : World) : Prop extends PxW w m y bg bo bt (mxN m y pre k i) (mxB m y pre k i) W where
 s:Bx W bs (scS m k)
 d4:bt<bs
 l:Lst W gl ks
 d5:bt<gl
section
variable {w W w1 : World} {m : List UInt8} {y bg bo bt gl bs : Nat} {ks pre : List Nat} {k i : Nat}
theorem InW.same (h:InW w m y bg bo bt gl bs ks pre k i W) (e:(∀ x,x<16->mxN m y pre k i x=mxN m y pre k (i+1) x)/\(∀ x,x<16->mxB m y pre k i x=mxB m y pre k (i+1) x)):InW w m y bg bo bt gl bs ks pre k (i+1) W :=
 ⟨h.toPxW.congr e.1 e.2,h.s,h.d4,h.l,h.d5⟩
theorem InW.hid (h:InW w m y bg bo bt gl bs ks pre k i W) (hx:clS m k+i<16) (e:(∀ x,x<16->mxN m y pre k i x=mxN m y pre k (i+1) x)/\(∀ x,x<16->(if x=clS m k+i then true else mxB m y pre k i x)=mxB m y pre k (i+1) x)):InW w m y bg bo bt gl bs ks pre k (i+1) (W.setCell ⟨bt,clS m k+i,none⟩ (.bool true)):=by
 have h4:=h.d4
 have h5:=h.d5
 exact ⟨(h.toPxW.take _ hx).congr e.1 e.2,h.s.far (by omega) _,h4,h.l.far (by omega) _,h5⟩
theorem InW.seen (h:InW w m y bg bo bt gl bs ks pre k i W) (hx:clS m k+i<16) (e:(∀ x,x<16->(if x=clS m k+i then gb m (164+sdS m y k i) else mxN m y pre k i x)=mxN m y pre k (i+1) x)/\(∀ x,x<16->(if x=clS m k+i then true else mxB m y pre k i x)=mxB m y pre k (i+1) x)):InW w m y bg bo bt gl bs ks pre k (i+1) ((W.setCell ⟨bt,clS m k+i,none⟩ (.bool true)).setCell ⟨bo,clS m k+i,none⟩ (.int .u8 (gb m (164+sdS m y k i)))):=by
 have h3:=h.d3
 have h4:=h.d4
 have h5:=h.d5
 exact ⟨((h.toPxW.take _ hx).put _ _ hx).congr e.1 e.2,(h.s.far (by omega) _).far (by omega) _,h4,(h.l.far (by omega) _).far (by omega) _,h5⟩
end
theorem zhX (m:List UInt8) (v:Value) (g o c:Nat) (y:Nat) (w:World) (h:Mm w m v g o c) (hy:y<8) :
 Calls Tryz.prog 192 #[v,.int .i64 y] w λe w'=>e = .returned (.agg (row16 (px m y)).toArray)/\Below w.heap.size w w':=by
 have H:=hid h
 obtain ⟨rfl,hl,hz,hc⟩:=h
 obtain ⟨ks,hks⟩:∃ ks,ks=(drS m y 8).take 2:=⟨_,rfl⟩
 have HKs:Hid (∀ k∈ks,k<8/\onS m y k=true):=λk hk=>by rw [hks] at hk;exact ⟨zo8 (List.mem_of_mem_take hk),zo9 (List.mem_of_mem_take hk)⟩
 have HPx:px m y=pxL m y ks:=by funext x;rw [hks];rfl
 have klen:ks.length<=2:=by rw [hks,List.length_take];omega
 rw [HPx]
 have HKe:=hid hks
 clear hc hks HPx
 go_enter Tryz.func192,Tryz.ntmps192
 go_wp2_with (first
  | (go_at_call 225;refine (zhW m _ g o c y _ (H.out.kept (stA (st0 w) _)) hy).mono ?_;rintro e w1 ⟨rfl,hb1⟩)
  | (refine st16 rfl _ _ rfl w1.heap.size (gd m y) (λ_=>0) rfl rfl (Bx.new w1 (row16 λ_=>0) _ rfl) ?_;rintro w2 hw2 hB2;have HB2:=hid hB2;have HW2:=hid hw2;clear hB2 hw2)
  | (refine ld16 rfl _ rfl w1.heap.size (gd m y) rfl (HB2.out.over _) ?_))
 have HP0:Hid (P0W w m y w1.heap.size w2.heap.size (λi=>if i<0 then gb m (160+gd m y i) else 0) (w2.alloc (.cells (row16 λ_=>0).toArray 60))):=P0W.init hb1 HW2.out HB2.out
 clear hb1 HW2 HB2
 go_loopw [22] (λi wr=>∃ x:Nat,x<=16/\i = .int .i64 x/\P0W w m y w1.heap.size w2.heap.size (λi=>if i<x then gb m (160+gd m y i) else 0) wr) (λi _=>16-(intOf i).toNat)
 case atStart=>exact ⟨0,Nat.zero_le _,rfl,HP0.out⟩
 case round =>
  clear HP0
  obtain ⟨x,hx,rfl,hP⟩:=hrel
  have HP:=hid hP
  clear hP
  by_cases h16:x<16
  ·have h16':(x:Int)<16:=by omega
   have hd:=gd_lt m y x
   have ix:=λW=>idx16 (gd m y) x h16 W
   have c0:=(H.out.kept HP.out.low).c (160+gd m y x) (by omega)
   have c1:=HP.out.o.at x _ (zbF _ h16)
   have f1:=HP.out.o.f x
   go_wp2
   exact ⟨⟨x+1,h16,by go_num,HP.out.step h16⟩,by simp [intOf];omega⟩
  ·have h17:¬ (x:Int)<16:=by omega
   have e16:x=16:=by omega
   subst e16
   clear hx h16 h17
   go_wp2_with (first
    | (go_at_call 226;refine (zjY m _ g o c y _ (H.out.kept (stA HP.out.low _)) hy).mono ?_;rw [<- HKe.out];rintro e w4 ⟨s,rfl,hown,hb4⟩;have HOwn:=hid hown;have HB4:=hid hb4;obtain ⟨sa,sc,rfl⟩:=zjX hown;clear hown hb4))
   have HX0:Hid (PxW w m y w1.heap.size w2.heap.size wr.heap.size (pxL m y []) (tkL m y []) w4):=by
    have hb:=(HP.out.over (.cells (brow16 λ_=>false).toArray 305)).congr (fo':=pxL m y []) (λx hx=>by rw [if_pos hx];rfl)
    exact (⟨hb,Bx.new wr (brow16 λ_=>false) _ rfl,HP.out.o.z⟩:PxW w m y w1.heap.size w2.heap.size wr.heap.size (pxL m y []) (tkL m y []) _).kept HB4.out
   obtain ⟨bt,hbt⟩:∃ bt,bt=wr.heap.size:=⟨_,rfl⟩
   have HBt:=hid hbt
   rw [<- hbt] at HX0
   rw [<- hbt]
   clear HP HB4 hz hl hbt
   by_cases hk0:ks=[]
   ·subst hk0
    go_loopw [43] (λi W=>i = .int .i64 0/\PxW w m y w1.heap.size w2.heap.size bt (pxL m y []) (tkL m y []) W) (λ_ _=>0)
    case atStart=>exact ⟨rfl,HX0.out⟩
    case round =>
     obtain ⟨rfl,hX⟩:=hrel
     have HX:=hid hX
     clear hX HX0
     go_wp2_with (first
      | (refine ld16 rfl _ rfl _ _ rfl HX.out.o ?_)
      | (refine st16 rfl _ _ rfl w.heap.size (pxL m y []) _ rfl rfl HX.out.r ?_;rintro w' hw' hB';have HB':=hid hB';have HW':=hid hw';clear hB' hw'))
     have hl:=lv16 HB'.out
     refine bodyPost_ret (v:=.agg (row16 (pxL m y [])).toArray) ?_ rfl ⟨rfl,?_⟩
     ·simp only [results,Tryz.results192]
      simp
      exact hl
     ·rw [HW'.out];exact Bl.puts HX.out.low (Nat.le_refl _) _
   ·obtain ⟨gl,lc,hse,hgl,hLst⟩:=Lst.of HOwn.out hk0
    simp only [Value.slice.injEq] at hse
    obtain ⟨rfl,_,rfl⟩:=hse
    have HL0:Hid (bt<gl):=Nat.lt_of_lt_of_le (by rw [HBt.out];simp) hgl
    have HLs:=hid hLst
    clear HOwn hgl hLst hk0
    go_loopw [43] (λi W=>∃ j:Nat,j<=ks.length/\i = .int .i64 j/\PxW w m y w1.heap.size w2.heap.size bt (pxL m y (ks.take j)) (tkL m y (ks.take j)) W/\Lst W gl ks) (λi _=>ks.length-(intOf i).toNat)
    case atStart=>exact ⟨0,Nat.zero_le _,rfl,HX0.out,HLs.out⟩
    case round =>
     clear HX0 HLs
     obtain ⟨j,hj,rfl,hX,hL⟩:=hrel
     have HX:=hid hX
     have HL:=hid hL
     clear hX hL
     by_cases hjl:j<ks.length
     ·have hjl':(j:Int)<ks.length:=by omega
      obtain ⟨k,hk⟩:∃ k,ks[j]? = some k:=⟨ks[j],List.getElem?_eq_getElem hjl⟩
      have HK:=hid (HKs.out k (List.mem_of_getElem? hk))
      have hcl:=HL.out.c j k hk
      have HJ:Hid (ks.take (j+1)=ks.take j++[k]):=by rw [List.take_add_one,hk];rfl
      clear hk
      go_wp2_with (first
       | (go_at_call 227;refine (zbu m _ g o c k _ (H.out.kept HX.out.low) HK.out.1).mono ?_;rintro e w5 ⟨rfl,hb5⟩;have HX5:=hid (HX.out.kept hb5);have HL5:=hid (HL.out.kept hb5);clear hb5)
       | (go_at_call 228;refine (zlM m _ g o c k y _ (H.out.kept (stA HX5.out.low _)) HK.out.2 hy).mono ?_;rintro e w6 ⟨rfl,hb6⟩;have HB6:=hid hb6;clear hb6))
      have HI0:Hid (InW w m y w1.heap.size w2.heap.size bt gl w5.heap.size ks (ks.take j) k 0 w6) :=
       ⟨((HX5.out.over _).kept HB6.out).congr (λx _=>(zlU x).symm) (λx _=>(zlV x).symm),(Bx.new w5 (scS m k) 309 rfl).kept HB6.out,HX5.out.t.z,(HL5.out.kept (stA (st0 w5) _)).kept HB6.out,HL0.out⟩
      clear HX HL HX5 HL5 HB6 hcl
      go_loopw [54] (λi W=>∃ n:Nat,n<=4/\i = .int .i64 n/\InW w m y w1.heap.size w2.heap.size bt gl w5.heap.size ks (ks.take j) k n W) (λi _=>4-(intOf i).toNat)
      case atStart=>exact ⟨0,Nat.zero_le _,rfl,HI0.out⟩
      case round =>
       clear HI0
       obtain ⟨n,hn,rfl,hI⟩:=hrel
       have HI:=hid hI
       clear hI
       by_cases h4:n<4
       ·have h4':(n:Int)<4:=by omega
        have ix:=λW=>idx4 (sdS m y k) n h4 W
        have hcb:clS m k<256:=gb_lt _ _
        have s1:=HI.out.s.at 1 _ rfl
        by_cases hR:16<=clS m k+n
        ·have hR':(16:Int)<=(clS m k:Int)+n:=by omega
         go_wp2
         exact ⟨⟨n+1,h4,by go_num,HI.out.same (zlY hR)⟩,by simp [intOf];omega⟩
        ·have hR':¬ (16:Int)<=(clS m k:Int)+n:=by omega
         have hX:clS m k+n<16:=by omega
         have hsl:=zpa m y k n
         by_cases hd:sdS m y k n=0
         ·have hd':((sdS m y k n:Int) == 0)=true:=by rw [hd];rfl
          have HD:=hid hd
          clear hd
          go_wp2
          exact ⟨⟨n+1,h4,by go_num,HI.out.same (znM h4 HD.out)⟩,by simp [intOf];omega⟩
         ·have hd':((sdS m y k n:Int) == 0)=false:=by simp;omega
          have HD:=hid hd
          clear hd
          have ct:=HI.out.t.at (clS m k+n) _ (zdv _ hX)
          rw [zj2] at ct
          cases ht:tkL m y (ks.take j) (clS m k+n) with
          | true =>
           rw [ht] at ct
           have HT:=hid ht
           clear ht
           go_wp2
           exact ⟨⟨n+1,h4,by go_num,HI.out.same (zlZ HT.out)⟩,by simp [intOf];omega⟩
          | false =>
           rw [ht] at ct
           have HT:=hid ht
           clear ht
           have ft:=HI.out.t.f (clS m k+n)
           have s5:=(HI.out.s.far (b':=bt) (o':=clS m k+n) (Nat.ne_of_lt HI.out.d4) (.bool true)).at 5 _ rfl
           have cg:=(HI.out.g.far (b':=bt) (o':=clS m k+n) (Nat.ne_of_gt (Nat.lt_trans HI.out.d2 HI.out.d3)) (.bool true)).at _ _ (zbF _ hX)
           have co:=(HI.out.o.far (b':=bt) (o':=clS m k+n) (Nat.ne_of_gt HI.out.d3) (.bool true)).at _ _ (zbF _ hX)
           have fo:=(HI.out.o.far (b':=bt) (o':=clS m k+n) (Nat.ne_of_gt HI.out.d3) (.bool true)).f (clS m k+n)
           have cm:=(H.out.kept (HI.out.toPxW.take _ hX).low).c (164+sdS m y k n) (by omega)
           by_cases hbh:128<=hwS m k
           ·rw [decide_eq_true hbh] at s5
            by_cases hg0:gd m y (clS m k+n)=0
            ·have hg':((gd m y (clS m k+n):Int) == 0)=true:=by rw [hg0];rfl
             have HS:=hid (zj4 h4 HD.out HT.out (λhh=>hh.2 hg0))
             clear hg0
             go_wp2
             exact ⟨⟨n+1,h4,by go_num,HI.out.seen hX HS.out⟩,by simp [intOf];omega⟩
            ·have hg':((gd m y (clS m k+n):Int) == 0)=false:=by simp;omega
             have HS:=hid (zj3 h4 HD.out HT.out hbh hg0)
             clear hg0
             go_wp2
             exact ⟨⟨n+1,h4,by go_num,HI.out.hid hX HS.out⟩,by simp [intOf];omega⟩
           ·rw [decide_eq_false hbh] at s5
            have HS:=hid (zj4 h4 HD.out HT.out (λhh=>hbh hh.1))
            go_wp2
            exact ⟨⟨n+1,h4,by go_num,HI.out.seen hX HS.out⟩,by simp [intOf];omega⟩
       ·have h9:¬ (n:Int)<4:=by omega
        have e4:n=4:=by omega
        subst e4
        clear h4 hn
        go_wp2
        refine ⟨⟨j+1,hjl,by go_num,?_,HI.out.l⟩,by simp [intOf];omega⟩
        rw [HJ.out]
        exact HI.out.toPxW.congr (λx _=>zlW x) (λx _=>zlX x)
     ·have hj9:¬ (j:Int)<ks.length:=by omega
      have ej:ks.take j=ks:=List.take_of_length_le (by omega)
      rw [ej] at HX
      clear ej
      go_wp2_with (first
       | (refine ld16 rfl _ rfl _ _ rfl HX.out.o ?_)
       | (refine st16 rfl _ _ rfl w.heap.size (pxL m y ks) _ rfl rfl HX.out.r ?_;rintro w' hw' hB';have HB':=hid hB';have HW':=hid hw';clear hB' hw'))
      have hl:=lv16 HB'.out
      refine bodyPost_ret (v:=.agg (row16 (pxL m y ks)).toArray) ?_ rfl ⟨rfl,?_⟩
      ·simp only [results,Tryz.results192]
       simp
       exact hl
      ·rw [HW'.out];exact Bl.puts HX.out.low (Nat.le_refl _) _
def ckP (n:Nat) (y:Int):Int:=if n=256 then (if 0<=y/\y<8 then 0 else 3) else 4
theorem zgv (a:Option Addr) (n c:Nat) (y:Int) (w:World):Calls Tryz.prog 191 #[.slice a n c,.int .i64 y] w λe w'=>e = .returned (.int .i64 (ckP n y))/\w=w':=by
 by_cases hn:n=256
 ·by_cases h1:y<0
  ·have e:ckP n y=3:=by unfold ckP;rw [if_pos hn,if_neg (by omega)]
   rw [e]
   subst hn
   go_enter Tryz.func191,Tryz.ntmps191
   go_wp2
   go_ret
   exact ⟨rfl,rfl⟩
  ·by_cases h2:(8:Int)<=y
   ·have e:ckP n y=3:=by unfold ckP;rw [if_pos hn,if_neg (by omega)]
    rw [e]
    subst hn
    go_enter Tryz.func191,Tryz.ntmps191
    go_wp2
    go_ret
    exact ⟨rfl,rfl⟩
   ·have e:ckP n y=0:=by unfold ckP;rw [if_pos hn,if_pos (by omega)]
    rw [e]
    subst hn
    go_enter Tryz.func191,Tryz.ntmps191
    go_wp2
    go_ret
    exact ⟨rfl,rfl⟩
 ·have e:ckP n y=4:=by unfold ckP;rw [if_neg hn]
  rw [e]
  have hn':((n:Int) != 256)=true:=by simp;omega
  go_enter Tryz.func191,Tryz.ntmps191
  go_wp2
  go_ret
  exact ⟨rfl,rfl⟩
theorem zj5 (m:List UInt8) (v:Value) (g o c:Nat) (y:Nat) (w:World) (h:Mm w m v g o c) (hy:y<8) :
 Calls Tryz.prog 111 #[v,.int .i64 y] w λe w'=>e = .returned (.tuple #[.agg (row16 (px m y)).toArray,.int .i64 0])/\Below w.heap.size w w':=by
 have H:=hid h
 obtain ⟨rfl,hl,hz,hc⟩:=h
 have he:ckP 256 y=0:=by unfold ckP;rw [if_pos rfl,if_pos (by omega)]
 have HE:=hid he
 clear hc he
 go_enter Tryz.func111,Tryz.ntmps111
 go_wp2_with (first
  | (go_at_call 191;refine (zgv _ _ _ _ _).mono ?_;rw [HE.out];rintro e w1 ⟨rfl,rfl⟩)
  | (go_at_call 192;refine (zhX m _ g o c y _ (H.out.kept (stA (st0 w) _)) hy).mono ?_;rintro e w2 ⟨rfl,hb2⟩)
  | (refine st16 rfl _ _ rfl w.heap.size (px m y) (λ_=>0) rfl rfl ((Bx.new w (row16 λ_=>0) _ rfl).kept hb2) ?_;rintro w3 hw3 hB3;have HB3:=hid hB3;have HW3:=hid hw3;clear hB3 hw3))
 have hl:=lv16 HB3.out
 refine bodyPost_ret (v:=.tuple #[.agg (row16 (px m y)).toArray,.int .i64 0]) ?_ rfl ⟨rfl,?_⟩
 ·simp only [results,Tryz.results111]
  simp
  show (Result.andThen (Sem.run Tryz.prog (loadVar 60 ⟨w.heap.size,0,none⟩) w3) _)=_
  rw [hl]
  rfl
 ·rw [HW3.out];exact Bl.puts (stp (stA (st0 w) _) hb2) (Nat.le_refl _) _
structure Inp where
 c:Int
 p:Int
 d:Int
structure Lin where
 f:Int
 l:Int
 px:Nat->Nat
def Pd.press (p:Pd) (x:Int):Pd:=⟨x,p.l,sel p.l x p.s⟩
def Mach.press (M:Mach) (x:Inp):Mach:=if x.p=0 then { M with p0:=M.p0.press x.d } else { M with p1:=M.p1.press x.d }
def Mach.pressed (M:Mach):List Inp->Mach
 | []=>M
 | x::l=>if x.c<=M.clock then (M.press x).pressed l else M
def Mach.coming (M:Mach):List Inp->List Inp
 | []=>[]
 | x::l=>if x.c<=M.clock then M.coming l else x::l
def Mach.line (M:Mach):List Lin:=if M.b.a=0/\M.b.l<8 then [⟨M.b.f,M.b.l,px M.video M.b.l.toNat⟩] else []
def Mach.sample (M:Mach):List UInt8:=if M.s.w=0 then sms M.s 1 else []
def Bst.stepMain (s:Bst):Bst :=
 if s.M.clock<s.M.mready then s else
  let y:=C.step mainMem s.M.main ⟨s.M,0,s.l⟩ (s.M.t.g || s.M.b.g)
  ⟨{ y.s.M with main:=y.c,mready:=y.s.M.clock+3*y.n+y.s.n },y.s.n,y.s.l⟩
def Bst.stepAux (s:Bst):Bst :=
 if s.M.held=true \/ s.M.clock<s.M.aready then s else
  let y:=C.step auxMem s.M.aux s s.M.rung
  ⟨{ y.s.M with aux:=y.c,aready:=y.s.M.clock+5*y.n },y.s.n,y.s.l⟩
def Bem.one (b:Bem):Bem:=if bok b.l b.a b.f then ⟨bmL b.l b.a 1,bmA b.l b.a 1,bmG b.l b.a b.g 1,bmF b.l b.a b.f 1⟩ else ⟨0,0,false,0⟩
def Mach.goOn (M:Mach):Mach:={ M with t:=⟨M.t.r,tkC M.t.r M.t.c M.t.on,M.t.on,tkG M.t.c M.t.on M.t.g⟩,s:=M.s.ticks 1,b:=M.b.one,clock:=M.clock+1 }
structure Cs where
 s:Bst
 co:List Inp
 ln:List Lin
 sm:List UInt8
def Cs.now (c:Cs):Cs :=
 let M:=c.s.M.pressed c.co
 ⟨(Bst.stepMain ⟨M,c.s.n,c.s.l⟩).stepAux,c.s.M.coming c.co,c.ln++M.line,c.sm++M.sample⟩
def Cs.clock (c:Cs):Cs:={ c.now with s:=⟨c.now.s.M.goOn,c.now.s.n,c.now.s.l⟩ }
def Cs.clocks (c:Cs):Nat->Cs
 | 0=>c
 | k+1=>(c.clocks k).clock
/-! ### what is in range stays in range -/
theorem Pd.press_ok {p:Pd} (h:p.ok) {x:Int} (hx:0<=x/\x<=255):(p.press x).ok:=⟨hx,by
 show 0<=sel p.l x p.s/\sel p.l x p.s<=255
 unfold sel
 have:=h.s
 split <;> omega⟩
theorem zai {P:Program} {a:Act} {o:Oper} {w:World} (ty:TypeId) (x:Operand) (ho:o.op = .load ty x) (b off:Nat) (hx:a.eval x = .pointer (some ⟨b,off,none⟩)) (cs:List Value) (u:TypeDesc) (hc:w.rangeAt b off cs) (hu:P.underlying ty=some u) (hag:u.isRow=true) (hi:(P.info? ty).map (·.size)=some cs.length) :
 (execOp a.eval o).run P w = .ok (.value (.agg cs.toArray)) w:=by
 unfold execOp
 simp only [ho,hx,Sem.run_bind,run_loadAt_mid w b off ty cs u hc hu hag hi,Result.andThen_ok,Sem.run_pure]
def conL (F:Fx) (vco vln vsm:Value):List Value:=[pt F.g 0,vco,vln,vsm,.slice none 0 0,pt F.g 0]
structure CB (F : Fx) (N c : Nat) (vco vln vsm : Value) (w : World) : Prop where
 n:N<=c
 blk:w.heap[c]? = some (.cells (conL F vco vln vsm).toArray 93 (0,0))
section
variable {F : Fx} {N c : Nat} {vco vln vsm : Value} {w w1 : World} {s s' : Bst}
theorem CB.z (h:CB F N c vco vln vsm w):c<w.heap.size:=(Array.getElem?_eq_some_iff.1 h.blk).1
theorem CB.bx (h:CB F N c vco vln vsm w):Bx w c (conL F vco vln vsm):=⟨h.z,λj v hj=>(Lib.cell_of_heap h.blk (0+j)).trans (by rw [Nat.zero_add,List.getElem?_toArray];exact hj),λo=>Lib.frozen_of_heap h.blk o⟩
theorem CB.out (h:CB F N c vco vln vsm w):¬ Tw (BT N) w s c:=Tw.of (λe=>Nat.not_lt.2 h.n e) h.blk (by decide)
theorem CB.same (h:CB F N c vco vln vsm w) (e:w1.heap[c]? = w.heap[c]?):CB F N c vco vln vsm w1:=⟨h.n,e.trans h.blk⟩
theorem CB.kept (h:CB F N c vco vln vsm w) (hb:Below w.heap.size w w1):CB F N c vco vln vsm w1:=h.same (hb.block c h.z)
structure NM (F : Fx) (N : Nat) (w : World) (s s' : Bst) (w1 : World) : Prop where
 i:BI F N w1 s'
 m:Mv F.B (Tw (BT N) w s) (Tw (BT N) w1 s') w w1
theorem NM.cb (h:NM F N w s s' w1) (hc:CB F N c vco vln vsm w):CB F N c vco vln vsm w1:=hc.same (h.m.block c hc.z hc.out)
theorem NM.trans {s2:Bst} {w2:World} (h:NM F N w s s' w1) (k:NM F N w1 s' s2 w2):NM F N w s s2 w2:=⟨k.i,h.m.trans k.m⟩
theorem BI.big (h:BI F N w s):F.B<=w.heap.size:=by obtain ⟨v,hB⟩:=h.bd;exact hB.big
theorem BI.kept (hF:Fb F N) (h:BI F N w s) (hb:Below w.heap.size w w1):BI F N w1 s:=h.keep hF hb.size (λk hk=>hb.block k (hk.lt (λj hj=>Nat.lt_of_lt_of_le hj h.N)))
theorem NM.refl (hF:Fb F N) (h:BI F N w s) (hb:Below w.heap.size w w1):NM F N w s s w1:=⟨h.kept hF hb,(Mv.of_below (T:=Tw (BT N) w s) h.big hb).weak (λk hk=>hk.low hb)⟩
theorem NM.of (hF:Fb F N) (hI:BI F N w s) (hn:0<=s'.n) {v:Value} (hB:Bd F w1 s'.M ⟨s'.n,s'.l,v⟩) (ht:Bt F w w1):NM F N w s s' w1:=by
 obtain ⟨h1,h2⟩:=BE.out hF hI (⟨⟨v,hB⟩,ht.w⟩:BE F w w1 s') hn
 exact ⟨h1,h2⟩
theorem Bd.mainR {W:World} {M:Mach} {tk:Tk} (h:Bd F W M tk):W.rangeAt F.g 0 (cpuL M.main):=λi v hi=>by
 refine h.at (0+i) v ?_
 have hl:=(List.getElem?_eq_some_iff.1 hi).1
 have hc:i=0 \/ i=1 \/ i=2 \/ i=3 \/ i=4 \/ i=5 \/ i=6 \/ i=7 \/ i=8 \/ i=9 \/ i=10 \/ i=11 \/ i=12 \/ i=13 \/ i=14:=by simp [cpuL] at hl;omega
 rcases hc with rfl|rfl|rfl|rfl|rfl|rfl|rfl|rfl|rfl|rfl|rfl|rfl|rfl|rfl|rfl <;> exact hi
theorem Bd.auxR {W:World} {M:Mach} {tk:Tk} (h:Bd F W M tk):W.rangeAt F.g 15 (cpuL M.aux):=λi v hi=>by
 refine h.at (15+i) v ?_
 have hl:=(List.getElem?_eq_some_iff.1 hi).1
 have hc:i=0 \/ i=1 \/ i=2 \/ i=3 \/ i=4 \/ i=5 \/ i=6 \/ i=7 \/ i=8 \/ i=9 \/ i=10 \/ i=11 \/ i=12 \/ i=13 \/ i=14:=by simp [cpuL] at hl;omega
 rcases hc with rfl|rfl|rfl|rfl|rfl|rfl|rfl|rfl|rfl|rfl|rfl|rfl|rfl|rfl|rfl <;> exact hi
theorem zj6 (c:C.Cpu):(cpuL c).toArray.all (·.oneCell')=true:=by simp [cpuL,Value.oneCell']
end
section
variable {F : Fx} {N c : Nat} {vco vln vsm : Value} {w w1 : World} {s s' : Bst}
structure XM (F : Fx) (N c : Nat) (vco vln vsm : Value) (w : World) (s : Bst) (M : Mach) (l : List Wt) (Y : World) : Prop where
 nm:NM F N w s ⟨M,0,l⟩ Y
 cb:CB F N c vco vln vsm Y
theorem XM.i {M:Mach} {l:List Wt} {Y:World} (h:XM F N c vco vln vsm w s M l Y):BI F N Y ⟨M,0,l⟩:=h.nm.i
theorem XM.ss {M:Mach} {l:List Wt} {Y:World} {tg bg:Bool} (h:XM F N c vco vln vsm w s M l Y) (e1:M.t.g=tg) (e2:M.b.g=bg):Y.cell? ⟨c,5,none⟩=some (pt F.g 0)/\Y.rangeAt F.g 0 (cpuL M.main)/\Y.cell? ⟨F.g,44,none⟩=some (.bool tg)/\Y.cell? ⟨F.g,63,none⟩=some (.bool bg):=by
 obtain ⟨v,hB⟩:=h.nm.i.bd
 subst e1
 subst e2
 exact ⟨h.cb.bx.at 5 _ rfl,hB.mainR,hB.at 44 _ rfl,hB.at 63 _ rfl⟩
theorem XM.kept' {M:Mach} {l:List Wt} {Y Y':World} (hF:Fb F N) (h:XM F N c vco vln vsm w s M l Y) (hb:Below Y.heap.size Y Y'):XM F N c vco vln vsm w s M l Y':=⟨h.nm.trans (NM.refl hF h.nm.i hb),h.cb.kept hb⟩
structure XN (F : Fx) (N c : Nat) (vco vln vsm : Value) (w : World) (s s' : Bst) (Y : World) : Prop where
 nm:NM F N w s s' Y
 cb:CB F N c vco vln vsm Y
theorem Lk.stepMain (hF:Fb F N) (hI:BI F N w s) (hc:CB F N c vco vln vsm w):Calls Tryz.prog 62 #[pt c 0] w λe w'=>e = .returned (.tuple #[])/\NM F N w s s.stepMain w':=by
 have k0:=hc.bx.at 0 _ rfl
 have k5:=hc.bx.at 5 _ rfl
 have kz:=hc.z
 obtain ⟨v,hB⟩:=hI.bd
 obtain ⟨M,n,l⟩:=s
 have m72:=hB.at 72 (.int .i64 M.clock) rfl
 have m73:=hB.at 73 (.int .i64 M.mready) rfl
 have m75:=hB.at 75 (.int .i64 n) rfl
 have mz:=hB.bx.z
 have mf:=hB.bx.f 75
 have HF:=hid hF
 have HI:=hid hI
 have HC:=hid hc
 have HB:=hid hB
 clear hF hI hc hB
 by_cases hr:M.clock<M.mready
 ·have e0:Bst.stepMain ⟨M,n,l⟩=⟨M,n,l⟩:=by unfold Bst.stepMain;exact if_pos hr
  rw [e0]
  go_enter Tryz.func62,Tryz.ntmps62
  go_wp2
  go_quiet (fail)
  go_wp2
  exact bodyPost_ret (v:=.tuple #[]) (by simp [results,Tryz.results62,go_sem]) rfl ⟨rfl,NM.refl HF.out HI.out (Bl.drewN (st0 w) nq)⟩
 ·obtain ⟨y,hy⟩:∃ y,y=C.step mainMem M.main ⟨M,0,l⟩ (M.t.g || M.b.g):=⟨_,rfl⟩
  obtain ⟨M3,hM3⟩:∃ M3:Mach,M3={ y.s.M with main:=y.c }:=⟨_,rfl⟩
  have e0:Bst.stepMain ⟨M,n,l⟩=⟨{ M3 with mready:=M3.clock+3*y.n+y.s.n },y.s.n,y.s.l⟩:=by rw [hM3,hy];unfold Bst.stepMain;exact if_neg hr
  rw [e0]
  have HM3:=hid hM3
  clear hM3
  have hr':M.mready<=M.clock:=by omega
  obtain ⟨tg,htg⟩:∃ b,M.t.g=b:=⟨_,rfl⟩
  obtain ⟨bg,hbg⟩:∃ b,M.b.g=b:=⟨_,rfl⟩
  have hfu:4<=mainMem.fuel ⟨M,0,l⟩:=by show 4<=(1000000000000-(0:Int)).toNat/510;decide
  have hdo:∀ W,BI F N W ⟨M,0,l⟩->Calls Tryz.prog 112 #[.agg (cpuL M.main).toArray,reachV F.g 77,.bool (M.t.g || M.b.g)] W λe w'=>e = .returned (.tuple #[.agg (cpuL y.c).toArray,.int .i64 y.n])/\BI F N w' y.s/\Mv F.B (Tw (BT N) W ⟨M,0,l⟩) (Tw (BT N) w' y.s) W w'/\y.c.ok:=λW h=>by
   rw [hy]
   exact zmE (zfm HF.out) (M.t.g || M.b.g) W M.main ⟨M,0,l⟩ HB.out.fit.main hfu h
  rw [htg,hbg] at hdo
  have hyn:0<=y.n/\y.n<=21:=by rw [hy];exact C.step_n _ _ _ (rk_bd _ (zfl (zfm HF.out) _ _)).1
  have hfl:mainMem.fuel ⟨M,0,l⟩<=mainMem.fuel y.s+4:=by rw [hy];exact C.fuel_step (zfm HF.out).frd (zfm HF.out).fwr _ _ _
  have hsn:y.s.n<=2550:=by
   have h0:(1000000000000-(0:Int)).toNat/510<=(1000000000000-y.s.n).toNat/510+4:=hfl
   omega
  have HD:=hid hdo
  have HTG:=hid htg
  have HBG:=hid hbg
  have HYN:=hid hyn
  have HSN:=hid hsn
  clear htg hbg hy e0 hfu hdo hfl hr hyn hsn
  go_enter Tryz.func62,Tryz.ntmps62
  go_wp2
  go_quiet (fail)
  go_upto_region 4 with fail
  have hB0:=(HB.out.drewN nq).put (M':=M) (tk':=⟨0,l,v⟩) 75 (.int .i64 0) (by omega) rfl ⟨rfl,rfl,rfl,rfl,rfl⟩ HB.out.fit
  refine Pl.cutW (XM F N c vco vln vsm w ⟨M,n,l⟩ M l) ⟨NM.of HF.out HI.out (Int.le_refl 0) hB0 (Bt.set HB.out.nd (Bt.kept (Bt.refl F w) HB.out.big (Bl.drewN (st0 w) nq)) 75 _),HC.out.same (zae (W:=w.drewN nq) (λe=>by have:=HC.out.n;have:=HF.out.into.g;omega))⟩ ?_
  intro Y hY
  have HX:=hid (hY.kept' HF.out (st0 Y).drew)
  have hS:=(hY.kept' HF.out (st0 Y).drew).ss HTG.out HBG.out
  clear hY hB0 HB HI HC k0 k5 kz m72 m73 m75 mz mf hr'
  refine zac (S:=λw'=>w'.cell? ⟨c,5,none⟩=some (pt F.g 0)/\w'.rangeAt F.g 0 (cpuL M.main)/\w'.cell? ⟨F.g,44,none⟩=some (.bool tg)/\w'.cell? ⟨F.g,63,none⟩=some (.bool bg)) (st:=22) (by kernel_rfl) ?_
  refine tqG 0 ⟨some 24,_,_,_,_,none⟩ (λ_=>hS) ?_
  simp only [Act.put,xA,xB,xC]
  refine tqG 1 ⟨some 25,_,_,_,_,none⟩ (λ_=>hS) ?_
  simp only [Act.put,xA,xB,xC]
  refine tqG 2 ⟨some 26,_,_,_,_,none⟩ (λ_=>hS) ?_
  simp only [Act.put,xA,xB,xC]
  refine tqG 3 ⟨some 27,_,_,_,_,none⟩ (λ_=>hS) ?_
  simp only [Act.put,xA,xB,xC]
  refine tqG 5 ⟨some 29,_,_,_,_,none⟩ (λ_=>hS) ?_
  simp only [Act.put,xA,xB,xC]
  refine tqG 6 ⟨some 30,_,_,_,_,none⟩ (λ_=>hS) ?_
  simp only [Act.put,xA,xB,xC]
  refine tqG 7 ⟨some 31,_,_,_,_,none⟩ (λ_=>hS) ?_
  simp only [Act.put,xA,xB,xC]
  refine tqG 10 ⟨some 34,_,_,_,_,none⟩ (λ_=>hS) ?_
  simp only [Act.put,xA,xB,xC]
  refine tqG 11 ⟨some 35,_,_,_,_,none⟩ (λ_=>hS) ?_
  simp only [Act.put,xA,xB,xC]
  refine tqG 12 ⟨some 36,_,_,_,_,none⟩ (λ_=>hS) ?_
  simp only [Act.put,xA,xB,xC]
  refine tqG 13 ⟨some 37,_,_,_,_,none⟩ (λ_=>hS) ?_
  simp only [Act.put,xA,xB,xC]
  refine zaf (i:=4) (oi:=⟨some 28,_,_,_,_,none⟩) (v:=.agg (cpuL M.main).toArray) rfl (by kernel_rfl) (by kernel_rfl) (by kernel_rfl) (by kernel_rfl) (by decide) (by kernel_rfl) (λ_ _ _ h=>h) (Or.inl ⟨by rfl,λw' hSw=>zai 25 _ rfl F.g 0 rfl (cpuL M.main) _ hSw.2.1 Tryz.underlying25 rfl zbb⟩) hS ?_
  simp only [Act.put,xA,xB,xC]
  refine zbq 9 (i:=8) (oi:=⟨some 32,_,_,_,_,none⟩) (v:=pt F.g 0) rfl (by kernel_rfl) (by kernel_rfl) (by kernel_rfl) (by kernel_rfl) (by kernel_rfl) (by decide) (by decide) (by kernel_rfl) (by kernel_rfl) (λ_ _ _ h=>h) (Or.inl ⟨by rfl,?_⟩) hS ?_
  ·intro w' hSw
   have hcc:=hSw.1
   have hcz:=World.block_lt_of_cell? w' _ hcc
   go_simp
   try (with_reducible rfl)
  simp only [Act.put,xA,xB,xC]
  refine zbq 15 (i:=14) (oi:=⟨some 38,_,_,_,_,none⟩) (v:=.bool tg) rfl (by kernel_rfl) (by kernel_rfl) (by kernel_rfl) (by kernel_rfl) (by kernel_rfl) (by decide) (by decide) (by kernel_rfl) (by kernel_rfl) (λ_ _ _ h=>h) (Or.inl ⟨by rfl,?_⟩) hS ?_
  ·intro w' hSw
   have hcc:=hSw.2.2.1
   have hcz:=World.block_lt_of_cell? w' _ hcc
   go_simp
   try (with_reducible rfl)
  simp only [Act.put,xA,xB,xC]
  refine zaa (i:=9) (o:=⟨some 33,_,_,_,_,none⟩) (by kernel_rfl) rfl (λK hK=>?_)
  go_simp
  go_at_call 53
  refine (zdj F.g _).mono ?_
  rintro e w1 ⟨rfl,hb1⟩
  have HX1:=hid (HX.out.kept' HF.out hb1)
  clear hb1
  try go_wp2_with fail
  refine hK.out _ _ (λ_=>HX1.out.ss HTG.out HBG.out) ?_
  clear hK K
  try simp only [Act.put,xA,xB,xC]
  clear hS
  have hS:=HX1.out.ss HTG.out HBG.out
  refine tqG 15 ⟨some 39,_,_,_,_,none⟩ (λ_=>hS) ?_
  simp only [Act.put,xA,xB,xC]
  cases tg
  case' false =>
   refine tqG 16 { dst:=some 40,op:=_,type:=_,pos:=_,after:=_,guard:=some (15,false) } (λ_=>hS) ?_
   simp only [Act.put,xA,xB,xC]
   refine tqG 17 { dst:=some 41,op:=_,type:=_,pos:=_,after:=_,guard:=some (15,false) } (λ_=>hS) ?_
   simp only [Act.put,xA,xB,xC]
   refine tqG 18 { dst:=some 42,op:=_,type:=_,pos:=_,after:=_,guard:=some (15,false) } (λ_=>hS) ?_
   simp only [Act.put,xA,xB,xC]
   refine tqG 19 { dst:=some 43,op:=_,type:=_,pos:=_,after:=_,guard:=some (15,false) } (λ_=>hS) ?_
   simp only [Act.put,xA,xB,xC]
   refine zbq 21 (i:=20) (oi:={ dst:=some 44,op:=_,type:=_,pos:=_,after:=_,guard:=some (15,false) }) (v:=.bool bg) rfl (by kernel_rfl) (by kernel_rfl) (by kernel_rfl) (by kernel_rfl) (by kernel_rfl) (by decide) (by decide) (by kernel_rfl) (by kernel_rfl) (λ_ _ _ h=>h) (Or.inl ⟨by rfl,?_⟩) hS ?_
   ·intro w' hSw
    have hcc:=hSw.2.2.2
    have hcz:=World.block_lt_of_cell? w' _ hcc
    go_simp
    try (with_reducible rfl)
   simp only [Act.put,xA,xB,xC]
  case' true =>
   refine zaR (i:=16) (oi:={ dst:=some 40,op:=_,type:=_,pos:=_,after:=_,guard:=some (15,false) }) (v:=undef) rfl (by kernel_rfl) (by kernel_rfl) (by kernel_rfl) (by decide) (λ_ _ _ h=>h) (Or.inr ⟨by rfl,rfl⟩) (λ_=>hS) ?_
   simp only [Act.put,xA,xB,xC]
   refine zaR (i:=17) (oi:={ dst:=some 41,op:=_,type:=_,pos:=_,after:=_,guard:=some (15,false) }) (v:=undef) rfl (by kernel_rfl) (by kernel_rfl) (by kernel_rfl) (by decide) (λ_ _ _ h=>h) (Or.inr ⟨by rfl,rfl⟩) (λ_=>hS) ?_
   simp only [Act.put,xA,xB,xC]
   refine zaR (i:=18) (oi:={ dst:=some 42,op:=_,type:=_,pos:=_,after:=_,guard:=some (15,false) }) (v:=undef) rfl (by kernel_rfl) (by kernel_rfl) (by kernel_rfl) (by decide) (λ_ _ _ h=>h) (Or.inr ⟨by rfl,rfl⟩) (λ_=>hS) ?_
   simp only [Act.put,xA,xB,xC]
   refine zaR (i:=19) (oi:={ dst:=some 43,op:=_,type:=_,pos:=_,after:=_,guard:=some (15,false) }) (v:=undef) rfl (by kernel_rfl) (by kernel_rfl) (by kernel_rfl) (by decide) (λ_ _ _ h=>h) (Or.inr ⟨by rfl,rfl⟩) (λ_=>hS) ?_
   simp only [Act.put,xA,xB,xC]
   refine zaR (i:=20) (oi:={ dst:=some 44,op:=_,type:=_,pos:=_,after:=_,guard:=some (15,false) }) (v:=undef) rfl (by kernel_rfl) (by kernel_rfl) (by kernel_rfl) (by decide) (λ_ _ _ h=>h) (Or.inr ⟨by rfl,rfl⟩) (λ_=>hS) ?_
   simp only [Act.put,xA,xB,xC]
  all_goals
   refine tqG 21 ⟨some 45,_,_,_,_,none⟩ (λ_=>hS) ?_
   simp only [Act.put,xA,xB,xC]
   refine zaa (i:=22) (o:=⟨some 46,_,_,_,_,none⟩) (by kernel_rfl) rfl (λK hK=>?_)
   go_simp
   go_at_call 112
   refine (HD.out _ HX1.out.i).mono ?_
   rintro e w2 ⟨rfl,hI2,hm2,hk2⟩
   have HI2:=hid hI2
   have HM2:=hid hm2
   have HK2:=hid hk2
   clear hI2 hm2 hk2
   try go_wp2_with fail
   refine hK.out _ _ (λh=>by simp at h) ?_
   clear hK K
   try simp only [Act.put,xA,xB,xC]
   refine tqG 23 ⟨some 23,_,_,_,_,none⟩ (λh=>by simp at h) ?_
   simp only [Act.put,xA,xB,xC]
   refine tqG 24 ⟨some 47,_,_,_,_,none⟩ (λh=>by simp at h) ?_
   simp only [Act.put,xA,xB,xC]
   refine tqG 25 ⟨some 48,_,_,_,_,none⟩ (λh=>by simp at h) ?_
   simp only [Act.put,xA,xB,xC]
   refine tqG 26 ⟨some 49,_,_,_,_,none⟩ (λh=>by simp at h) ?_
   simp only [Act.put,xA,xB,xC]
   refine tqG 27 ⟨some 50,_,_,_,_,none⟩ (λh=>by simp at h) ?_
   simp only [Act.put,xA,xB,xC]
   obtain ⟨v2,hB2⟩:=HI2.out.bd
   have HB2:=hid hB2
   clear hB2
   refine zaa (i:=28) (o:=⟨none,_,_,_,_,none⟩) (by kernel_rfl) rfl (λK hK=>?_)
   refine zam rfl 25 _ _ rfl F.g 0 (cpuL y.c).toArray rfl rfl (Bx.there HB2.out.bx 0 15 (by rw [Fx.len];omega)) zbb (zj6 y.c) ?_
   refine hK.out _ _ (λh=>by simp at h) ?_
   clear hK K
   refine tqG 29 ⟨some 3,_,_,_,_,none⟩ (λh=>by simp at h) ?_
   simp only [Act.put,xA,xB,xC]
   refine zab (by kernel_rfl) ?_ _
   refine Pl.cutE (XN F N c vco vln vsm w ⟨M,n,l⟩ ⟨M3,y.s.n,y.s.l⟩) ?_ ?_
   ·have hx:NM F N w1 ⟨M,0,l⟩ ⟨M3,y.s.n,y.s.l⟩ (w2.setCells F.g 0 (cpuL y.c)):=(⟨HI2.out,HM2.out⟩:NM F N w1 ⟨M,0,l⟩ y.s w2).trans (NM.of (s':=⟨M3,y.s.n,y.s.l⟩) HF.out HI2.out HI2.out.n (by rw [HM3.out];exact HB2.out.puts (M':={ y.s.M with main:=y.c }) (tk':=⟨y.s.n,y.s.l,v2⟩) 0 (cpuL y.c) (by simp [cpuL]) (F.putMain y.s.M _ y.c) ⟨rfl,rfl,rfl,rfl,rfl⟩ { HB2.out.fit with main:=HK2.out,aux:=HB2.out.fit.aux }) (Bt.sets HB2.out.nd (cpuL y.c) 0 _ (Bt.refl F w2)))
    exact ⟨HX1.out.nm.trans hx,hx.cb HX1.out.cb⟩
   intro V hV
   obtain ⟨v3,hB3⟩:=hV.nm.i.bd
   have k5:=hV.cb.bx.at 5 _ rfl
   have kz:=hV.cb.z
   have m72:=hB3.at 72 (.int .i64 M3.clock) rfl
   have m75:=hB3.at 75 (.int .i64 y.s.n) rfl
   have m73:=hB3.at 73 (.int .i64 M3.mready) rfl
   have mz:=hB3.bx.z
   have mf:=hB3.bx.f 73
   have hcl:0<=M3.clock/\M3.clock<=200000:=hB3.fit.clock
   have hne:c≠F.g:=λe=>by have:=hV.cb.n;have:=HF.out.into.g;omega
   have hne':F.g≠c:=λe=>hne e.symm
   have hn0:0<=y.s.n:=hV.nm.i.n
   have hyn:=HYN.out
   have hsn:=HSN.out
   have w1':IntKind.i64.wrap (3*y.n)=3*y.n:=by rw [IntKind.wrap_i64];omega
   have w2':IntKind.i64.wrap (M3.clock+3*y.n)=M3.clock+3*y.n:=by rw [IntKind.wrap_i64];omega
   have w3':IntKind.i64.wrap (M3.clock+3*y.n+y.s.n)=M3.clock+3*y.n+y.s.n:=by rw [IntKind.wrap_i64];omega
   have hfit:Mach.fit { M3 with mready:=M3.clock+3*y.n+y.s.n }:={ hB3.fit with main:=hB3.fit.main,mready:=by show 0<=M3.clock+3*y.n+y.s.n/\M3.clock+3*y.n+y.s.n<=M3.clock+20000;omega }
   have HV:=hid hV
   have HB3:=hid hB3
   have HFI:=hid hfit
   have HKP:Hid (∀ u,(V.setCell ⟨F.g,73,none⟩ u).drew.cell? ⟨c,5,none⟩=some (pt F.g 0)/\(V.setCell ⟨F.g,73,none⟩ u).drew.cell? ⟨F.g,72,none⟩=some (.int .i64 M3.clock)/\(V.setCell ⟨F.g,73,none⟩ u).drew.cell? ⟨F.g,75,none⟩=some (.int .i64 y.s.n)):=λu=>⟨(World.cell?_of_block (w:=V) (zae hne)).trans k5,(World.cell?_setCell_other _ _ _ _ (by simp)).trans m72,(World.cell?_setCell_other _ _ _ _ (by simp)).trans m75⟩
   clear hV hB3 hfit HX HX1 HI2 HM2 HK2 HB2 HD hS hyn hsn hcl hn0
   go_wp2
   go_region_held3 (λw'=>w'.cell? ⟨c,5,none⟩=some (pt F.g 0)/\w'.cell? ⟨F.g,72,none⟩=some (.int .i64 M3.clock)/\w'.cell? ⟨F.g,75,none⟩=some (.int .i64 y.s.n))
    (first|(go_keep;done)|with_reducible exact HKP.out _)
    (fail)
   go_wp2
   go_end0
   refine ⟨rfl,HV.out.nm.trans (NM.of (s':=⟨{ M3 with mready:=M3.clock+3*y.n+y.s.n },y.s.n,y.s.l⟩) HF.out HV.out.nm.i HV.out.nm.i.n (v:=v3) ?_ ?_)⟩
   ·exact (HB3.out.drew).put (M':={ M3 with mready:=M3.clock+3*y.n+y.s.n }) (tk':=⟨y.s.n,y.s.l,v3⟩) 73 _ (by omega) rfl ⟨rfl,rfl,rfl,rfl,rfl⟩ HFI.out
   ·exact Bt.set HB3.out.nd (Bt.kept (Bt.refl F V) HB3.out.big (st0 V).drew) 73 _
end
end Go.Proofs.YtbennamieealbaaGreatDoor
