/-
  Parts of a proof, joined.
-/
import Derived.Test.YtbennamieealbaaGreatDoorZg20
import Derived.Test.YtbennamieealbaaGreatDoorZg36
import Derived.Test.YtbennamieealbaaGreatDoorZg37
set_option linter.unusedVariables false
set_option maxRecDepth 100000
set_option maxHeartbeats 3200000
namespace Go.Proofs.YtbennamieealbaaGreatDoor
open Go.ChangeShapes Go.WideShapes Go.ChangeAt Go.RowKit
structure Shp (w : World) : Prop where
 shapes:shapesAt w
theorem Shp.kept {w w1:World} (h:Shp w) (hb:Below w.heap.size w w1):Shp w1:=⟨h.shapes.kept hb⟩
theorem Ct.goes_1 (M:Mach) (S:Sl) (v:Value) (l:List Inp) (a b:Int) (w:World) (hF:Shp w) (hs:SlAt w S M) (hok:M.ok) (hin:InpAt w.heap.size w v l) (ha:-9223372036854775808<=a/\a<=9223372036854775807) (hb:-9223372036854775808<=b/\b<=9223372036854775807) (hr:runErr M l a≠0) :
 Calls Tryz.prog 5 #[.agg (machL M S).toArray,v,.int .i64 a,.int .i64 b] w λe w'=>e = .returned (.bool true)/\Below w.heap.size w w':=by
 have HF:=hid hF
 have hq:Below w.heap.size w (w.alloc (.cells (machL M S).toArray 41)):=stA (st0 w) _
 have HB:=hid (Bx.new w (machL M S) 41 (b:=w.heap.size) rfl)
 have HIN:=hid hin
 have HS:=hid hs.lens
 have HOK:=hid hok
 have HA:=hid ha
 obtain ⟨c,hc⟩:∃ c,runErr M l a=c:=⟨_,rfl⟩
 have HRA:=hid hc
 have hne:(c != 0)=true:=by rw [<- hc];simpa using hr
 clear hr hc
 clear hF hs hok hin ha
 go_enter Tryz.func5,Tryz.ntmps5
 go_wp2_with (first
  | (go_at_call 18;refine (Sv.saved _).mono ?_;rintro e w9 ⟨rfl,hb9⟩;have HL9:=hid (stp HL2.out hb9);clear hb9)
  | (go_at_call 18;refine (Sv.saved _).mono ?_;rintro e w1 ⟨rfl,hb1⟩;have HB1:=hid (HB.out.kept hb1);have HL1:=hid (stp hq hb1);clear hb1)
  | (refine Bu.loadG rfl 41 _ rfl w.heap.size 0 rfl (machL M S) _ HB2.out.c Tryz.underlying41 rfl zad ?_)
  | (refine Bu.loadG rfl 41 _ rfl w.heap.size 0 rfl (machL M S) _ HB1.out.c Tryz.underlying41 rfl zad ?_)
  | (go_at_call 14;refine (Lk.badRun M S v l a _ HS.out HOK.out ((HIN.out.kept HL1.out).mono HL1.out.size) HA.out).mono ?_;rw [HRA.out];rintro e w2 ⟨rfl,hb2⟩;have HB2:=hid (HB1.out.kept hb2);have HL2:=hid (stp HL1.out hb2);clear hb2))
 go_ret
 exact ⟨rfl,HL9.out⟩
theorem Ct.goes_2 (M:Mach) (S:Sl) (v:Value) (l:List Inp) (a b:Int) (w:World) (hF:Shp w) (hs:SlAt w S M) (hok:M.ok) (hin:InpAt w.heap.size w v l) (ha:-9223372036854775808<=a/\a<=9223372036854775807) (hb:-9223372036854775808<=b/\b<=9223372036854775807) (hr:runErr M l a=0) (h0:b<0) :
 Calls Tryz.prog 5 #[.agg (machL M S).toArray,v,.int .i64 a,.int .i64 b] w λe w'=>e = .returned (.bool true)/\Below w.heap.size w w':=by
 have HF:=hid hF
 have hq:Below w.heap.size w (w.alloc (.cells (machL M S).toArray 41)):=stA (st0 w) _
 have HB:=hid (Bx.new w (machL M S) 41 (b:=w.heap.size) rfl)
 have HIN:=hid hin
 have HS:=hid hs.lens
 have HOK:=hid hok
 have HA:=hid ha
 have HRA:=hid hr
 have d1:decide (b<0)=true:=decide_eq_true h0
 clear hr h0
 clear hF hs hok hin ha
 go_enter Tryz.func5,Tryz.ntmps5
 go_wp2_with (first
  | (go_at_call 18;refine (Sv.saved _).mono ?_;rintro e w9 ⟨rfl,hb9⟩;have HL9:=hid (stp HL2.out hb9);clear hb9)
  | (go_at_call 18;refine (Sv.saved _).mono ?_;rintro e w1 ⟨rfl,hb1⟩;have HB1:=hid (HB.out.kept hb1);have HL1:=hid (stp hq hb1);clear hb1)
  | (refine Bu.loadG rfl 41 _ rfl w.heap.size 0 rfl (machL M S) _ HB2.out.c Tryz.underlying41 rfl zad ?_)
  | (refine Bu.loadG rfl 41 _ rfl w.heap.size 0 rfl (machL M S) _ HB1.out.c Tryz.underlying41 rfl zad ?_)
  | (go_at_call 14;refine (Lk.badRun M S v l a _ HS.out HOK.out ((HIN.out.kept HL1.out).mono HL1.out.size) HA.out).mono ?_;rw [HRA.out];rintro e w2 ⟨rfl,hb2⟩;have HB2:=hid (HB1.out.kept hb2);have HL2:=hid (stp HL1.out hb2);clear hb2))
 go_ret
 exact ⟨rfl,HL9.out⟩
theorem Ct.goes_3 (M:Mach) (S:Sl) (v:Value) (l:List Inp) (a b:Int) (w:World) (hF:Shp w) (hs:SlAt w S M) (hok:M.ok) (hin:InpAt w.heap.size w v l) (ha:-9223372036854775808<=a/\a<=9223372036854775807) (hb:-9223372036854775808<=b/\b<=9223372036854775807) (hr:runErr M l a=0) (ha0:0<=a/\a<=20000) (h0:¬ b<0) (h1:20000-a<b) :
 Calls Tryz.prog 5 #[.agg (machL M S).toArray,v,.int .i64 a,.int .i64 b] w λe w'=>e = .returned (.bool true)/\Below w.heap.size w w':=by
 have HF:=hid hF
 have hq:Below w.heap.size w (w.alloc (.cells (machL M S).toArray 41)):=stA (st0 w) _
 have HB:=hid (Bx.new w (machL M S) 41 (b:=w.heap.size) rfl)
 have HIN:=hid hin
 have HS:=hid hs.lens
 have HOK:=hid hok
 have HA:=hid ha
 have HRA:=hid hr
 have d1:decide (b<0)=false:=decide_eq_false h0
 have d2:decide (20000-a<b)=true:=decide_eq_true h1
 obtain ⟨a0,a1⟩:=ha0
 clear hr h0 h1
 clear hF hs hok hin ha
 go_enter Tryz.func5,Tryz.ntmps5
 go_wp2_with (first
  | (go_at_call 18;refine (Sv.saved _).mono ?_;rintro e w9 ⟨rfl,hb9⟩;have HL9:=hid (stp HL2.out hb9);clear hb9)
  | (go_at_call 18;refine (Sv.saved _).mono ?_;rintro e w1 ⟨rfl,hb1⟩;have HB1:=hid (HB.out.kept hb1);have HL1:=hid (stp hq hb1);clear hb1)
  | (refine Bu.loadG rfl 41 _ rfl w.heap.size 0 rfl (machL M S) _ HB2.out.c Tryz.underlying41 rfl zad ?_)
  | (refine Bu.loadG rfl 41 _ rfl w.heap.size 0 rfl (machL M S) _ HB1.out.c Tryz.underlying41 rfl zad ?_)
  | (go_at_call 14;refine (Lk.badRun M S v l a _ HS.out HOK.out ((HIN.out.kept HL1.out).mono HL1.out.size) HA.out).mono ?_;rw [HRA.out];rintro e w2 ⟨rfl,hb2⟩;have HB2:=hid (HB1.out.kept hb2);have HL2:=hid (stp HL1.out hb2);clear hb2))
 go_ret
 exact ⟨rfl,HL9.out⟩
theorem Ct.goes_4 (M:Mach) (S:Sl) (v:Value) (l:List Inp) (a b:Int) (w:World) (hF:Shp w) (hs:SlAt w S M) (hok:M.ok) (hin:InpAt w.heap.size w v l) (ha:-9223372036854775808<=a/\a<=9223372036854775807) (hb:-9223372036854775808<=b/\b<=9223372036854775807) (hr:runErr M l a=0) (ha0:0<=a/\a<=20000) (h0:¬ b<0) (h1:¬ 20000-a<b) (h2:runErr M l (a+b)≠0) :
 Calls Tryz.prog 5 #[.agg (machL M S).toArray,v,.int .i64 a,.int .i64 b] w λe w'=>e = .returned (.bool true)/\Below w.heap.size w w':=by
 have HF:=hid hF
 have hq:Below w.heap.size w (w.alloc (.cells (machL M S).toArray 41)):=stA (st0 w) _
 have HB:=hid (Bx.new w (machL M S) 41 (b:=w.heap.size) rfl)
 have HIN:=hid hin
 have HS:=hid hs.lens
 have HOK:=hid hok
 have HA:=hid ha
 have HRA:=hid hr
 have d1:decide (b<0)=false:=decide_eq_false h0
 have d2:decide (20000-a<b)=false:=decide_eq_false h1
 obtain ⟨a0,a1⟩:=ha0
 have HAB:Hid (-9223372036854775808<=a+b/\a+b<=9223372036854775807):=hid (by omega)
 have b0:0<=b:=by omega
 have b1:b<=20000:=by omega
 obtain ⟨c,hc⟩:∃ c,runErr M l (a+b)=c:=⟨_,rfl⟩
 have HRB:=hid hc
 have hne:(c != 0)=true:=by rw [<- hc];simpa using h2
 clear hr h0 h1 h2 hc hb
 clear hF hs hok hin ha
 go_enter Tryz.func5,Tryz.ntmps5
 go_wp2_with (first
  | (go_at_call 18;refine (Sv.saved _).mono ?_;rintro e w9 ⟨rfl,hb9⟩;have HL9:=hid (stp HL3.out hb9);clear hb9)
  | (go_at_call 18;refine (Sv.saved _).mono ?_;rintro e w1 ⟨rfl,hb1⟩;have HB1:=hid (HB.out.kept hb1);have HL1:=hid (stp hq hb1);clear hb1)
  | (go_at_call 14;refine (Lk.badRun M S v l (a+b) _ HS.out HOK.out ((HIN.out.kept HL2.out).mono HL2.out.size) HAB.out).mono ?_;rw [HRB.out];rintro e w3 ⟨rfl,hb3⟩;have HB3:=hid (HB2.out.kept hb3);have HL3:=hid (stp HL2.out hb3);clear hb3)
  | (refine Bu.loadG rfl 41 _ rfl w.heap.size 0 rfl (machL M S) _ HB2.out.c Tryz.underlying41 rfl zad ?_)
  | (refine Bu.loadG rfl 41 _ rfl w.heap.size 0 rfl (machL M S) _ HB1.out.c Tryz.underlying41 rfl zad ?_)
  | (go_at_call 14;refine (Lk.badRun M S v l a _ HS.out HOK.out ((HIN.out.kept HL1.out).mono HL1.out.size) HA.out).mono ?_;rw [HRA.out];rintro e w2 ⟨rfl,hb2⟩;have HB2:=hid (HB1.out.kept hb2);have HL2:=hid (stp HL1.out hb2);clear hb2))
 go_ret
 exact ⟨rfl,HL9.out⟩
theorem Ct.goes_5 (M:Mach) (S:Sl) (v:Value) (l:List Inp) (a b:Int) (w:World) (hF:Shp w) (hs:SlAt w S M) (hok:M.ok) (hin:InpAt w.heap.size w v l) (ha:-9223372036854775808<=a/\a<=9223372036854775807) (hb:-9223372036854775808<=b/\b<=9223372036854775807) (hr:runErr M l a=0) (ha0:0<=a/\a<=20000) (h0:¬ b<0) (h1:¬ 20000-a<b) (h2:runErr M l (a+b)=0) (h3:19000<M.b.f) :
 Calls Tryz.prog 5 #[.agg (machL M S).toArray,v,.int .i64 a,.int .i64 b] w λe w'=>e = .returned (.bool true)/\Below w.heap.size w w':=by
 have HF:=hid hF
 have hq:Below w.heap.size w (w.alloc (.cells (machL M S).toArray 41)):=stA (st0 w) _
 have HB:=hid (Bx.new w (machL M S) 41 (b:=w.heap.size) rfl)
 have HIN:=hid hin
 have HS:=hid hs.lens
 have HOK:=hid hok
 have HA:=hid ha
 have HRA:=hid hr
 have d1:decide (b<0)=false:=decide_eq_false h0
 have d2:decide (20000-a<b)=false:=decide_eq_false h1
 obtain ⟨a0,a1⟩:=ha0
 have HAB:Hid (-9223372036854775808<=a+b/\a+b<=9223372036854775807):=hid (by omega)
 have b0:0<=b:=by omega
 have b1:b<=20000:=by omega
 have HRB:=hid h2
 have hd:decide (19000<M.b.f)=true:=decide_eq_true h3
 clear hr h0 h1 h2 h3 hb
 clear hF hs hok hin ha
 go_enter Tryz.func5,Tryz.ntmps5
 go_wp2_with (first
  | (go_at_call 18;refine (Sv.saved _).mono ?_;rintro e w9 ⟨rfl,hb9⟩;have HL9:=hid (stp HL4.out hb9);clear hb9)
  | (go_at_call 18;refine (Sv.saved _).mono ?_;rintro e w1 ⟨rfl,hb1⟩;have HB1:=hid (HB.out.kept hb1);have HL1:=hid (stp hq hb1);clear hb1)
  | (go_at_call 9;refine (zdD M S _ _).mono ?_;rw [hd];rintro e w4 ⟨rfl,hb4⟩;have HL4:=hid (stp HL3.out hb4);clear hb4)
  | (refine Bu.loadG rfl 41 _ rfl w.heap.size 0 rfl (machL M S) _ HB3.out.c Tryz.underlying41 rfl zad ?_)
  | (go_at_call 14;refine (Lk.badRun M S v l (a+b) _ HS.out HOK.out ((HIN.out.kept HL2.out).mono HL2.out.size) HAB.out).mono ?_;rw [HRB.out];rintro e w3 ⟨rfl,hb3⟩;have HB3:=hid (HB2.out.kept hb3);have HL3:=hid (stp HL2.out hb3);clear hb3)
  | (refine Bu.loadG rfl 41 _ rfl w.heap.size 0 rfl (machL M S) _ HB2.out.c Tryz.underlying41 rfl zad ?_)
  | (refine Bu.loadG rfl 41 _ rfl w.heap.size 0 rfl (machL M S) _ HB1.out.c Tryz.underlying41 rfl zad ?_)
  | (go_at_call 14;refine (Lk.badRun M S v l a _ HS.out HOK.out ((HIN.out.kept HL1.out).mono HL1.out.size) HA.out).mono ?_;rw [HRA.out];rintro e w2 ⟨rfl,hb2⟩;have HB2:=hid (HB1.out.kept hb2);have HL2:=hid (stp HL1.out hb2);clear hb2))
 go_ret
 exact ⟨rfl,HL9.out⟩
end Go.Proofs.YtbennamieealbaaGreatDoor
namespace Go.Proofs.YtbennamieealbaaGreatDoor.C
section
variable {σ τ : Type} {m : Mem σ} {m' : Mem τ} {Q : σ -> τ -> Prop}
structure Sim (m : Mem σ) (m' : Mem τ) (Q : σ -> τ -> Prop) : Prop where
 rd:∀ s t a,Q s t->(m.rd s a).1=(m'.rd t a).1/\Q (m.rd s a).2 (m'.rd t a).2
 wr:∀ s t a b,Q s t->Q (m.wr s a b) (m'.wr t a b)
structure SQ (Q : σ -> τ -> Prop) (x : St σ) (y : St τ) : Prop where
 c:x.c=y.c
 n:x.n=y.n
 s:Q x.s y.s
theorem Sim.rdw (h:Sim m m' Q) {s:σ} {t:τ} (hq:Q s t) (a:Int):(m.rdw s a).1=(m'.rdw t a).1/\Q (m.rdw s a).2 (m'.rdw t a).2:=by
 obtain ⟨e1,q1⟩:=h.rd s t a hq
 obtain ⟨e2,q2⟩:=h.rd _ _ ((a+1)%65536) q1
 exact ⟨by show (m.rd s a).1*256+_=(m'.rd t a).1*256+_;rw [e1,e2],q2⟩
theorem Sim.wrw (h:Sim m m' Q) {s:σ} {t:τ} (hq:Q s t) (a n:Int):Q (m.wrw s a n) (m'.wrw t a n):=h.wr _ _ _ _ (h.wr _ _ _ _ hq)
theorem Sim.push (h:Sim m m' Q) {c:Cpu} {s:σ} {t:τ} {k:Int} (hq:Q s t) (n:Int):SQ Q (push m ⟨c,s,k⟩ n) (push m' ⟨c,t,k⟩ n):=⟨rfl,rfl,h.wrw hq _ _⟩
theorem Sim.popV (h:Sim m m' Q) {c:Cpu} {s:σ} {t:τ} {k:Int} (hq:Q s t):popV m ⟨c,s,k⟩=popV m' ⟨c,t,k⟩:=(h.rdw hq _).1
theorem Sim.pop (h:Sim m m' Q) {c:Cpu} {s:σ} {t:τ} {k:Int} (hq:Q s t):SQ Q (pop m ⟨c,s,k⟩) (pop m' ⟨c,t,k⟩):=⟨rfl,rfl,(h.rdw hq _).2⟩
theorem Sim.leave (h:Sim m m' Q) {x:St σ} {y:St τ} (hx:SQ Q x y) (a:Int):SQ Q (leave m x a) (leave m' y a):=by
 obtain ⟨c,s,k⟩:=x
 obtain ⟨c',t,k'⟩:=y
 obtain ⟨rfl,rfl,hq⟩:=hx
 dsimp only at hq
 have h1:=h.push (c:=c) (k:=k) hq c.PC
 have h2:SQ Q (C.push m (C.push m ⟨c,s,k⟩ c.PC) (sign (C.push m ⟨c,s,k⟩ c.PC).c)) (C.push m' (C.push m' ⟨c,t,k⟩ c.PC) (sign (C.push m' ⟨c,t,k⟩ c.PC).c)):=h.push (c:=(C.push m ⟨c,s,k⟩ c.PC).c) (k:=k) h1.s _
 obtain ⟨e1,q1⟩:=h.rdw h2.s a
 refine ⟨?_,rfl,q1⟩
 unfold C.leave
 dsimp only
 rw [h2.c,e1]
theorem Sim.comeBack (h:Sim m m' Q) {x:St σ} {y:St τ} (hx:SQ Q x y):SQ Q (comeBack m x) (comeBack m' y):=by
 obtain ⟨c,s,k⟩:=x
 obtain ⟨c',t,k'⟩:=y
 obtain ⟨rfl,rfl,hq⟩:=hx
 dsimp only at hq
 have e1:=h.popV (c:=c) (k:=k) hq
 have h1:=h.pop (c:=c) (k:=k) hq
 have e2:C.popV m (C.pop m ⟨c,s,k⟩)=C.popV m' (C.pop m' ⟨c,t,k⟩):=h.popV (c:=(C.pop m ⟨c,s,k⟩).c) (k:=k) h1.s
 have h2:SQ Q (C.pop m (C.pop m ⟨c,s,k⟩)) (C.pop m' (C.pop m' ⟨c,t,k⟩)):=h.pop (c:=(C.pop m ⟨c,s,k⟩).c) (k:=k) h1.s
 refine ⟨?_,rfl,h2.s⟩
 unfold C.comeBack
 dsimp only
 rw [e1,e2,h2.c]
theorem Sim.act (h:Sim m m' Q) {x:St σ} {y:St τ} (hx:SQ Q x y) (k:Nat) (d s n w:Int):SQ Q (act m x k d s n w) (act m' y k d s n w):=by
 have hl:=h.leave hx 4
 have hcb:=h.comeBack hx
 obtain ⟨c,u,j⟩:=x
 obtain ⟨c',t,j'⟩:=y
 obtain ⟨rfl,rfl,hq⟩:=hx
 dsimp only at hq
 have u0:∀ (c':Cpu) (j':Int),SQ Q ⟨c',u,j'⟩ ⟨c',t,j'⟩:=λ_ _=>⟨rfl,rfl,hq⟩
 have r2:∀ a,SQ Q ⟨c.set d (m.rdw u a).1,(m.rdw u a).2,j⟩ ⟨c.set d (m'.rdw t a).1,(m'.rdw t a).2,j⟩:=λa=>⟨by dsimp only;rw [(h.rdw hq a).1],rfl,(h.rdw hq a).2⟩
 have r1:∀ a,SQ Q ⟨c.set d (m.rd u a).1,(m.rd u a).2,j⟩ ⟨c.set d (m'.rd t a).1,(m'.rd t a).2,j⟩:=λa=>⟨by dsimp only;rw [(h.rd u t a hq).1],rfl,(h.rd u t a hq).2⟩
 have w2:∀ a b,SQ Q ⟨c,m.wrw u a b,j⟩ ⟨c,m'.wrw t a b,j⟩:=λa b=>⟨rfl,rfl,h.wrw hq a b⟩
 have w1:∀ a b,SQ Q ⟨c,m.wr u a b,j⟩ ⟨c,m'.wr t a b,j⟩:=λa b=>⟨rfl,rfl,h.wr _ _ a b hq⟩
 have pu:=λb=>h.push (c:=c) (k:=j) hq b
 have po:=h.pop (c:=c) (k:=j) hq
 have pv:=h.popV (c:=c) (k:=j) hq
 match k with
 | 0=>exact u0 _ _
 | 1=>exact u0 _ _
 | 2=>exact u0 _ _
 | 3=>exact r2 _
 | 4=>exact w2 _ _
 | 5=>exact r1 _
 | 6=>exact w1 _ _
 | 7=>exact u0 _ _
 | 8=>exact u0 _ _
 | 9=>exact u0 _ _
 | 10=>exact u0 _ _
 | 11=>exact u0 _ _
 | 12=>exact u0 _ _
 | 13=>exact u0 _ _
 | 14=>exact u0 _ _
 | 15=>exact u0 _ _
 | 16=>exact u0 _ _
 | 17=>show SQ Q (if c.Z then _ else _) (if c.Z then _ else _);split <;> exact u0 _ _
 | 18=>show SQ Q (if c.N then _ else _) (if c.N then _ else _);split <;> exact u0 _ _
 | 19=>show SQ Q (if c.C then _ else _) (if c.C then _ else _);split <;> exact u0 _ _
 | 20=>exact ⟨rfl,rfl,(pu _).s⟩
 | 21=>exact ⟨by show ({ (C.pop m ⟨c,u,j⟩).c with PC:=C.popV m ⟨c,u,j⟩ }:Cpu)={ (C.pop m' ⟨c,t,j⟩).c with PC:=C.popV m' ⟨c,t,j⟩ };rw [pv,po.c],rfl,po.s⟩
 | 22=>exact pu _
 | 23=>exact ⟨by show (C.pop m ⟨c,u,j⟩).c.set d (C.popV m ⟨c,u,j⟩)=(C.pop m' ⟨c,t,j⟩).c.set d (C.popV m' ⟨c,t,j⟩);rw [pv,po.c],rfl,po.s⟩
 | 24=>exact u0 _ _
 | 25=>exact u0 _ _
 | 26=>exact hcb
 | 27=>exact u0 _ _
 | 28=>exact u0 _ _
 | 29=>show SQ Q (if c.Z then _ else _) (if c.Z then _ else _);split <;> exact u0 _ _
 | 30=>exact u0 _ _
 | 31=>exact hl
 | k+32=>exact u0 _ _
theorem Sim.order (h:Sim m m' Q) (c:Cpu) {s:σ} {t:τ} (hq:Q s t):SQ Q (order m c s) (order m' c t):=by
 obtain ⟨e1,q1⟩:=h.rdw hq c.PC
 obtain ⟨e2,q2⟩:=h.rdw q1 ((c.PC+2)%65536)
 have h1:C.word1 m c s=C.word1 m' c t:=e1
 have h2:C.word2 m c s=C.word2 m' c t:=by unfold C.word2;rw [h1,e2]
 have h3:SQ Q (C.behind m c s) (C.behind m' c t):=by
  unfold C.behind
  rw [h1]
  refine ⟨rfl,rfl,?_⟩
  dsimp only
  split
  ·exact q2
  ·exact q1
 unfold C.order
 rw [h1,h2]
 exact h.act (x:={ C.behind m c s with n:=K.cyc (O.rk (C.word1 m' c t)) }) (y:={ C.behind m' c t with n:=K.cyc (O.rk (C.word1 m' c t)) }) ⟨h3.c,rfl,h3.s⟩ _ _ _ _ _
theorem Sim.step (h:Sim m m' Q) (c:Cpu) {s:σ} {t:τ} (hq:Q s t) (r:Bool):SQ Q (step m c s r) (step m' c t r):=by
 unfold C.step
 split
 ·have:=h.leave (x:=⟨c,s,0⟩) (y:=⟨c,t,0⟩) ⟨rfl,rfl,hq⟩ 2
  exact ⟨this.c,rfl,this.s⟩
 ·split
  ·exact ⟨rfl,rfl,hq⟩
  ·exact h.order c hq
end
end Go.Proofs.YtbennamieealbaaGreatDoor.C
namespace Go.Proofs.YtbennamieealbaaGreatDoor
open Go.ChangeShapes Go.WideShapes Go.ChangeAt Go.RowKit
structure Bst.like (p : List Wt) (s t : Bst) : Prop where
 M:s.M=t.M
 l:s.l=p++t.l
theorem zfs (p:List Wt):C.Sim mainMem mainMem (Bst.like p) where
 rd s t a h:=⟨by show (s.M.rdM a).1%256=(t.M.rdM a).1%256;rw [h.M],⟨by show (s.M.rdM a).2=(t.M.rdM a).2;rw [h.M],h.l⟩⟩
 wr s t a b h:=⟨by show s.M.wrM a (b%256)=t.M.wrM a (b%256);rw [h.M],h.l⟩
theorem znQ (p:List Wt):C.Sim auxMem auxMem (Bst.like p) where
 rd s t a h:=⟨by show (s.M.rdA a).1%256=(t.M.rdA a).1%256;rw [h.M],⟨by show (s.M.rdA a).2=(t.M.rdA a).2;rw [h.M],h.l⟩⟩
 wr s t a b h:=⟨by show s.M.wrA a (b%256)=t.M.wrA a (b%256);rw [h.M],by show s.l++s.M.shA a (b%256)=p++(t.l++t.M.shA a (b%256));rw [h.M,h.l,List.append_assoc]⟩
structure Bst.like2 (p : List Wt) (s t : Bst) : Prop extends Bst.like p s t where
 n:s.n=t.n
theorem zko (p:List Wt):C.Sim mainMem mainMem (Bst.like2 p) where
 rd s t a h:=⟨((zfs p).rd s t a h.tolike).1,⟨((zfs p).rd s t a h.tolike).2,h.n⟩⟩
 wr s t a b h:=⟨(zfs p).wr s t a b h.tolike,by show s.n+_=t.n+_;rw [h.n]⟩
theorem zft {p:List Wt} {s t:Bst} (h:Bst.like p s t):Bst.like p s.stepMain t.stepMain:=by
 unfold Bst.stepMain
 rw [h.M]
 split
 ·exact h
 ·have hs:=(zko p).step t.M.main (s:=⟨t.M,0,s.l⟩) (t:=⟨t.M,0,t.l⟩) ⟨⟨rfl,h.l⟩,rfl⟩ (t.M.t.g || t.M.b.g)
  refine ⟨?_,hs.s.l⟩
  dsimp only
  rw [hs.c,hs.n,hs.s.M,hs.s.n]
theorem zf6 {p:List Wt} {s t:Bst} (h:Bst.like p s t):Bst.like p s.stepAux t.stepAux:=by
 unfold Bst.stepAux
 rw [h.M]
 split
 ·exact h
 ·have hs:=(znQ p).step t.M.aux (s:=s) (t:=t) h t.M.rung
  refine ⟨?_,hs.s.l⟩
  dsimp only
  rw [hs.c,hs.n,hs.s.M]
structure Cs.like (p : List Wt) (pl : List Lin) (ps : List UInt8) (k k' : Cs) : Prop where
 s:Bst.like p k.s k'.s
 co:k.co=k'.co
 ln:k.ln=pl++k'.ln
 sm:k.sm=ps++k'.sm
theorem zeC {p:List Wt} {pl:List Lin} {ps:List UInt8} {k k':Cs} (h:Cs.like p pl ps k k'):Cs.like p pl ps k.clock k'.clock:=by
 have hM:=h.s.M
 have hc:=h.co
 have h1:Bst.like p ⟨k.s.M.pressed k.co,k.s.n,k.s.l⟩ ⟨k'.s.M.pressed k'.co,k'.s.n,k'.s.l⟩:=⟨by dsimp only;rw [hM,hc],h.s.l⟩
 have h2:=zf6 (zft h1)
 refine ⟨⟨?_,h2.l⟩,?_,?_,?_⟩
 ·show Mach.goOn (Bst.stepAux _).M=Mach.goOn (Bst.stepAux _).M
  rw [h2.M]
 ·show k.s.M.coming k.co=k'.s.M.coming k'.co
  rw [hM,hc]
 ·show k.ln++(k.s.M.pressed k.co).line=pl++(k'.ln++(k'.s.M.pressed k'.co).line)
  rw [h.ln,hM,hc,List.append_assoc]
 ·show k.sm++(k.s.M.pressed k.co).sample=ps++(k'.sm++(k'.s.M.pressed k'.co).sample)
  rw [h.sm,hM,hc,List.append_assoc]
theorem zca {p:List Wt} {pl:List Lin} {ps:List UInt8} {k k':Cs} (h:Cs.like p pl ps k k'):∀ j:Nat,Cs.like p pl ps (k.clocks j) (k'.clocks j)
 | 0=>h
 | j+1=>zeC (zca h j)
theorem zcP (k:Cs) (a:Nat):∀ b:Nat,k.clocks (a+b)=(k.clocks a).clocks b
 | 0=>rfl
 | b+1=>by show (k.clocks (a+b)).clock=_;rw [zcP k a b];rfl
/-! ### what is still to be pressed -/
def Inps (l:List Inp):Prop:=l.Pairwise (λx y=>x.c<=y.c)
theorem zcy:∀ (l:List Inp) (M:Mach),Inps l->M.coming l=l.filter (λx=>decide (M.clock<x.c))
 | [],M,_=>rfl
 | x::l,M,h=>by
  have h':=List.pairwise_cons.1 h
  unfold Mach.coming
  split
  ·rename_i hx
   rw [zcy l M h'.2,List.filter_cons_of_neg (by simp;omega)]
  ·rename_i hx
   rw [List.filter_cons_of_pos (by simp;omega),List.filter_eq_self.2 (λy hy=>by have:=h'.1 y hy;simp;omega)]
theorem zbO (k0:Cs) (l:List Inp) (h0:k0.co=l) (hp:Inps l) (hge:∀ x∈l,k0.s.M.clock<=x.c):∀ j:Nat,(k0.clocks j).s.M.clock=k0.s.M.clock+j/\(k0.clocks j).co=l.filter (λx=>decide (k0.s.M.clock+j<=x.c))
 | 0=>⟨by simp [Cs.clocks],by
  show k0.co=_
  rw [h0,List.filter_eq_self.2 (λy hy=>by have:=hge y hy;simp;omega)]⟩
 | j+1=>by
  obtain ⟨e1,e2⟩:=zbO k0 l h0 hp hge j
  have e3:(k0.clocks (j+1)).co=(k0.clocks j).s.M.coming (k0.clocks j).co:=rfl
  refine ⟨?_,?_⟩
  ·show (k0.clocks j).now.s.M.clock+1=_
   rw [zbp,e1];push_cast;omega
  ·rw [e3,e2,zcy _ _ (List.Pairwise.filter _ hp),List.filter_filter,e1]
   refine List.filter_congr (λx hx=>?_)
   rw [<- Bool.decide_and]
   exact decide_eq_decide.2 (by push_cast;omega)
theorem zkp (M:Mach) (l:List Inp) (hp:Inps l) (hge:∀ x∈l,M.clock<=x.c) (a b:Nat) :
 Cs.like (Cs.clocks ⟨⟨M,0,[]⟩,l,[],[]⟩ a).s.l (Cs.clocks ⟨⟨M,0,[]⟩,l,[],[]⟩ a).ln (Cs.clocks ⟨⟨M,0,[]⟩,l,[],[]⟩ a).sm (Cs.clocks ⟨⟨M,0,[]⟩,l,[],[]⟩ (a+b))
  (Cs.clocks ⟨⟨(Cs.clocks ⟨⟨M,0,[]⟩,l,[],[]⟩ a).s.M,0,[]⟩,l.filter (λx=>decide (M.clock+a<=x.c)),[],[]⟩ b):=by
 rw [zcP]
 have hco:=(zbO ⟨⟨M,0,[]⟩,l,[],[]⟩ l rfl hp hge a).2
 generalize Cs.clocks ⟨⟨M,0,[]⟩,l,[],[]⟩ a=k at hco ⊢
 exact zca (p:=k.s.l) (pl:=k.ln) (ps:=k.sm) (k:=k) (k':=⟨⟨k.s.M,0,[]⟩,l.filter (λx=>decide (M.clock+a<=x.c)),[],[]⟩) ⟨⟨rfl,by simp⟩,hco,by simp,by simp⟩ b
def slept (r c y:Int):Int:=if c<=r then r else r+(c-r+y-1)/y*y
def Bem.lat (b:Bem) (d:Int):Bem:=⟨bmL b.l b.a d,bmA b.l b.a d,bmG b.l b.a b.g d,bmF b.l b.a b.f d⟩
def Mach.lat (M:Mach) (d:Nat):Mach:={ M with mready:=slept M.mready (M.clock+d) 3,aready:=if M.held then M.aready else slept M.aready (M.clock+d) 5,t:=M.t.run d,s:=M.s.ticks d,b:=M.b.lat d,clock:=M.clock+d }
def Mach.smp (M:Mach) (d:Nat):List UInt8:=if M.s.w=0 then (sms M.s d).drop 1 else sms M.s d
def Cs.lat (q:Cs) (d:Nat):Cs:={ q with s:=⟨q.s.M.lat d,q.s.n,q.s.l⟩,sm:=q.sm++q.s.M.smp d }
structure Idle (q : Cs) (d : Nat) : Prop where
 co:q.co=[] \/ ∃ x r,q.co=x::r/\q.s.M.clock+d<=x.c
 ln:q.s.M.b.a+d<=64
 mr:q.s.M.clock<q.s.M.mready
 ma:q.s.M.clock+d<=q.s.M.mready \/ (q.s.M.main.Waits=true/\(q.s.M.main.May=false \/ ((q.s.M.t.g || q.s.M.b.g)=false/\(q.s.M.t.on=true->(d:Int)<=q.s.M.t.c+1))))
 ar:q.s.M.held=true \/ (q.s.M.clock<q.s.M.aready/\(q.s.M.clock+d<=q.s.M.aready \/ (q.s.M.aux.Waits=true/\(q.s.M.rung && q.s.M.aux.May)=false)))
 b:BOk q.s.M.b.l q.s.M.b.a q.s.M.b.f
 t:(0<=q.s.M.t.r/\q.s.M.t.r<=65535)/\(0<=q.s.M.t.c/\q.s.M.t.c<=65535)
 s:q.s.M.s.fit
theorem zeD {a b c:Cs} (h:Cs.like [] [] [] a b) (k:Cs.like [] [] [] b c):Cs.like [] [] [] a c :=
 ⟨⟨h.s.M.trans k.s.M,h.s.l.trans (by simpa using k.s.l)⟩,h.co.trans k.co,h.ln.trans (by simpa using k.ln),h.sm.trans (by simpa using k.sm)⟩
theorem zkq (a:Cs):Cs.like [] [] [] a a:=⟨⟨rfl,by simp⟩,rfl,by simp,by simp⟩
theorem zdE {σ:Type} {m:C.Mem σ} (c:C.Cpu) (s:σ) (r:Bool) (h1:c.Waits=true) (h2:(r && c.May)=false):C.step m c s r=⟨c,s,1⟩:=by
 unfold C.step
 rw [if_neg (by rw [h2];simp),if_pos h1]
theorem zhb (r c y:Int) (hy:0<y):c<=slept r c y:=by
 unfold slept
 split
 ·assumption
 ·have h1:=Int.emod_add_mul_ediv (c-r+y-1) y
  have h2:=Int.emod_lt_of_pos (c-r+y-1) hy
  rw [Int.mul_comm] at h1
  omega
theorem zkr (r c:Int) (h:slept r c 3=c):slept r (c+1) 3=c+3:=by unfold slept at *;split at h <;> split <;> omega
theorem zks (r c:Int) (h:slept r c 5=c):slept r (c+1) 5=c+5:=by unfold slept at *;split at h <;> split <;> omega
theorem zkt (r c:Int) (h:c<slept r c 3):slept r (c+1) 3=slept r c 3:=by unfold slept at *;split at h <;> split <;> omega
theorem zku (r c:Int) (h:c<slept r c 5):slept r (c+1) 5=slept r c 5:=by unfold slept at *;split at h <;> split <;> omega
theorem zcz {r c y:Int} (h:c<=r):slept r c y=r:=by unfold slept;rw [if_pos h]
theorem zfu {b:Bem} {i:Nat} (h:BOk b.l b.a b.f) (hi:b.a+i<=63):(b.lat i).one=b.lat (i+1:Nat)/\(b.lat i).a=b.a+i/\(b.lat i).g=b.g:=by
 have:=h.l0;have:=h.l1;have:=h.a0;have:=h.a1;have:=h.f0;have:=h.f1
 have e1:bmL b.l b.a i=b.l:=by unfold bmL;omega
 have e2:bmA b.l b.a i=b.a+i:=by unfold bmA;omega
 have e3:bmF b.l b.a b.f i=b.f:=by unfold bmF;omega
 have e4:bmG b.l b.a b.g i=b.g:=by
  unfold bmG
  rw [decide_eq_false (by omega),Bool.or_false]
 refine ⟨?_,e2,e4⟩
 have hb:bok (bmL b.l b.a i) (bmA b.l b.a i) (bmF b.l b.a b.f i)=true:=by
  rw [e1,e2,e3];exact (zax _ _ _).2 ⟨h.l0,h.l1,by omega,by omega,h.f0,h.f1⟩
 have ha:=zmt b.l b.a b.f i 1 b.g ⟨h.l0,h.l1⟩ ⟨h.a0,h.a1⟩ (by omega) (by omega)
 unfold Bem.one Bem.lat
 dsimp only
 rw [if_pos hb]
 have ei:((i+1:Nat):Int)=(i:Int)+1:=by omega
 rw [ei,ha.1,ha.2.1,ha.2.2.1,ha.2.2.2]
theorem zf7 {t:TM} (hr:0<=t.r/\t.r<=65535) (hc:0<=t.c/\t.c<=65535) (i:Nat):(⟨(t.run i).r,tkC (t.run i).r (t.run i).c (t.run i).on,(t.run i).on,tkG (t.run i).c (t.run i).on (t.run i).g⟩:TM)=t.run (i+1:Nat):=by
 have h:=TM.run_tick t hr.1 hc.1 i (by omega)
 rw [TM.tick_eq] at h
 have ei:((i+1:Nat):Int)=(i:Int)+1:=by omega
 rw [ei];exact h
theorem znR (M:Mach) (i:Nat) (hi:1<=i):M.smp i++(if (M.s.ticks i).w=0 then sms (M.s.ticks i) 1 else [])=M.smp (i+1):=by
 have e1:(if (M.s.ticks i).w=0 then sms (M.s.ticks i) 1 else [])=sms (M.s.ticks i) 1:=by
  split
  ·rfl
  ·rename_i h
   show []=[]++one (M.s.ticks i)
   unfold one
   rw [if_neg h];rfl
 rw [e1]
 unfold Mach.smp
 split
 ·rename_i h0
  have hl:1<=(sms M.s i).length:=by
   obtain ⟨m,rfl⟩:∃ m,i=1+m:=⟨i-1,by omega⟩
   rw [zc8,List.length_append]
   have:(sms M.s 1).length=1:=by
    show ([]++one M.s).length=1
    unfold one
    rw [if_pos h0];rfl
   omega
  rw [zc8,List.drop_append_of_le_length hl]
 ·rw [zc8]
theorem zcA (s:Bst) (h:s.M.clock<s.M.mready):s.stepMain=s:=by unfold Bst.stepMain;rw [if_pos h]
theorem zdF (s:Bst) (hd:¬ s.M.clock<s.M.mready) (hw:s.M.main.Waits=true) (hr:((s.M.t.g || s.M.b.g) && s.M.main.May)=false):s.stepMain=⟨{ s.M with mready:=s.M.clock+3 },0,s.l⟩:=by
 have e:s.stepMain=(λy:C.St Bst=>(⟨{ y.s.M with main:=y.c,mready:=y.s.M.clock+3*y.n+y.s.n },y.s.n,y.s.l⟩:Bst)) (C.step mainMem s.M.main ⟨s.M,0,s.l⟩ (s.M.t.g || s.M.b.g)):=by
  unfold Bst.stepMain;rw [if_neg hd]
 rw [e,zdE (m:=mainMem) s.M.main (⟨s.M,0,s.l⟩:Bst) (s.M.t.g || s.M.b.g) hw hr]
 have e2:s.M.clock+3=s.M.clock+3*1+0:=by omega
 rw [e2]
theorem zcZ (s:Bst) (h:s.M.held=true):s.stepAux=s:=by unfold Bst.stepAux;rw [if_pos (Or.inl h)]
theorem zc0 (s:Bst) (h:s.M.clock<s.M.aready):s.stepAux=s:=by unfold Bst.stepAux;rw [if_pos (Or.inr h)]
theorem zec (s:Bst) (h1:¬ s.M.held=true) (hd:¬ s.M.clock<s.M.aready) (hw:s.M.aux.Waits=true) (hr:(s.M.rung && s.M.aux.May)=false):s.stepAux=⟨{ s.M with aready:=s.M.clock+5 },s.n,s.l⟩:=by
 have e:s.stepAux=(λy:C.St Bst=>(⟨{ y.s.M with aux:=y.c,aready:=y.s.M.clock+5*y.n },y.s.n,y.s.l⟩:Bst)) (C.step auxMem s.M.aux s s.M.rung):=by
  unfold Bst.stepAux;rw [if_neg (λhx=>hx.elim h1 hd)]
 rw [e,zdE (m:=auxMem) s.M.aux s s.M.rung hw hr]
 have e2:s.M.clock+5=s.M.clock+5*1:=by omega
 rw [e2]
theorem zmg {q:Cs} {d i:Nat} (h:Idle q d) (h1:1<=i) (hi:i<d) (n:Int) (l:List Wt) :
 ∃ n',Bst.stepMain ⟨q.s.M.lat i,n,l⟩=⟨{ q.s.M.lat i with mready:=slept q.s.M.mready (q.s.M.clock+(i+1:Nat)) 3 },n',l⟩:=by
 have ei:q.s.M.clock+((i+1:Nat):Int)=(q.s.M.clock+i)+1:=by omega
 rw [ei]
 have hg:=zhb q.s.M.mready (q.s.M.clock+i) 3 (by decide)
 by_cases hd:q.s.M.clock+i<slept q.s.M.mready (q.s.M.clock+i) 3
 ·refine ⟨n,(zcA ⟨q.s.M.lat i,n,l⟩ hd).trans ?_⟩
  rw [zkt _ _ hd];rfl
 ·have he:slept q.s.M.mready (q.s.M.clock+i) 3=q.s.M.clock+i:=by omega
  have hb:=(zfu h.b (i:=i) (by have:=h.ln;omega)).2.2
  have hw:q.s.M.main.Waits=true/\(((q.s.M.lat i).t.g || (q.s.M.lat i).b.g) && q.s.M.main.May)=false:=by
   rcases h.ma with hm|⟨w,hm⟩
   ·rw [zcz (by omega)] at he
    omega
   ·refine ⟨w,?_⟩
    rcases hm with hm|⟨hg0,hon⟩
    ·rw [hm,Bool.and_false]
    ·have ht:(q.s.M.lat i).t.g=q.s.M.t.g:=by
      show rnG q.s.M.t.c q.s.M.t.on q.s.M.t.g i=_
      unfold rnG
      cases e:q.s.M.t.on
      ·rfl
      ·have:=hon e
       rw [if_pos rfl,if_pos (by omega)]
     have hb':(q.s.M.lat i).b.g=q.s.M.b.g:=hb
     rw [ht,hb',hg0,Bool.false_and]
  refine ⟨0,(zdF ⟨q.s.M.lat i,n,l⟩ hd hw.1 hw.2).trans ?_⟩
  rw [zkr _ _ he];rfl
theorem znS {q:Cs} {d i:Nat} (h:Idle q d) (h1:1<=i) (hi:i<d) (n:Int) (l:List Wt) (r:Int) :
 ∃ n',Bst.stepAux ⟨{ q.s.M.lat i with mready:=r },n,l⟩=⟨{ q.s.M.lat i with mready:=r,aready:=if q.s.M.held then q.s.M.aready else slept q.s.M.aready (q.s.M.clock+(i+1:Nat)) 5 },n',l⟩:=by
 have ei:q.s.M.clock+((i+1:Nat):Int)=(q.s.M.clock+i)+1:=by omega
 rw [ei]
 by_cases hh:q.s.M.held=true
 ·refine ⟨n,(zcZ ⟨{ q.s.M.lat i with mready:=r },n,l⟩ hh).trans ?_⟩
  have e:(q.s.M.lat i).aready=q.s.M.aready:=by show (if q.s.M.held then q.s.M.aready else _)=_;rw [if_pos hh]
  rw [if_pos hh,<- e]
 ·have e:(q.s.M.lat i).aready=slept q.s.M.aready (q.s.M.clock+i) 5:=by show (if q.s.M.held then q.s.M.aready else _)=_;rw [if_neg hh]
  have hg:=zhb q.s.M.aready (q.s.M.clock+i) 5 (by decide)
  rw [if_neg hh]
  by_cases hd:q.s.M.clock+i<slept q.s.M.aready (q.s.M.clock+i) 5
  ·refine ⟨n,(zc0 ⟨{ q.s.M.lat i with mready:=r },n,l⟩ (show (q.s.M.lat i).clock<(q.s.M.lat i).aready by rw [e];exact hd)).trans ?_⟩
   rw [zku _ _ hd,<- e]
  ·have he:slept q.s.M.aready (q.s.M.clock+i) 5=q.s.M.clock+i:=by omega
   have hw:q.s.M.aux.Waits=true/\(q.s.M.rung && q.s.M.aux.May)=false:=by
    rcases h.ar with ha|⟨_,hm|hm⟩
    ·exact absurd ha hh
    ·rw [zcz (by omega)] at he
     omega
    ·exact hm
   refine ⟨n,(zec ⟨{ q.s.M.lat i with mready:=r },n,l⟩ hh (show ¬ (q.s.M.lat i).clock<(q.s.M.lat i).aready by rw [e];exact hd) hw.1 hw.2).trans ?_⟩
   rw [zks _ _ he];rfl
theorem zkv {q:Cs} {d i:Nat} (h:Idle q d) (h1:1<=i) (hi:i<d):Cs.like [] [] [] (q.lat i).clock (q.lat (i+1)):=by
 have hbm:=zfu h.b (i:=i) (by have:=h.ln;omega)
 have hpr:(q.s.M.lat i).pressed q.co=q.s.M.lat i:=by
  rcases h.co with e|⟨x,r,e,hx⟩
  ·rw [e];rfl
  ·rw [e]
   show (if x.c<=q.s.M.clock+i then _ else _)=_
   rw [if_neg (by omega)]
 have hcm:(q.s.M.lat i).coming q.co=q.co:=by
  rcases h.co with e|⟨x,r,e,hx⟩
  ·rw [e];rfl
  ·rw [e]
   show (if x.c<=q.s.M.clock+i then _ else _)=_
   rw [if_neg (by omega)]
 have hln:(q.s.M.lat i).line=[]:=by
  unfold Mach.line
  rw [if_neg (λhh=>by
   have h2:(q.s.M.b.lat i).a=0:=hh.1
   rw [hbm.2.1] at h2
   have:=h.b.a0
   omega)]
 obtain ⟨n1,hm⟩:=zmg h h1 hi q.s.n q.s.l
 obtain ⟨n2,ha⟩:=znS h h1 hi n1 q.s.l (slept q.s.M.mready (q.s.M.clock+(i+1:Nat)) 3)
 have hs:(q.lat i).now.s=⟨{ q.s.M.lat i with mready:=slept q.s.M.mready (q.s.M.clock+(i+1:Nat)) 3,aready:=if q.s.M.held then q.s.M.aready else slept q.s.M.aready (q.s.M.clock+(i+1:Nat)) 5 },n2,q.s.l⟩:=by
  show (Bst.stepMain ⟨(q.s.M.lat i).pressed q.co,q.s.n,q.s.l⟩).stepAux=_
  rw [hpr,hm,ha]
 have hM:(q.lat i).clock.s.M=q.s.M.lat (i+1):=by
  show (q.lat i).now.s.M.goOn=_
  rw [hs]
  have ht:=zf7 h.t.1 h.t.2 i
  have hk:(q.s.M.s.ticks i).ticks 1=q.s.M.s.ticks (i+1):=Sd.ticks_add _ _ _
  have ec:q.s.M.clock+(i:Int)+1=q.s.M.clock+((i+1:Nat):Int):=by omega
  unfold Mach.goOn
  show ({ q.s.M with mready:=_,aready:=_,t:=(⟨(q.s.M.t.run i).r,tkC (q.s.M.t.run i).r (q.s.M.t.run i).c (q.s.M.t.run i).on,(q.s.M.t.run i).on,tkG (q.s.M.t.run i).c (q.s.M.t.run i).on (q.s.M.t.run i).g⟩:TM),s:=(q.s.M.s.ticks i).ticks 1,b:=(q.s.M.b.lat i).one,clock:=q.s.M.clock+(i:Int)+1 }:Mach)=_
  rw [ht,hk,hbm.1,ec]
  rfl
 refine ⟨⟨hM,?_⟩,?_,?_,?_⟩
 ·show (q.lat i).now.s.l=[]++q.s.l
  rw [hs];rfl
 ·show (q.s.M.lat i).coming q.co=q.co
  exact hcm
 ·show q.ln++((q.s.M.lat i).pressed q.co).line=[]++q.ln
  rw [hpr,hln,List.append_nil,List.nil_append]
 ·show (q.sm++q.s.M.smp i)++((q.s.M.lat i).pressed q.co).sample=[]++(q.sm++q.s.M.smp (i+1))
  rw [hpr,List.nil_append,List.append_assoc]
  congr 1
  exact znR q.s.M i h1
theorem zeE (k:Cs) {d:Nat} (h:Idle k.now d):∀ i:Nat,i<d->Cs.like [] [] [] (k.clocks (i+1)) (k.now.lat (i+1))
 | 0,hd=>by
  obtain ⟨q,hq⟩:∃ q,q=k.now:=⟨_,rfl⟩
  have hk:k.clocks 1={ q with s:=⟨q.s.M.goOn,q.s.n,q.s.l⟩ }:=by rw [hq];rfl
  rw [hk]
  rw [<- hq] at h ⊢
  have hb0:q.s.M.b.lat (0:Nat)=q.s.M.b:=by
   have:=zie q.s.M.b.l q.s.M.b.a q.s.M.b.f q.s.M.b.g ⟨h.b.l0,h.b.l1⟩ ⟨h.b.a0,h.b.a1⟩
   show (⟨bmL q.s.M.b.l q.s.M.b.a 0,bmA q.s.M.b.l q.s.M.b.a 0,bmG q.s.M.b.l q.s.M.b.a q.s.M.b.g 0,bmF q.s.M.b.l q.s.M.b.a q.s.M.b.f 0⟩:Bem)=_
   rw [this.1,this.2.1,this.2.2.1,this.2.2.2]
  have hbm:=(zfu h.b (i:=0) (by have:=h.ln;omega)).1
  rw [hb0] at hbm
  have ht:=zf7 h.t.1 h.t.2 0
  have ht0:q.s.M.t.run (0:Nat)=q.s.M.t:=TM.run_zero _ h.t.2.1
  rw [ht0] at ht
  have hM:q.s.M.goOn=q.s.M.lat 1:=by
   have e1:slept q.s.M.mready (q.s.M.clock+(1:Nat)) 3=q.s.M.mready:=zcz (by have:=h.mr;omega)
   have e2:(if q.s.M.held then q.s.M.aready else slept q.s.M.aready (q.s.M.clock+(1:Nat)) 5)=q.s.M.aready:=by
    split
    ·rfl
    ·rename_i hh
     rcases h.ar with ha|⟨ha,_⟩
     ·exact absurd ha hh
     ·exact zcz (by omega)
   unfold Mach.goOn Mach.lat
   rw [e1,e2,ht,hbm]
   rfl
  have hsm:q.s.M.smp 1=[]:=by
   unfold Mach.smp
   have e:sms q.s.M.s 1=one q.s.M.s:=by show []++one q.s.M.s=_;rfl
   rw [e]
   unfold one
   split <;> rfl
  refine ⟨⟨hM,by show q.s.l=[]++q.s.l;rfl⟩,rfl,by show q.ln=[]++q.ln;rfl,?_⟩
  show q.sm=[]++(q.sm++q.s.M.smp 1)
  rw [hsm,List.append_nil,List.nil_append]
 | i+1,hd=>zeD (zeC (zeE k h i (by omega))) (zkv h (by omega) hd)
end Go.Proofs.YtbennamieealbaaGreatDoor
