/-
  Parts of a proof, joined.
-/
import Derived.Test.YtbennamieealbaaGreatDoorZg14
import Derived.Test.YtbennamieealbaaGreatDoorZg07
import Derived.Test.YtbennamieealbaaGreatDoorZg36
set_option linter.unusedVariables false
set_option maxRecDepth 100000
set_option maxHeartbeats 3200000
namespace Go.Proofs.YtbennamieealbaaGreatDoor
open Go.ChangeShapes Go.WideShapes Go.ChangeAt Go.RowKit
structure CkW (w : World) (u0 u1 u2 u3 u4 : Option Addr) (n0 n1 n2 n3 n4 c0 c1 c2 c3 c4 : Nat) (x l a f k m q : Int) (g : Bool) (Y : World) : Prop where
 low:Below w.heap.size w Y
 z:w.heap.size<Y.heap.size
 r0:Y.cell? ⟨w.heap.size,30,none⟩=some (.slice u0 n0 c0)
 r1:Y.cell? ⟨w.heap.size,31,none⟩=some (.slice u1 n1 c1)
 r2:Y.cell? ⟨w.heap.size,32,none⟩=some (.slice u2 n2 c2)
 r3:Y.cell? ⟨w.heap.size,33,none⟩=some (.slice u3 n3 c3)
 r4:Y.cell? ⟨w.heap.size,34,none⟩=some (.slice u4 n4 c4)
 s:Y.cell? ⟨w.heap.size,60,none⟩=some (.int .i64 x)
 b0:Y.cell? ⟨w.heap.size,61,none⟩=some (.int .i64 l)
 b1:Y.cell? ⟨w.heap.size,62,none⟩=some (.int .i64 a)
 b2:Y.cell? ⟨w.heap.size,63,none⟩=some (.bool g)
 b3:Y.cell? ⟨w.heap.size,64,none⟩=some (.int .i64 f)
 k:Y.cell? ⟨w.heap.size,72,none⟩=some (.int .i64 k)
 m:Y.cell? ⟨w.heap.size,73,none⟩=some (.int .i64 m)
 q:Y.cell? ⟨w.heap.size,74,none⟩=some (.int .i64 q)
theorem CkW.mk0 (M:Mach) (S:Sl) (w:World) (t:TypeId) {u0 u1 u2 u3 u4:Option Addr} {c0 c1 c2 c3 c4:Nat} (e0:S.get 0 = .slice u0 M.mrom.length c0) (e1:S.get 1 = .slice u1 M.arom.length c1) (e2:S.get 2 = .slice u2 M.ram.length c2) (e3:S.get 3 = .slice u3 M.own.length c3) (e4:S.get 4 = .slice u4 M.video.length c4) :
 CkW w u0 u1 u2 u3 u4 M.mrom.length M.arom.length M.ram.length M.own.length M.video.length c0 c1 c2 c3 c4 M.s.w M.b.l M.b.a M.b.f M.clock M.mready M.aready M.b.g (w.alloc (.cells (machL M S).toArray t)):=by
 have h:=Bx.new w (machL M S) t (b:=w.heap.size) rfl
 exact ⟨stA (st0 w) _,h.z,(h.at 30 (S.get 0) rfl).trans (by rw [e0]),(h.at 31 (S.get 1) rfl).trans (by rw [e1]),(h.at 32 (S.get 2) rfl).trans (by rw [e2]),(h.at 33 (S.get 3) rfl).trans (by rw [e3]),(h.at 34 (S.get 4) rfl).trans (by rw [e4]),h.at 60 _ rfl,h.at 61 _ rfl,h.at 62 _ rfl,h.at 63 _ rfl,h.at 64 _ rfl,h.at 72 _ rfl,h.at 73 _ rfl,h.at 74 _ rfl⟩
section
variable {w : World} {u0 u1 u2 u3 u4 : Option Addr} {n0 n1 n2 n3 n4 c0 c1 c2 c3 c4 : Nat} {x l a f k m q : Int} {g : Bool}
def CkT (w:World) (u0 u1 u2 u3 u4:Option Addr) (n0 n1 n2 n3 n4 c0 c1 c2 c3 c4:Nat) (x l a f k m q:Int) (g:Bool) (v:Int):Prop :=
 ∀ (M:Mach) (S:Sl),CkW w u0 u1 u2 u3 u4 n0 n1 n2 n3 n4 c0 c1 c2 c3 c4 x l a f k m q g (w.alloc (.cells (machL M S).toArray 41)) ->
  Calls Tryz.prog 40 #[.agg (machL M S).toArray] w λe w'=>e = .returned (.int .i64 v)/\Below w.heap.size w w'
theorem zhZ (h0:1024<max (n0:Int) n1):CkT w u0 u1 u2 u3 u4 n0 n1 n2 n3 n4 c0 c1 c2 c3 c4 x l a f k m q g 2:=by
 intro M S hC
 have HC:=hid hC
 clear hC
 go_enter Tryz.func40,Tryz.ntmps40
 go_upto_region 1 with fail
 refine Pl.cutW (CkW w u0 u1 u2 u3 u4 n0 n1 n2 n3 n4 c0 c1 c2 c3 c4 x l a f k m q g) HC.out ?_
 intro Y hY
 obtain ⟨hlow,z,r0,r1,r2,r3,r4,s,b0,b1,b2,b3,hk,hm,hq⟩:=hY
 have HL:=hid hlow
 clear hlow HC
 go_wp2
 all_goals
  go_ret
  exact ⟨rfl,HL.out⟩
theorem zkm (m0:(n0:Int)<=1024) (m1:(n1:Int)<=1024) (h1:((n2:Int) == 128)=false):CkT w u0 u1 u2 u3 u4 n0 n1 n2 n3 n4 c0 c1 c2 c3 c4 x l a f k m q g 4:=by
 intro M S hC
 have hmx:max (n0:Int) n1<=1024:=by omega
 have HC:=hid hC
 clear hC
 go_enter Tryz.func40,Tryz.ntmps40
 go_upto_region 1 with fail
 refine Pl.cutW (CkW w u0 u1 u2 u3 u4 n0 n1 n2 n3 n4 c0 c1 c2 c3 c4 x l a f k m q g) HC.out ?_
 intro Y hY
 obtain ⟨hlow,z,r0,r1,r2,r3,r4,s,b0,b1,b2,b3,hk,hm,hq⟩:=hY
 have HL:=hid hlow
 clear hlow HC
 go_wp2
 all_goals
  go_ret
  exact ⟨rfl,HL.out⟩
theorem zkn (m0:(n0:Int)<=1024) (m1:(n1:Int)<=1024) (h1:n2=128) (h2:((n3:Int) == 64)=false):CkT w u0 u1 u2 u3 u4 n0 n1 n2 n3 n4 c0 c1 c2 c3 c4 x l a f k m q g 4:=by
 intro M S hC
 have hmx:max (n0:Int) n1<=1024:=by omega
 have j1:((n2:Int) == 128)=true:=by simp [h1]
 clear h1
 have HC:=hid hC
 clear hC
 go_enter Tryz.func40,Tryz.ntmps40
 go_upto_region 1 with fail
 refine Pl.cutW (CkW w u0 u1 u2 u3 u4 n0 n1 n2 n3 n4 c0 c1 c2 c3 c4 x l a f k m q g) HC.out ?_
 intro Y hY
 obtain ⟨hlow,z,r0,r1,r2,r3,r4,s,b0,b1,b2,b3,hk,hm,hq⟩:=hY
 have HL:=hid hlow
 clear hlow HC
 go_wp2
 all_goals
  go_ret
  exact ⟨rfl,HL.out⟩
theorem zgD (m0:(n0:Int)<=1024) (m1:(n1:Int)<=1024) (h1:n2=128) (h2:n3=64) (h3:((n4:Int) == 256)=false):CkT w u0 u1 u2 u3 u4 n0 n1 n2 n3 n4 c0 c1 c2 c3 c4 x l a f k m q g 4:=by
 intro M S hC
 have hmx:max (n0:Int) n1<=1024:=by omega
 have j1:((n2:Int) == 128)=true:=by simp [h1]
 clear h1
 have j2:((n3:Int) == 64)=true:=by simp [h2]
 clear h2
 have HC:=hid hC
 clear hC
 go_enter Tryz.func40,Tryz.ntmps40
 go_upto_region 1 with fail
 refine Pl.cutW (CkW w u0 u1 u2 u3 u4 n0 n1 n2 n3 n4 c0 c1 c2 c3 c4 x l a f k m q g) HC.out ?_
 intro Y hY
 obtain ⟨hlow,z,r0,r1,r2,r3,r4,s,b0,b1,b2,b3,hk,hm,hq⟩:=hY
 have HL:=hid hlow
 clear hlow HC
 go_wp2
 all_goals
  go_ret
  exact ⟨rfl,HL.out⟩
theorem zl0 (m0:(n0:Int)<=1024) (m1:(n1:Int)<=1024) (ew0:x<0):CkT w u0 u1 u2 u3 u4 n0 n1 128 64 256 c0 c1 c2 c3 c4 x l a f k m q g 3:=by
 intro M S hC
 have hmx:max (n0:Int) n1<=1024:=by omega
 have HC:=hid hC
 clear hC
 go_enter Tryz.func40,Tryz.ntmps40
 go_upto_region 1 with fail
 refine Pl.cutW (CkW w u0 u1 u2 u3 u4 n0 n1 128 64 256 c0 c1 c2 c3 c4 x l a f k m q g) HC.out ?_
 intro Y hY
 obtain ⟨hlow,z,r0,r1,r2,r3,r4,s,b0,b1,b2,b3,hk,hm,hq⟩:=hY
 have HL:=hid hlow
 clear hlow HC
 go_wp2
 all_goals
  go_ret
  exact ⟨rfl,stA HL.out _⟩
theorem zl1 (m0:(n0:Int)<=1024) (m1:(n1:Int)<=1024) (ew0:0<=x) (ew1:15<x):CkT w u0 u1 u2 u3 u4 n0 n1 128 64 256 c0 c1 c2 c3 c4 x l a f k m q g 3:=by
 intro M S hC
 have hmx:max (n0:Int) n1<=1024:=by omega
 have HC:=hid hC
 clear hC
 go_enter Tryz.func40,Tryz.ntmps40
 go_upto_region 1 with fail
 refine Pl.cutW (CkW w u0 u1 u2 u3 u4 n0 n1 128 64 256 c0 c1 c2 c3 c4 x l a f k m q g) HC.out ?_
 intro Y hY
 obtain ⟨hlow,z,r0,r1,r2,r3,r4,s,b0,b1,b2,b3,hk,hm,hq⟩:=hY
 have HL:=hid hlow
 clear hlow HC
 go_wp2
 all_goals
  go_ret
  exact ⟨rfl,stA HL.out _⟩
theorem zl2 (m0:(n0:Int)<=1024) (m1:(n1:Int)<=1024) (ew0:0<=x) (ew1:x<=15) (el0:l<0):CkT w u0 u1 u2 u3 u4 n0 n1 128 64 256 c0 c1 c2 c3 c4 x l a f k m q g 3:=by
 intro M S hC
 have hmx:max (n0:Int) n1<=1024:=by omega
 have HC:=hid hC
 clear hC
 go_enter Tryz.func40,Tryz.ntmps40
 go_upto_region 1 with fail
 refine Pl.cutW (CkW w u0 u1 u2 u3 u4 n0 n1 128 64 256 c0 c1 c2 c3 c4 x l a f k m q g) HC.out ?_
 intro Y hY
 obtain ⟨hlow,z,r0,r1,r2,r3,r4,s,b0,b1,b2,b3,hk,hm,hq⟩:=hY
 have HL:=hid hlow
 clear hlow HC
 go_wp2
 all_goals
  go_ret
  exact ⟨rfl,stA HL.out _⟩
theorem zl3 (m0:(n0:Int)<=1024) (m1:(n1:Int)<=1024) (ew0:0<=x) (ew1:x<=15) (el0:0<=l) (el1:9<l):CkT w u0 u1 u2 u3 u4 n0 n1 128 64 256 c0 c1 c2 c3 c4 x l a f k m q g 3:=by
 intro M S hC
 have hmx:max (n0:Int) n1<=1024:=by omega
 have HC:=hid hC
 clear hC
 go_enter Tryz.func40,Tryz.ntmps40
 go_upto_region 1 with fail
 refine Pl.cutW (CkW w u0 u1 u2 u3 u4 n0 n1 128 64 256 c0 c1 c2 c3 c4 x l a f k m q g) HC.out ?_
 intro Y hY
 obtain ⟨hlow,z,r0,r1,r2,r3,r4,s,b0,b1,b2,b3,hk,hm,hq⟩:=hY
 have HL:=hid hlow
 clear hlow HC
 go_wp2
 all_goals
  go_ret
  exact ⟨rfl,stA HL.out _⟩
theorem zl4 (m0:(n0:Int)<=1024) (m1:(n1:Int)<=1024) (ew0:0<=x) (ew1:x<=15) (el0:0<=l) (el1:l<=9) (ea0:a<0):CkT w u0 u1 u2 u3 u4 n0 n1 128 64 256 c0 c1 c2 c3 c4 x l a f k m q g 3:=by
 intro M S hC
 have hmx:max (n0:Int) n1<=1024:=by omega
 have HC:=hid hC
 clear hC
 go_enter Tryz.func40,Tryz.ntmps40
 go_upto_region 1 with fail
 refine Pl.cutW (CkW w u0 u1 u2 u3 u4 n0 n1 128 64 256 c0 c1 c2 c3 c4 x l a f k m q g) HC.out ?_
 intro Y hY
 obtain ⟨hlow,z,r0,r1,r2,r3,r4,s,b0,b1,b2,b3,hk,hm,hq⟩:=hY
 have HL:=hid hlow
 clear hlow HC
 go_wp2
 all_goals
  go_ret
  exact ⟨rfl,stA HL.out _⟩
theorem zl5 (m0:(n0:Int)<=1024) (m1:(n1:Int)<=1024) (ew0:0<=x) (ew1:x<=15) (el0:0<=l) (el1:l<=9) (ea0:0<=a) (ea1:63<a):CkT w u0 u1 u2 u3 u4 n0 n1 128 64 256 c0 c1 c2 c3 c4 x l a f k m q g 3:=by
 intro M S hC
 have hmx:max (n0:Int) n1<=1024:=by omega
 have HC:=hid hC
 clear hC
 go_enter Tryz.func40,Tryz.ntmps40
 go_upto_region 1 with fail
 refine Pl.cutW (CkW w u0 u1 u2 u3 u4 n0 n1 128 64 256 c0 c1 c2 c3 c4 x l a f k m q g) HC.out ?_
 intro Y hY
 obtain ⟨hlow,z,r0,r1,r2,r3,r4,s,b0,b1,b2,b3,hk,hm,hq⟩:=hY
 have HL:=hid hlow
 clear hlow HC
 go_wp2
 all_goals
  go_ret
  exact ⟨rfl,stA HL.out _⟩
theorem zl6 (m0:(n0:Int)<=1024) (m1:(n1:Int)<=1024) (ew0:0<=x) (ew1:x<=15) (el0:0<=l) (el1:l<=9) (ea0:0<=a) (ea1:a<=63) (ef0:f<0):CkT w u0 u1 u2 u3 u4 n0 n1 128 64 256 c0 c1 c2 c3 c4 x l a f k m q g 3:=by
 intro M S hC
 have hmx:max (n0:Int) n1<=1024:=by omega
 have HC:=hid hC
 clear hC
 go_enter Tryz.func40,Tryz.ntmps40
 go_upto_region 1 with fail
 refine Pl.cutW (CkW w u0 u1 u2 u3 u4 n0 n1 128 64 256 c0 c1 c2 c3 c4 x l a f k m q g) HC.out ?_
 intro Y hY
 obtain ⟨hlow,z,r0,r1,r2,r3,r4,s,b0,b1,b2,b3,hk,hm,hq⟩:=hY
 have HL:=hid hlow
 clear hlow HC
 go_wp2
 all_goals
  go_ret
  exact ⟨rfl,stA HL.out _⟩
theorem zl7 (m0:(n0:Int)<=1024) (m1:(n1:Int)<=1024) (ew0:0<=x) (ew1:x<=15) (el0:0<=l) (el1:l<=9) (ea0:0<=a) (ea1:a<=63) (ef0:0<=f) (ef1:20000<f):CkT w u0 u1 u2 u3 u4 n0 n1 128 64 256 c0 c1 c2 c3 c4 x l a f k m q g 3:=by
 intro M S hC
 have hmx:max (n0:Int) n1<=1024:=by omega
 have HC:=hid hC
 clear hC
 go_enter Tryz.func40,Tryz.ntmps40
 go_upto_region 1 with fail
 refine Pl.cutW (CkW w u0 u1 u2 u3 u4 n0 n1 128 64 256 c0 c1 c2 c3 c4 x l a f k m q g) HC.out ?_
 intro Y hY
 obtain ⟨hlow,z,r0,r1,r2,r3,r4,s,b0,b1,b2,b3,hk,hm,hq⟩:=hY
 have HL:=hid hlow
 clear hlow HC
 go_wp2
 all_goals
  go_ret
  exact ⟨rfl,stA HL.out _⟩
theorem zl8 (m0:(n0:Int)<=1024) (m1:(n1:Int)<=1024) (ew0:0<=x) (ew1:x<=15) (el0:0<=l) (el1:l<=9) (ea0:0<=a) (ea1:a<=63) (ef0:0<=f) (ef1:f<=20000) (ek0:k<0):CkT w u0 u1 u2 u3 u4 n0 n1 128 64 256 c0 c1 c2 c3 c4 x l a f k m q g 3:=by
 intro M S hC
 have hmx:max (n0:Int) n1<=1024:=by omega
 have HC:=hid hC
 clear hC
 go_enter Tryz.func40,Tryz.ntmps40
 go_upto_region 1 with fail
 refine Pl.cutW (CkW w u0 u1 u2 u3 u4 n0 n1 128 64 256 c0 c1 c2 c3 c4 x l a f k m q g) HC.out ?_
 intro Y hY
 obtain ⟨hlow,z,r0,r1,r2,r3,r4,s,b0,b1,b2,b3,hk,hm,hq⟩:=hY
 have HL:=hid hlow
 clear hlow HC
 go_wp2
 all_goals
  go_ret
  exact ⟨rfl,stA HL.out _⟩
theorem zl9 (m0:(n0:Int)<=1024) (m1:(n1:Int)<=1024) (ew0:0<=x) (ew1:x<=15) (el0:0<=l) (el1:l<=9) (ea0:0<=a) (ea1:a<=63) (ef0:0<=f) (ef1:f<=20000) (ek0:0<=k) (ek1:200000<k):CkT w u0 u1 u2 u3 u4 n0 n1 128 64 256 c0 c1 c2 c3 c4 x l a f k m q g 3:=by
 intro M S hC
 have hmx:max (n0:Int) n1<=1024:=by omega
 have HC:=hid hC
 clear hC
 go_enter Tryz.func40,Tryz.ntmps40
 go_upto_region 1 with fail
 refine Pl.cutW (CkW w u0 u1 u2 u3 u4 n0 n1 128 64 256 c0 c1 c2 c3 c4 x l a f k m q g) HC.out ?_
 intro Y hY
 obtain ⟨hlow,z,r0,r1,r2,r3,r4,s,b0,b1,b2,b3,hk,hm,hq⟩:=hY
 have HL:=hid hlow
 clear hlow HC
 go_wp2
 all_goals
  go_ret
  exact ⟨rfl,stA HL.out _⟩
theorem zma (m0:(n0:Int)<=1024) (m1:(n1:Int)<=1024) (ew0:0<=x) (ew1:x<=15) (el0:0<=l) (el1:l<=9) (ea0:0<=a) (ea1:a<=63) (ef0:0<=f) (ef1:f<=20000) (ek0:0<=k) (ek1:k<=200000) (ep0:m<0):CkT w u0 u1 u2 u3 u4 n0 n1 128 64 256 c0 c1 c2 c3 c4 x l a f k m q g 3:=by
 intro M S hC
 have hmx:max (n0:Int) n1<=1024:=by omega
 have HC:=hid hC
 clear hC
 go_enter Tryz.func40,Tryz.ntmps40
 go_upto_region 1 with fail
 refine Pl.cutW (CkW w u0 u1 u2 u3 u4 n0 n1 128 64 256 c0 c1 c2 c3 c4 x l a f k m q g) HC.out ?_
 intro Y hY
 obtain ⟨hlow,z,r0,r1,r2,r3,r4,s,b0,b1,b2,b3,hk,hm,hq⟩:=hY
 have HL:=hid hlow
 clear hlow HC
 go_wp2
 all_goals
  go_ret
  exact ⟨rfl,stA HL.out _⟩
theorem zmb (m0:(n0:Int)<=1024) (m1:(n1:Int)<=1024) (ew0:0<=x) (ew1:x<=15) (el0:0<=l) (el1:l<=9) (ea0:0<=a) (ea1:a<=63) (ef0:0<=f) (ef1:f<=20000) (ek0:0<=k) (ek1:k<=200000) (ep0:0<=m) (ep1:k+20000<m):CkT w u0 u1 u2 u3 u4 n0 n1 128 64 256 c0 c1 c2 c3 c4 x l a f k m q g 3:=by
 intro M S hC
 have hmx:max (n0:Int) n1<=1024:=by omega
 have HC:=hid hC
 clear hC
 go_enter Tryz.func40,Tryz.ntmps40
 go_upto_region 1 with fail
 refine Pl.cutW (CkW w u0 u1 u2 u3 u4 n0 n1 128 64 256 c0 c1 c2 c3 c4 x l a f k m q g) HC.out ?_
 intro Y hY
 obtain ⟨hlow,z,r0,r1,r2,r3,r4,s,b0,b1,b2,b3,hk,hm,hq⟩:=hY
 have HL:=hid hlow
 clear hlow HC
 go_wp2
 all_goals
  go_ret
  exact ⟨rfl,stA HL.out _⟩
theorem zmc (m0:(n0:Int)<=1024) (m1:(n1:Int)<=1024) (ew0:0<=x) (ew1:x<=15) (el0:0<=l) (el1:l<=9) (ea0:0<=a) (ea1:a<=63) (ef0:0<=f) (ef1:f<=20000) (ek0:0<=k) (ek1:k<=200000) (ep0:0<=m) (ep1:m<=k+20000) (eq0:q<0):CkT w u0 u1 u2 u3 u4 n0 n1 128 64 256 c0 c1 c2 c3 c4 x l a f k m q g 3:=by
 intro M S hC
 have hmx:max (n0:Int) n1<=1024:=by omega
 have HC:=hid hC
 clear hC
 go_enter Tryz.func40,Tryz.ntmps40
 go_upto_region 1 with fail
 refine Pl.cutW (CkW w u0 u1 u2 u3 u4 n0 n1 128 64 256 c0 c1 c2 c3 c4 x l a f k m q g) HC.out ?_
 intro Y hY
 obtain ⟨hlow,z,r0,r1,r2,r3,r4,s,b0,b1,b2,b3,hk,hm,hq⟩:=hY
 have HL:=hid hlow
 clear hlow HC
 go_wp2
 all_goals
  go_ret
  exact ⟨rfl,stA HL.out _⟩
theorem zmd (m0:(n0:Int)<=1024) (m1:(n1:Int)<=1024) (ew0:0<=x) (ew1:x<=15) (el0:0<=l) (el1:l<=9) (ea0:0<=a) (ea1:a<=63) (ef0:0<=f) (ef1:f<=20000) (ek0:0<=k) (ek1:k<=200000) (ep0:0<=m) (ep1:m<=k+20000) (eq0:0<=q) (eq1:k+20000<q):CkT w u0 u1 u2 u3 u4 n0 n1 128 64 256 c0 c1 c2 c3 c4 x l a f k m q g 3:=by
 intro M S hC
 have hmx:max (n0:Int) n1<=1024:=by omega
 have HC:=hid hC
 clear hC
 go_enter Tryz.func40,Tryz.ntmps40
 go_upto_region 1 with fail
 refine Pl.cutW (CkW w u0 u1 u2 u3 u4 n0 n1 128 64 256 c0 c1 c2 c3 c4 x l a f k m q g) HC.out ?_
 intro Y hY
 obtain ⟨hlow,z,r0,r1,r2,r3,r4,s,b0,b1,b2,b3,hk,hm,hq⟩:=hY
 have HL:=hid hlow
 clear hlow HC
 go_wp2
 all_goals
  go_ret
  exact ⟨rfl,stA HL.out _⟩
theorem zme (m0:(n0:Int)<=1024) (m1:(n1:Int)<=1024) (ew0:0<=x) (ew1:x<=15) (el0:0<=l) (el1:l<=9) (ea0:0<=a) (ea1:a<=63) (ef0:0<=f) (ef1:f<=20000) (ek0:0<=k) (ek1:k<=200000) (ep0:0<=m) (ep1:m<=k+20000) (eq0:0<=q) (eq1:q<=k+20000):CkT w u0 u1 u2 u3 u4 n0 n1 128 64 256 c0 c1 c2 c3 c4 x l a f k m q g 0:=by
 intro M S hC
 have hmx:max (n0:Int) n1<=1024:=by omega
 have HC:=hid hC
 clear hC
 go_enter Tryz.func40,Tryz.ntmps40
 go_upto_region 1 with fail
 refine Pl.cutW (CkW w u0 u1 u2 u3 u4 n0 n1 128 64 256 c0 c1 c2 c3 c4 x l a f k m q g) HC.out ?_
 intro Y hY
 obtain ⟨hlow,z,r0,r1,r2,r3,r4,s,b0,b1,b2,b3,hk,hm,hq⟩:=hY
 have HL:=hid hlow
 clear hlow HC
 go_wp2
 all_goals
  go_ret
  exact ⟨rfl,stA HL.out _⟩
theorem za3 (M:Mach) (S:Sl) (w:World) (hS:S.lens M):Calls Tryz.prog 40 #[.agg (machL M S).toArray] w λe w'=>e = .returned (.int .i64 M.chk)/\Below w.heap.size w w':=by
 obtain ⟨u0,c0,e0⟩:=hS 0 (by omega)
 obtain ⟨u1,c1,e1⟩:=hS 1 (by omega)
 obtain ⟨u2,c2,e2⟩:=hS 2 (by omega)
 obtain ⟨u3,c3,e3⟩:=hS 3 (by omega)
 obtain ⟨u4,c4,e4⟩:=hS 4 (by omega)
 have hC:=CkW.mk0 M S w 41 e0 e1 e2 e3 e4
 unfold Mach.chk
 by_cases hr:M.mrom.length<=1024/\M.arom.length<=1024
 ·rw [if_pos hr]
  have t0:(M.mrom.length:Int)<=1024:=by omega
  have t1:(M.arom.length:Int)<=1024:=by omega
  by_cases hl:M.ram.length=128/\M.own.length=64/\M.video.length=256
  ·rw [if_pos hl]
   obtain ⟨l1,l2,l3⟩:=hl
   rw [l1,l2,l3] at hC
   by_cases gw0:0<=M.s.w
   case neg =>
    rw [if_neg (by omega)]
    exact zl0 t0 t1  (by omega) M S hC
   case pos =>
   by_cases gw1:M.s.w<=15
   case neg =>
    rw [if_neg (by omega)]
    exact zl1 t0 t1 gw0 (by omega) M S hC
   case pos =>
   by_cases gl0:0<=M.b.l
   case neg =>
    rw [if_pos ⟨gw0,gw1⟩,if_neg (λhb=>by have hb:=(zax _ _ _).1 hb;have:=hb.l0;have:=hb.l1;have:=hb.a0;have:=hb.a1;have:=hb.f0;have:=hb.f1;omega)]
    exact zl2 t0 t1 gw0 gw1 (by omega) M S hC
   case pos =>
   by_cases gl1:M.b.l<=9
   case neg =>
    rw [if_pos ⟨gw0,gw1⟩,if_neg (λhb=>by have hb:=(zax _ _ _).1 hb;have:=hb.l0;have:=hb.l1;have:=hb.a0;have:=hb.a1;have:=hb.f0;have:=hb.f1;omega)]
    exact zl3 t0 t1 gw0 gw1 gl0 (by omega) M S hC
   case pos =>
   by_cases ga0:0<=M.b.a
   case neg =>
    rw [if_pos ⟨gw0,gw1⟩,if_neg (λhb=>by have hb:=(zax _ _ _).1 hb;have:=hb.l0;have:=hb.l1;have:=hb.a0;have:=hb.a1;have:=hb.f0;have:=hb.f1;omega)]
    exact zl4 t0 t1 gw0 gw1 gl0 gl1 (by omega) M S hC
   case pos =>
   by_cases ga1:M.b.a<=63
   case neg =>
    rw [if_pos ⟨gw0,gw1⟩,if_neg (λhb=>by have hb:=(zax _ _ _).1 hb;have:=hb.l0;have:=hb.l1;have:=hb.a0;have:=hb.a1;have:=hb.f0;have:=hb.f1;omega)]
    exact zl5 t0 t1 gw0 gw1 gl0 gl1 ga0 (by omega) M S hC
   case pos =>
   by_cases gf0:0<=M.b.f
   case neg =>
    rw [if_pos ⟨gw0,gw1⟩,if_neg (λhb=>by have hb:=(zax _ _ _).1 hb;have:=hb.l0;have:=hb.l1;have:=hb.a0;have:=hb.a1;have:=hb.f0;have:=hb.f1;omega)]
    exact zl6 t0 t1 gw0 gw1 gl0 gl1 ga0 ga1 (by omega) M S hC
   case pos =>
   by_cases gf1:M.b.f<=20000
   case neg =>
    rw [if_pos ⟨gw0,gw1⟩,if_neg (λhb=>by have hb:=(zax _ _ _).1 hb;have:=hb.l0;have:=hb.l1;have:=hb.a0;have:=hb.a1;have:=hb.f0;have:=hb.f1;omega)]
    exact zl7 t0 t1 gw0 gw1 gl0 gl1 ga0 ga1 gf0 (by omega) M S hC
   case pos =>
   by_cases gk0:0<=M.clock
   case neg =>
    rw [if_pos ⟨gw0,gw1⟩,if_pos ((zax _ _ _).2 ⟨gl0,gl1,ga0,ga1,gf0,gf1⟩),if_neg (by omega)]
    exact zl8 t0 t1 gw0 gw1 gl0 gl1 ga0 ga1 gf0 gf1 (by omega) M S hC
   case pos =>
   by_cases gk1:M.clock<=200000
   case neg =>
    rw [if_pos ⟨gw0,gw1⟩,if_pos ((zax _ _ _).2 ⟨gl0,gl1,ga0,ga1,gf0,gf1⟩),if_neg (by omega)]
    exact zl9 t0 t1 gw0 gw1 gl0 gl1 ga0 ga1 gf0 gf1 gk0 (by omega) M S hC
   case pos =>
   by_cases gp0:0<=M.mready
   case neg =>
    rw [if_pos ⟨gw0,gw1⟩,if_pos ((zax _ _ _).2 ⟨gl0,gl1,ga0,ga1,gf0,gf1⟩),if_neg (by omega)]
    exact zma t0 t1 gw0 gw1 gl0 gl1 ga0 ga1 gf0 gf1 gk0 gk1 (by omega) M S hC
   case pos =>
   by_cases gp1:M.mready<=M.clock+20000
   case neg =>
    rw [if_pos ⟨gw0,gw1⟩,if_pos ((zax _ _ _).2 ⟨gl0,gl1,ga0,ga1,gf0,gf1⟩),if_neg (by omega)]
    exact zmb t0 t1 gw0 gw1 gl0 gl1 ga0 ga1 gf0 gf1 gk0 gk1 gp0 (by omega) M S hC
   case pos =>
   by_cases gq0:0<=M.aready
   case neg =>
    rw [if_pos ⟨gw0,gw1⟩,if_pos ((zax _ _ _).2 ⟨gl0,gl1,ga0,ga1,gf0,gf1⟩),if_neg (by omega)]
    exact zmc t0 t1 gw0 gw1 gl0 gl1 ga0 ga1 gf0 gf1 gk0 gk1 gp0 gp1 (by omega) M S hC
   case pos =>
   by_cases gq1:M.aready<=M.clock+20000
   case neg =>
    rw [if_pos ⟨gw0,gw1⟩,if_pos ((zax _ _ _).2 ⟨gl0,gl1,ga0,ga1,gf0,gf1⟩),if_neg (by omega)]
    exact zmd t0 t1 gw0 gw1 gl0 gl1 ga0 ga1 gf0 gf1 gk0 gk1 gp0 gp1 gq0 (by omega) M S hC
   case pos =>
   rw [if_pos ⟨gw0,gw1⟩,if_pos ((zax _ _ _).2 ⟨gl0,gl1,ga0,ga1,gf0,gf1⟩),if_pos ⟨⟨gk0,gk1⟩,⟨gp0,gp1⟩,⟨gq0,gq1⟩⟩]
   exact zme t0 t1 gw0 gw1 gl0 gl1 ga0 ga1 gf0 gf1 gk0 gk1 gp0 gp1 gq0 gq1 M S hC
  ·rw [if_neg hl]
   by_cases l1:M.ram.length=128
   case neg=>exact zkm t0 t1 (by simp;omega) M S hC
   by_cases l2:M.own.length=64
   case neg=>exact zkn t0 t1 l1 (by simp;omega) M S hC
   exact zgD t0 t1 l1 l2 (by simp;omega) M S hC
 ·rw [if_neg hr]
  exact zhZ (by omega) M S hC
end
theorem Lk.rcheck (l:List Inp) (v:Value) (B:Nat) (a:Int) (w:World) (h:InpAt B w v l) (hB:B<=w.heap.size):Calls Tryz.prog 41 #[v,.int .i64 a] w λe w'=>e = .returned (.int .i64 (chkIn l a))/\Below w.heap.size w w':=by
 obtain ⟨a1,k1,e1⟩:=h.len
 subst e1
 by_cases hl:40<l.length
 ·have hl':(40:Int)<l.length:=by omega
  have e0:chkIn l a=2:=if_pos hl
  rw [e0]
  clear h e0
  go_enter Tryz.func41,Tryz.ntmps41
  go_wp2
  go_ret
  exact ⟨rfl,st0 w⟩
 ·have hl':¬ (40:Int)<l.length:=by omega
  have e0:chkIn l a=chkL l a:=if_neg hl
  rw [e0]
  have H:=hid h
  clear h e0
  go_enter Tryz.func41,Tryz.ntmps41
  go_wp2
  go_loopw [14,5] (λi ah wr=>∃ (j:Nat) (a':Int),j<=l.length/\i = .int .i64 j/\ah = .int .i64 a'/\chkL (l.drop j) a'=chkL l a/\Below w.heap.size w wr) (λi _ _=>l.length-(intOf i).toNat)
  case atStart=>exact ⟨0,a,Nat.zero_le _,rfl,rfl,rfl,st0 w⟩
  case round =>
   obtain ⟨j,a',hj,rfl,rfl,hE,hb⟩:=hrel
   have HE:=hid hE
   have HB:=hid hb
   by_cases hlt:j<l.length
   ·obtain ⟨x,hx⟩:∃ x,l[j]? = some x:=⟨_,List.getElem?_eq_getElem hlt⟩
    have hd:l.drop j=x::l.drop (j+1):=by
     rw [List.drop_eq_getElem_cons hlt]
     congr 1
     rw [List.getElem?_eq_getElem hlt] at hx
     exact Option.some.inj hx
    have HH:=(H.out.kept (hb.mono hB))
    obtain ⟨g,o,k,ev,gz,x0,x1,x2⟩:=HH.at' hx
    cases ev
    have hjl:(j:Int)<l.length:=by omega
    have hj0:(0:Int)<=j:=by omega
    have HD:=hid hd
    clear hE hb hd hx HH
    by_cases q1:x.c<a'
    ·go_wp2
     go_ret
     exact ⟨by rw [<- HE.out,HD.out,chk3 (Or.inl q1)];rfl,stA HB.out _⟩
    ·have q1':a'<=x.c:=by omega
     by_cases q2:400000<x.c
     ·go_wp2
      go_ret
      exact ⟨by rw [<- HE.out,HD.out,chk3 (Or.inr q2)];rfl,stA HB.out _⟩
     ·have q2':x.c<=400000:=by omega
      have HQ:Hid (¬ (x.c<a' \/ 400000<x.c)):=λe=>e.elim (λe=>by omega) (λe=>by omega)
      clear q1 q2
      by_cases q3:x.p<0
      ·have HP:Hid (¬ (x.p=0 \/ x.p=1)):=λe=>e.elim (λe=>by omega) (λe=>by omega)
       go_wp2
       go_ret
       exact ⟨by rw [<- HE.out,HD.out,chk5 HQ.out HP.out];rfl,stA HB.out _⟩
      ·have q3':0<=x.p:=by omega
       by_cases q4:1<x.p
       ·have HP:Hid (¬ (x.p=0 \/ x.p=1)):=λe=>e.elim (λe=>by omega) (λe=>by omega)
        clear q3
        go_wp2
        go_ret
        exact ⟨by rw [<- HE.out,HD.out,chk5 HQ.out HP.out];rfl,stA HB.out _⟩
       ·have q4':x.p<=1:=by omega
        have HP:Hid (x.p=0 \/ x.p=1):=hid (by omega)
        clear q3 q4
        go_wp2
        exact ⟨⟨j+1,x.c,by omega,by simp,rfl,by rw [<- HE.out,HD.out,chk0 HQ.out HP.out],stA HB.out _⟩,by simp [intOf];omega⟩
   ·have hj2:j=l.length:=by omega
    subst hj2
    have hnl:¬ (l.length:Int)<l.length:=by omega
    clear hE hb
    go_wp2
    go_ret
    refine ⟨?_,HB.out⟩
    have:=HE.out
    rw [List.drop_length] at this
    rw [<- this];rfl
theorem zfr {M:Mach} {l:List Inp} {n:Int} (h1:M.chk=0) (h2:chkIn l M.clock=0) (h:¬ (0<=n/\n<=20000/\M.clock+n<=200000)):runErr M l n=3:=by
 unfold runErr
 rw [if_pos h1,if_pos h2,if_neg h]
theorem zmf {M:Mach} {l:List Inp} {n:Int} (h1:M.chk=0) (h2:chkIn l M.clock=0) (h:0<=n/\n<=20000/\M.clock+n<=200000):runErr M l n=0:=by
 unfold runErr
 rw [if_pos h1,if_pos h2,if_pos h]
theorem Lk.badRun (M:Mach) (S:Sl) (v:Value) (l:List Inp) (n:Int) (w:World) (hS:S.lens M) (hok:M.ok) (hin:InpAt w.heap.size w v l) (hn:-9223372036854775808<=n/\n<=9223372036854775807) :
 Calls Tryz.prog 14 #[.agg (machL M S).toArray,v,.int .i64 n,.int .i64 20000] w λe w'=>e = .returned (.int .i64 (runErr M l n))/\Below w.heap.size w w':=by
 have hq:Below w.heap.size w (w.alloc (.cells (machL M S).toArray 41)):=stA (st0 w) _
 have HB:=hid (Bx.new w (machL M S) 41 (b:=w.heap.size) rfl)
 have HIN:=hid ((hin.kept hq).mono hq.size)
 have HS:=hid hS
 have hz:w.heap.size<(w.alloc (.cells (machL M S).toArray 41)).heap.size:=by simp
 by_cases hc:M.chk=0
 ·have hf:=ze6 hok hc
  have hcl:=hf.clock
  have HC:=hid hc
  by_cases hi:chkIn l M.clock=0
  ·have HI:=hid hi
   clear hc hi hin hS hok hf
   by_cases h0:n<0
   ·have he:=zfr HC.out HI.out (n:=n) (by omega)
    rw [he]
    have d1:decide (n<0)=true:=decide_eq_true h0
    clear he h0
    go_enter Tryz.func14,Tryz.ntmps14
    go_wp2_with (first
     | (refine wpList_load_mid rfl 41 _ rfl w.heap.size 0 rfl (machL M S) _ HB.out.c Tryz.underlying41 rfl zad ?_)
     | (go_at_call 40;refine (za3 M S _ HS.out).mono ?_;rw [HC.out];rintro e w1 ⟨rfl,hb1⟩;have HB1:=hid (HB.out.kept hb1);have HL1:=hid (stp hq hb1);have HI1:=hid ((HIN.out.kept hb1).mono hb1.size);have x72:=HB1.out.at 72 (.int .i64 M.clock) rfl;have xz:=HB1.out.z;clear hb1)
     | (go_at_call 41;refine (Lk.rcheck l v _ M.clock _ HI1.out (Nat.le_refl _)).mono ?_;rw [HI.out];rintro e w2 ⟨rfl,hb2⟩;have HB2:=hid (HB1.out.kept hb2);have HL2:=hid (stp HL1.out hb2);have y72:=HB2.out.at 72 (.int .i64 M.clock) rfl;have yz:=HB2.out.z;clear hb2))
    go_ret
    exact ⟨rfl,HL2.out⟩
   ·have d1:decide (n<0)=false:=decide_eq_false h0
    by_cases h2:20000<n
    ·have he:=zfr HC.out HI.out (n:=n) (by omega)
     rw [he]
     have d2:decide (20000<n)=true:=decide_eq_true h2
     clear he h0 h2
     go_enter Tryz.func14,Tryz.ntmps14
     go_wp2_with (first
      | (refine wpList_load_mid rfl 41 _ rfl w.heap.size 0 rfl (machL M S) _ HB.out.c Tryz.underlying41 rfl zad ?_)
      | (go_at_call 40;refine (za3 M S _ HS.out).mono ?_;rw [HC.out];rintro e w1 ⟨rfl,hb1⟩;have HB1:=hid (HB.out.kept hb1);have HL1:=hid (stp hq hb1);have HI1:=hid ((HIN.out.kept hb1).mono hb1.size);have x72:=HB1.out.at 72 (.int .i64 M.clock) rfl;have xz:=HB1.out.z;clear hb1)
      | (go_at_call 41;refine (Lk.rcheck l v _ M.clock _ HI1.out (Nat.le_refl _)).mono ?_;rw [HI.out];rintro e w2 ⟨rfl,hb2⟩;have HB2:=hid (HB1.out.kept hb2);have HL2:=hid (stp HL1.out hb2);have y72:=HB2.out.at 72 (.int .i64 M.clock) rfl;have yz:=HB2.out.z;clear hb2))
     go_ret
     exact ⟨rfl,HL2.out⟩
    ·have d2:decide (20000<n)=false:=decide_eq_false h2
     have h0':0<=n:=by omega
     have h2':n<=20000:=by omega
     by_cases h4:200000<M.clock+n
     ·have he:=zfr HC.out HI.out (n:=n) (by omega)
      rw [he]
      have d3:decide (200000<M.clock+n)=true:=decide_eq_true h4
      clear he h0 h2 h4
      go_enter Tryz.func14,Tryz.ntmps14
      go_wp2_with (first
       | (refine wpList_load_mid rfl 41 _ rfl w.heap.size 0 rfl (machL M S) _ HB.out.c Tryz.underlying41 rfl zad ?_)
       | (go_at_call 40;refine (za3 M S _ HS.out).mono ?_;rw [HC.out];rintro e w1 ⟨rfl,hb1⟩;have HB1:=hid (HB.out.kept hb1);have HL1:=hid (stp hq hb1);have HI1:=hid ((HIN.out.kept hb1).mono hb1.size);have x72:=HB1.out.at 72 (.int .i64 M.clock) rfl;have xz:=HB1.out.z;clear hb1)
       | (go_at_call 41;refine (Lk.rcheck l v _ M.clock _ HI1.out (Nat.le_refl _)).mono ?_;rw [HI.out];rintro e w2 ⟨rfl,hb2⟩;have HB2:=hid (HB1.out.kept hb2);have HL2:=hid (stp HL1.out hb2);have y72:=HB2.out.at 72 (.int .i64 M.clock) rfl;have yz:=HB2.out.z;clear hb2))
      go_ret
      exact ⟨rfl,HL2.out⟩
     ·have he:=zmf HC.out HI.out (n:=n) (by omega)
      rw [he]
      have d3:decide (200000<M.clock+n)=false:=decide_eq_false h4
      clear he h0 h2 h4
      go_enter Tryz.func14,Tryz.ntmps14
      go_wp2_with (first
       | (refine wpList_load_mid rfl 41 _ rfl w.heap.size 0 rfl (machL M S) _ HB.out.c Tryz.underlying41 rfl zad ?_)
       | (go_at_call 40;refine (za3 M S _ HS.out).mono ?_;rw [HC.out];rintro e w1 ⟨rfl,hb1⟩;have HB1:=hid (HB.out.kept hb1);have HL1:=hid (stp hq hb1);have HI1:=hid ((HIN.out.kept hb1).mono hb1.size);have x72:=HB1.out.at 72 (.int .i64 M.clock) rfl;have xz:=HB1.out.z;clear hb1)
       | (go_at_call 41;refine (Lk.rcheck l v _ M.clock _ HI1.out (Nat.le_refl _)).mono ?_;rw [HI.out];rintro e w2 ⟨rfl,hb2⟩;have HB2:=hid (HB1.out.kept hb2);have HL2:=hid (stp HL1.out hb2);have y72:=HB2.out.at 72 (.int .i64 M.clock) rfl;have yz:=HB2.out.z;clear hb2))
      go_ret
      exact ⟨rfl,HL2.out⟩
  ·have he:runErr M l n=chkIn l M.clock:=by unfold runErr;rw [if_pos hc,if_neg hi]
   have hne:(chkIn l M.clock != 0)=true:=by simpa using hi
   rw [he]
   have HRC:=hid (λ(w1:World) (h:InpAt w1.heap.size w1 v l)=>Lk.rcheck l v _ M.clock w1 h (Nat.le_refl _))
   generalize chkIn l M.clock=c at hne HRC
   clear hc hi hin hS hok hf he
   go_enter Tryz.func14,Tryz.ntmps14
   go_wp2_with (first
    | (refine wpList_load_mid rfl 41 _ rfl w.heap.size 0 rfl (machL M S) _ HB.out.c Tryz.underlying41 rfl zad ?_)
    | (go_at_call 40;refine (za3 M S _ HS.out).mono ?_;rw [HC.out];rintro e w1 ⟨rfl,hb1⟩;have HB1:=hid (HB.out.kept hb1);have HL1:=hid (stp hq hb1);have HI1:=hid ((HIN.out.kept hb1).mono hb1.size);have x72:=HB1.out.at 72 (.int .i64 M.clock) rfl;have xz:=HB1.out.z;clear hb1)
    | (go_at_call 41;refine (HRC.out _ HI1.out).mono ?_;rintro e w2 ⟨rfl,hb2⟩;have HL2:=hid (stp HL1.out hb2);clear hb2))
   go_ret
   exact ⟨rfl,HL2.out⟩
 ·have he:runErr M l n=M.chk:=by unfold runErr;rw [if_neg hc]
  have hne:(M.chk != 0)=true:=by simpa using hc
  rw [he]
  have HCM:=hid (λ(w1:World)=>za3 M S w1 HS.out)
  generalize M.chk=c at hne HCM
  clear hc hin hS hok he
  go_enter Tryz.func14,Tryz.ntmps14
  go_wp2_with (first
   | (refine wpList_load_mid rfl 41 _ rfl w.heap.size 0 rfl (machL M S) _ HB.out.c Tryz.underlying41 rfl zad ?_)
   | (go_at_call 40;refine (HCM.out _).mono ?_;rintro e w1 ⟨rfl,hb1⟩;have HL1:=hid (stp hq hb1);clear hb1))
  go_ret
  exact ⟨rfl,HL1.out⟩
end Go.Proofs.YtbennamieealbaaGreatDoor
