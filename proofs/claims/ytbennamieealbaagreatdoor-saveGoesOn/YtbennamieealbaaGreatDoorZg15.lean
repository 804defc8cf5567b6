/-
  Parts of a proof, joined.
-/
import Derived.Test.YtbennamieealbaaGreatDoorZg14
import Derived.Test.YtbennamieealbaaGreatDoorZg04
import Derived.Test.YtbennamieealbaaGreatDoorZg01
import Derived.Deep.RegionHeld3
import Derived.Test.YtbennamieealbaaGreatDoorZg12
import Derived.Test.YtbennamieealbaaGreatDoorZg07
set_option linter.unusedVariables false
set_option maxRecDepth 100000
set_option maxHeartbeats 3200000
namespace Go.Proofs.YtbennamieealbaaGreatDoor
open Go.ChangeShapes Go.WideShapes Go.ChangeAt Go.RowKit
theorem zmZ (M:Mach):setAll (machC zeroM) svI (svX M)=machC M:=by kernel_rfl
theorem zm0 {M:Mach} {c:Ct} (h:c∈svX M):∃ i,i<75/\(machC M)[i]? = some c:=by
 obtain ⟨j,hj⟩:=List.mem_iff_getElem?.1 h
 have hl:=(List.getElem?_eq_some_iff.1 hj).1
 rw [svX,List.length_map] at hl
 obtain ⟨i,hi⟩:∃ i,svI[j]? = some i:=⟨_,List.getElem?_eq_getElem hl⟩
 obtain ⟨c',h1,h2⟩:=zmx (M:=M) hi
 have e:c'=c:=by rw [h1] at hj;exact Option.some.inj hj
 subst e
 exact ⟨i,zgV i (List.mem_of_getElem? hi),h2⟩
theorem zbe {c:C.Cpu} (h:c.ok) (i:Nat):0<=c.r i/\c.r i<=65535:=by
 show 0<=c.R.getD (Int.toNat (i:Int)) 0/\c.R.getD (Int.toNat (i:Int)) 0<=65535
 rw [Int.toNat_natCast]
 cases hh:c.R[i]? with
 | none=>simp [List.getD,hh]
 | some x=>simp only [List.getD,hh,Option.getD_some];exact h.2.1 x (List.mem_of_getElem? hh)
theorem zm1 {M:Mach} (h:M.fit):∀ i,i<75->∀ c,(machC M)[i]? = some c->c.ok
 | 0,_,c,e=>by
  have e':=Option.some.inj e
  subst e'
  exact (show Ct.ok _ from zbe h.main 0)
 | 1,_,c,e=>by
  have e':=Option.some.inj e
  subst e'
  exact (show Ct.ok _ from zbe h.main 1)
 | 2,_,c,e=>by
  have e':=Option.some.inj e
  subst e'
  exact (show Ct.ok _ from zbe h.main 2)
 | 3,_,c,e=>by
  have e':=Option.some.inj e
  subst e'
  exact (show Ct.ok _ from zbe h.main 3)
 | 4,_,c,e=>by
  have e':=Option.some.inj e
  subst e'
  exact (show Ct.ok _ from zbe h.main 4)
 | 5,_,c,e=>by
  have e':=Option.some.inj e
  subst e'
  exact (show Ct.ok _ from zbe h.main 5)
 | 6,_,c,e=>by
  have e':=Option.some.inj e
  subst e'
  exact (show Ct.ok _ from zbe h.main 6)
 | 7,_,c,e=>by
  have e':=Option.some.inj e
  subst e'
  exact (show Ct.ok _ from zbe h.main 7)
 | 8,_,c,e=>by
  have e':=Option.some.inj e
  subst e'
  exact (show Ct.ok _ from ⟨h.main.2.2.1,h.main.2.2.2⟩)
 | 9,_,c,e=>by
  have e':=Option.some.inj e
  subst e'
  exact (show Ct.ok _ from trivial)
 | 10,_,c,e=>by
  have e':=Option.some.inj e
  subst e'
  exact (show Ct.ok _ from trivial)
 | 11,_,c,e=>by
  have e':=Option.some.inj e
  subst e'
  exact (show Ct.ok _ from trivial)
 | 12,_,c,e=>by
  have e':=Option.some.inj e
  subst e'
  exact (show Ct.ok _ from trivial)
 | 13,_,c,e=>by
  have e':=Option.some.inj e
  subst e'
  exact (show Ct.ok _ from trivial)
 | 14,_,c,e=>by
  have e':=Option.some.inj e
  subst e'
  exact (show Ct.ok _ from trivial)
 | 15,_,c,e=>by
  have e':=Option.some.inj e
  subst e'
  exact (show Ct.ok _ from zbe h.aux 0)
 | 16,_,c,e=>by
  have e':=Option.some.inj e
  subst e'
  exact (show Ct.ok _ from zbe h.aux 1)
 | 17,_,c,e=>by
  have e':=Option.some.inj e
  subst e'
  exact (show Ct.ok _ from zbe h.aux 2)
 | 18,_,c,e=>by
  have e':=Option.some.inj e
  subst e'
  exact (show Ct.ok _ from zbe h.aux 3)
 | 19,_,c,e=>by
  have e':=Option.some.inj e
  subst e'
  exact (show Ct.ok _ from zbe h.aux 4)
 | 20,_,c,e=>by
  have e':=Option.some.inj e
  subst e'
  exact (show Ct.ok _ from zbe h.aux 5)
 | 21,_,c,e=>by
  have e':=Option.some.inj e
  subst e'
  exact (show Ct.ok _ from zbe h.aux 6)
 | 22,_,c,e=>by
  have e':=Option.some.inj e
  subst e'
  exact (show Ct.ok _ from zbe h.aux 7)
 | 23,_,c,e=>by
  have e':=Option.some.inj e
  subst e'
  exact (show Ct.ok _ from ⟨h.aux.2.2.1,h.aux.2.2.2⟩)
 | 24,_,c,e=>by
  have e':=Option.some.inj e
  subst e'
  exact (show Ct.ok _ from trivial)
 | 25,_,c,e=>by
  have e':=Option.some.inj e
  subst e'
  exact (show Ct.ok _ from trivial)
 | 26,_,c,e=>by
  have e':=Option.some.inj e
  subst e'
  exact (show Ct.ok _ from trivial)
 | 27,_,c,e=>by
  have e':=Option.some.inj e
  subst e'
  exact (show Ct.ok _ from trivial)
 | 28,_,c,e=>by
  have e':=Option.some.inj e
  subst e'
  exact (show Ct.ok _ from trivial)
 | 29,_,c,e=>by
  have e':=Option.some.inj e
  subst e'
  exact (show Ct.ok _ from trivial)
 | 30,_,c,e=>by
  have e':=Option.some.inj e
  subst e'
  exact (show Ct.ok _ from by show M.mrom.length<=65535;have:=h.mrom;omega)
 | 31,_,c,e=>by
  have e':=Option.some.inj e
  subst e'
  exact (show Ct.ok _ from by show M.arom.length<=65535;have:=h.arom;omega)
 | 32,_,c,e=>by
  have e':=Option.some.inj e
  subst e'
  exact (show Ct.ok _ from by show M.ram.length<=65535;have:=h.ram;omega)
 | 33,_,c,e=>by
  have e':=Option.some.inj e
  subst e'
  exact (show Ct.ok _ from by show M.own.length<=65535;have:=h.own;omega)
 | 34,_,c,e=>by
  have e':=Option.some.inj e
  subst e'
  exact (show Ct.ok _ from by show M.video.length<=65535;have:=h.video;omega)
 | 35,_,c,e=>by
  have e':=Option.some.inj e
  subst e'
  exact (show Ct.ok _ from h.p0.d)
 | 36,_,c,e=>by
  have e':=Option.some.inj e
  subst e'
  exact (show Ct.ok _ from trivial)
 | 37,_,c,e=>by
  have e':=Option.some.inj e
  subst e'
  exact (show Ct.ok _ from h.p0.s)
 | 38,_,c,e=>by
  have e':=Option.some.inj e
  subst e'
  exact (show Ct.ok _ from h.p1.d)
 | 39,_,c,e=>by
  have e':=Option.some.inj e
  subst e'
  exact (show Ct.ok _ from trivial)
 | 40,_,c,e=>by
  have e':=Option.some.inj e
  subst e'
  exact (show Ct.ok _ from h.p1.s)
 | 41,_,c,e=>by
  have e':=Option.some.inj e
  subst e'
  exact (show Ct.ok _ from h.tr)
 | 42,_,c,e=>by
  have e':=Option.some.inj e
  subst e'
  exact (show Ct.ok _ from h.tc)
 | 43,_,c,e=>by
  have e':=Option.some.inj e
  subst e'
  exact (show Ct.ok _ from trivial)
 | 44,_,c,e=>by
  have e':=Option.some.inj e
  subst e'
  exact (show Ct.ok _ from trivial)
 | 45,_,c,e=>by
  have e':=Option.some.inj e
  subst e'
  exact (show Ct.ok _ from h.s.a.p)
 | 46,_,c,e=>by
  have e':=Option.some.inj e
  subst e'
  exact (show Ct.ok _ from h.s.a.c)
 | 47,_,c,e=>by
  have e':=Option.some.inj e
  subst e'
  exact (show Ct.ok _ from h.s.a.l)
 | 48,_,c,e=>by
  have e':=Option.some.inj e
  subst e'
  exact (show Ct.ok _ from trivial)
 | 49,_,c,e=>by
  have e':=Option.some.inj e
  subst e'
  exact (show Ct.ok _ from h.s.a.n)
 | 50,_,c,e=>by
  have e':=Option.some.inj e
  subst e'
  exact (show Ct.ok _ from h.s.b.p)
 | 51,_,c,e=>by
  have e':=Option.some.inj e
  subst e'
  exact (show Ct.ok _ from h.s.b.c)
 | 52,_,c,e=>by
  have e':=Option.some.inj e
  subst e'
  exact (show Ct.ok _ from h.s.b.l)
 | 53,_,c,e=>by
  have e':=Option.some.inj e
  subst e'
  exact (show Ct.ok _ from trivial)
 | 54,_,c,e=>by
  have e':=Option.some.inj e
  subst e'
  exact (show Ct.ok _ from h.s.b.n)
 | 55,_,c,e=>by
  have e':=Option.some.inj e
  subst e'
  exact (show Ct.ok _ from h.s.c.p)
 | 56,_,c,e=>by
  have e':=Option.some.inj e
  subst e'
  exact (show Ct.ok _ from h.s.c.c)
 | 57,_,c,e=>by
  have e':=Option.some.inj e
  subst e'
  exact (show Ct.ok _ from h.s.c.l)
 | 58,_,c,e=>by
  have e':=Option.some.inj e
  subst e'
  exact (show Ct.ok _ from trivial)
 | 59,_,c,e=>by
  have e':=Option.some.inj e
  subst e'
  exact (show Ct.ok _ from h.s.c.n)
 | 60,_,c,e=>by
  have e':=Option.some.inj e
  subst e'
  exact (show Ct.ok _ from ⟨h.w.1,by have:=h.w.2;omega⟩)
 | 61,_,c,e=>by
  have e':=Option.some.inj e
  subst e'
  exact (show Ct.ok _ from ⟨h.b.l0,by have:=h.b.l1;omega⟩)
 | 62,_,c,e=>by
  have e':=Option.some.inj e
  subst e'
  exact (show Ct.ok _ from ⟨h.b.a0,by have:=h.b.a1;omega⟩)
 | 63,_,c,e=>by
  have e':=Option.some.inj e
  subst e'
  exact (show Ct.ok _ from trivial)
 | 64,_,c,e=>by
  have e':=Option.some.inj e
  subst e'
  exact (show Ct.ok _ from ⟨h.b.f0,by have:=h.b.f1;omega⟩)
 | 65,_,c,e=>by
  have e':=Option.some.inj e
  subst e'
  exact (show Ct.ok _ from h.fr)
 | 66,_,c,e=>by
  have e':=Option.some.inj e
  subst e'
  exact (show Ct.ok _ from h.to)
 | 67,_,c,e=>by
  have e':=Option.some.inj e
  subst e'
  exact (show Ct.ok _ from trivial)
 | 68,_,c,e=>by
  have e':=Option.some.inj e
  subst e'
  exact (show Ct.ok _ from trivial)
 | 69,_,c,e=>by
  have e':=Option.some.inj e
  subst e'
  exact (show Ct.ok _ from h.m0)
 | 70,_,c,e=>by
  have e':=Option.some.inj e
  subst e'
  exact (show Ct.ok _ from h.m1)
 | 71,_,c,e=>by
  have e':=Option.some.inj e
  subst e'
  exact (show Ct.ok _ from trivial)
 | 72,_,c,e=>by
  have e':=Option.some.inj e
  subst e'
  exact (show Ct.ok _ from ⟨h.clock.1,by have:=h.clock.2;omega⟩)
 | 73,_,c,e=>by
  have e':=Option.some.inj e
  subst e'
  exact (show Ct.ok _ from ⟨h.mready.1,by have:=h.mready.2;have:=h.clock.2;omega⟩)
 | 74,_,c,e=>by
  have e':=Option.some.inj e
  subst e'
  exact (show Ct.ok _ from ⟨h.aready.1,by have:=h.aready.2;have:=h.clock.2;omega⟩)
 | n+75,hn,_,_=>by omega
theorem ziE {M:Mach} (h:M.fit):150<(enc M).length/\(enc M).length<=4000:=by
 have e:(enc M).length=(wrL ((svX M).take 30)).length+((wrL (((svX M).drop 30).take 5)).length+(wrL ((svX M).drop 35)).length):=by
  unfold enc
  rw [<- List.length_append,<- List.length_append,<- zbl,<- zbl]
  rfl
 have e1:(wrL ((svX M).take 30)).length=48:=rfl
 have e3:(wrL ((svX M).drop 35)).length=74:=rfl
 have e2:(wrL (((svX M).drop 30).take 5)).length=(2+M.mrom.length)+((2+M.arom.length)+((2+M.ram.length)+((2+M.own.length)+((2+M.video.length)+0)))):=by
  show (wrL [.lst M.mrom,.lst M.arom,.lst M.ram,.lst M.own,.lst M.video]).length=_
  simp only [wrL,Ct.wr,wW,List.length_append,List.length_cons,List.length_nil]
 have:=h.mrom;have:=h.arom;have:=h.ram;have:=h.own;have:=h.video
 omega
theorem ziF {M:Mach} (h:M.fit):M.wok:=⟨λc hc=>by
 obtain ⟨i,hi,e⟩:=zm0 hc
 exact zm1 h i hi c e,(ziE h).2⟩
theorem zor {M:Mach} (h:M.wok) (l:List UInt8):rdL svK (enc M++l)=some (svX M,l):=zmv (svX M) l h.1
theorem ziG {B:Nat} {W:World} {M:Mach} {L:List Value} (h:All2 B W (machC M) L):∃ S:Sl,L=machL M S /\ ∀ j,j<5->SlNw B W (S.get j) (M.byt j):=by
 have z0:=h
 clear h
 obtain ⟨v0,L0,e,hv,z1⟩:=All2.cons z0
 subst e
 clear z0
 have e:v0=Ct.val _:=hv
 subst e
 clear hv
 obtain ⟨v1,L1,e,hv,z2⟩:=All2.cons z1
 subst e
 clear z1
 have e:v1=Ct.val _:=hv
 subst e
 clear hv
 obtain ⟨v2,L2,e,hv,z3⟩:=All2.cons z2
 subst e
 clear z2
 have e:v2=Ct.val _:=hv
 subst e
 clear hv
 obtain ⟨v3,L3,e,hv,z4⟩:=All2.cons z3
 subst e
 clear z3
 have e:v3=Ct.val _:=hv
 subst e
 clear hv
 obtain ⟨v4,L4,e,hv,z5⟩:=All2.cons z4
 subst e
 clear z4
 have e:v4=Ct.val _:=hv
 subst e
 clear hv
 obtain ⟨v5,L5,e,hv,z6⟩:=All2.cons z5
 subst e
 clear z5
 have e:v5=Ct.val _:=hv
 subst e
 clear hv
 obtain ⟨v6,L6,e,hv,z7⟩:=All2.cons z6
 subst e
 clear z6
 have e:v6=Ct.val _:=hv
 subst e
 clear hv
 obtain ⟨v7,L7,e,hv,z8⟩:=All2.cons z7
 subst e
 clear z7
 have e:v7=Ct.val _:=hv
 subst e
 clear hv
 obtain ⟨v8,L8,e,hv,z9⟩:=All2.cons z8
 subst e
 clear z8
 have e:v8=Ct.val _:=hv
 subst e
 clear hv
 obtain ⟨v9,L9,e,hv,z10⟩:=All2.cons z9
 subst e
 clear z9
 have e:v9=Ct.val _:=hv
 subst e
 clear hv
 obtain ⟨v10,L10,e,hv,z11⟩:=All2.cons z10
 subst e
 clear z10
 have e:v10=Ct.val _:=hv
 subst e
 clear hv
 obtain ⟨v11,L11,e,hv,z12⟩:=All2.cons z11
 subst e
 clear z11
 have e:v11=Ct.val _:=hv
 subst e
 clear hv
 obtain ⟨v12,L12,e,hv,z13⟩:=All2.cons z12
 subst e
 clear z12
 have e:v12=Ct.val _:=hv
 subst e
 clear hv
 obtain ⟨v13,L13,e,hv,z14⟩:=All2.cons z13
 subst e
 clear z13
 have e:v13=Ct.val _:=hv
 subst e
 clear hv
 obtain ⟨v14,L14,e,hv,z15⟩:=All2.cons z14
 subst e
 clear z14
 have e:v14=Ct.val _:=hv
 subst e
 clear hv
 obtain ⟨v15,L15,e,hv,z16⟩:=All2.cons z15
 subst e
 clear z15
 have e:v15=Ct.val _:=hv
 subst e
 clear hv
 obtain ⟨v16,L16,e,hv,z17⟩:=All2.cons z16
 subst e
 clear z16
 have e:v16=Ct.val _:=hv
 subst e
 clear hv
 obtain ⟨v17,L17,e,hv,z18⟩:=All2.cons z17
 subst e
 clear z17
 have e:v17=Ct.val _:=hv
 subst e
 clear hv
 obtain ⟨v18,L18,e,hv,z19⟩:=All2.cons z18
 subst e
 clear z18
 have e:v18=Ct.val _:=hv
 subst e
 clear hv
 obtain ⟨v19,L19,e,hv,z20⟩:=All2.cons z19
 subst e
 clear z19
 have e:v19=Ct.val _:=hv
 subst e
 clear hv
 obtain ⟨v20,L20,e,hv,z21⟩:=All2.cons z20
 subst e
 clear z20
 have e:v20=Ct.val _:=hv
 subst e
 clear hv
 obtain ⟨v21,L21,e,hv,z22⟩:=All2.cons z21
 subst e
 clear z21
 have e:v21=Ct.val _:=hv
 subst e
 clear hv
 obtain ⟨v22,L22,e,hv,z23⟩:=All2.cons z22
 subst e
 clear z22
 have e:v22=Ct.val _:=hv
 subst e
 clear hv
 obtain ⟨v23,L23,e,hv,z24⟩:=All2.cons z23
 subst e
 clear z23
 have e:v23=Ct.val _:=hv
 subst e
 clear hv
 obtain ⟨v24,L24,e,hv,z25⟩:=All2.cons z24
 subst e
 clear z24
 have e:v24=Ct.val _:=hv
 subst e
 clear hv
 obtain ⟨v25,L25,e,hv,z26⟩:=All2.cons z25
 subst e
 clear z25
 have e:v25=Ct.val _:=hv
 subst e
 clear hv
 obtain ⟨v26,L26,e,hv,z27⟩:=All2.cons z26
 subst e
 clear z26
 have e:v26=Ct.val _:=hv
 subst e
 clear hv
 obtain ⟨v27,L27,e,hv,z28⟩:=All2.cons z27
 subst e
 clear z27
 have e:v27=Ct.val _:=hv
 subst e
 clear hv
 obtain ⟨v28,L28,e,hv,z29⟩:=All2.cons z28
 subst e
 clear z28
 have e:v28=Ct.val _:=hv
 subst e
 clear hv
 obtain ⟨v29,L29,e,hv,z30⟩:=All2.cons z29
 subst e
 clear z29
 have e:v29=Ct.val _:=hv
 subst e
 clear hv
 obtain ⟨s30,L30,e,hs30,z31⟩:=All2.cons z30
 subst e
 clear z30
 obtain ⟨s31,L31,e,hs31,z32⟩:=All2.cons z31
 subst e
 clear z31
 obtain ⟨s32,L32,e,hs32,z33⟩:=All2.cons z32
 subst e
 clear z32
 obtain ⟨s33,L33,e,hs33,z34⟩:=All2.cons z33
 subst e
 clear z33
 obtain ⟨s34,L34,e,hs34,z35⟩:=All2.cons z34
 subst e
 clear z34
 obtain ⟨v35,L35,e,hv,z36⟩:=All2.cons z35
 subst e
 clear z35
 have e:v35=Ct.val _:=hv
 subst e
 clear hv
 obtain ⟨v36,L36,e,hv,z37⟩:=All2.cons z36
 subst e
 clear z36
 have e:v36=Ct.val _:=hv
 subst e
 clear hv
 obtain ⟨v37,L37,e,hv,z38⟩:=All2.cons z37
 subst e
 clear z37
 have e:v37=Ct.val _:=hv
 subst e
 clear hv
 obtain ⟨v38,L38,e,hv,z39⟩:=All2.cons z38
 subst e
 clear z38
 have e:v38=Ct.val _:=hv
 subst e
 clear hv
 obtain ⟨v39,L39,e,hv,z40⟩:=All2.cons z39
 subst e
 clear z39
 have e:v39=Ct.val _:=hv
 subst e
 clear hv
 obtain ⟨v40,L40,e,hv,z41⟩:=All2.cons z40
 subst e
 clear z40
 have e:v40=Ct.val _:=hv
 subst e
 clear hv
 obtain ⟨v41,L41,e,hv,z42⟩:=All2.cons z41
 subst e
 clear z41
 have e:v41=Ct.val _:=hv
 subst e
 clear hv
 obtain ⟨v42,L42,e,hv,z43⟩:=All2.cons z42
 subst e
 clear z42
 have e:v42=Ct.val _:=hv
 subst e
 clear hv
 obtain ⟨v43,L43,e,hv,z44⟩:=All2.cons z43
 subst e
 clear z43
 have e:v43=Ct.val _:=hv
 subst e
 clear hv
 obtain ⟨v44,L44,e,hv,z45⟩:=All2.cons z44
 subst e
 clear z44
 have e:v44=Ct.val _:=hv
 subst e
 clear hv
 obtain ⟨v45,L45,e,hv,z46⟩:=All2.cons z45
 subst e
 clear z45
 have e:v45=Ct.val _:=hv
 subst e
 clear hv
 obtain ⟨v46,L46,e,hv,z47⟩:=All2.cons z46
 subst e
 clear z46
 have e:v46=Ct.val _:=hv
 subst e
 clear hv
 obtain ⟨v47,L47,e,hv,z48⟩:=All2.cons z47
 subst e
 clear z47
 have e:v47=Ct.val _:=hv
 subst e
 clear hv
 obtain ⟨v48,L48,e,hv,z49⟩:=All2.cons z48
 subst e
 clear z48
 have e:v48=Ct.val _:=hv
 subst e
 clear hv
 obtain ⟨v49,L49,e,hv,z50⟩:=All2.cons z49
 subst e
 clear z49
 have e:v49=Ct.val _:=hv
 subst e
 clear hv
 obtain ⟨v50,L50,e,hv,z51⟩:=All2.cons z50
 subst e
 clear z50
 have e:v50=Ct.val _:=hv
 subst e
 clear hv
 obtain ⟨v51,L51,e,hv,z52⟩:=All2.cons z51
 subst e
 clear z51
 have e:v51=Ct.val _:=hv
 subst e
 clear hv
 obtain ⟨v52,L52,e,hv,z53⟩:=All2.cons z52
 subst e
 clear z52
 have e:v52=Ct.val _:=hv
 subst e
 clear hv
 obtain ⟨v53,L53,e,hv,z54⟩:=All2.cons z53
 subst e
 clear z53
 have e:v53=Ct.val _:=hv
 subst e
 clear hv
 obtain ⟨v54,L54,e,hv,z55⟩:=All2.cons z54
 subst e
 clear z54
 have e:v54=Ct.val _:=hv
 subst e
 clear hv
 obtain ⟨v55,L55,e,hv,z56⟩:=All2.cons z55
 subst e
 clear z55
 have e:v55=Ct.val _:=hv
 subst e
 clear hv
 obtain ⟨v56,L56,e,hv,z57⟩:=All2.cons z56
 subst e
 clear z56
 have e:v56=Ct.val _:=hv
 subst e
 clear hv
 obtain ⟨v57,L57,e,hv,z58⟩:=All2.cons z57
 subst e
 clear z57
 have e:v57=Ct.val _:=hv
 subst e
 clear hv
 obtain ⟨v58,L58,e,hv,z59⟩:=All2.cons z58
 subst e
 clear z58
 have e:v58=Ct.val _:=hv
 subst e
 clear hv
 obtain ⟨v59,L59,e,hv,z60⟩:=All2.cons z59
 subst e
 clear z59
 have e:v59=Ct.val _:=hv
 subst e
 clear hv
 obtain ⟨v60,L60,e,hv,z61⟩:=All2.cons z60
 subst e
 clear z60
 have e:v60=Ct.val _:=hv
 subst e
 clear hv
 obtain ⟨v61,L61,e,hv,z62⟩:=All2.cons z61
 subst e
 clear z61
 have e:v61=Ct.val _:=hv
 subst e
 clear hv
 obtain ⟨v62,L62,e,hv,z63⟩:=All2.cons z62
 subst e
 clear z62
 have e:v62=Ct.val _:=hv
 subst e
 clear hv
 obtain ⟨v63,L63,e,hv,z64⟩:=All2.cons z63
 subst e
 clear z63
 have e:v63=Ct.val _:=hv
 subst e
 clear hv
 obtain ⟨v64,L64,e,hv,z65⟩:=All2.cons z64
 subst e
 clear z64
 have e:v64=Ct.val _:=hv
 subst e
 clear hv
 obtain ⟨v65,L65,e,hv,z66⟩:=All2.cons z65
 subst e
 clear z65
 have e:v65=Ct.val _:=hv
 subst e
 clear hv
 obtain ⟨v66,L66,e,hv,z67⟩:=All2.cons z66
 subst e
 clear z66
 have e:v66=Ct.val _:=hv
 subst e
 clear hv
 obtain ⟨v67,L67,e,hv,z68⟩:=All2.cons z67
 subst e
 clear z67
 have e:v67=Ct.val _:=hv
 subst e
 clear hv
 obtain ⟨v68,L68,e,hv,z69⟩:=All2.cons z68
 subst e
 clear z68
 have e:v68=Ct.val _:=hv
 subst e
 clear hv
 obtain ⟨v69,L69,e,hv,z70⟩:=All2.cons z69
 subst e
 clear z69
 have e:v69=Ct.val _:=hv
 subst e
 clear hv
 obtain ⟨v70,L70,e,hv,z71⟩:=All2.cons z70
 subst e
 clear z70
 have e:v70=Ct.val _:=hv
 subst e
 clear hv
 obtain ⟨v71,L71,e,hv,z72⟩:=All2.cons z71
 subst e
 clear z71
 have e:v71=Ct.val _:=hv
 subst e
 clear hv
 obtain ⟨v72,L72,e,hv,z73⟩:=All2.cons z72
 subst e
 clear z72
 have e:v72=Ct.val _:=hv
 subst e
 clear hv
 obtain ⟨v73,L73,e,hv,z74⟩:=All2.cons z73
 subst e
 clear z73
 have e:v73=Ct.val _:=hv
 subst e
 clear hv
 obtain ⟨v74,L74,e,hv,z75⟩:=All2.cons z74
 subst e
 clear z74
 have e:v74=Ct.val _:=hv
 subst e
 clear hv
 have hL:L74=[]:=by
  cases L74 with
  | nil=>rfl
  | cons v L'=>exact z75.elim
 subst hL
 refine ⟨⟨s30,s31,s32,s33,s34⟩,rfl,λj hj=>?_⟩
 rcases five hj with rfl|rfl|rfl|rfl|rfl
 ·exact hs30
 ·exact hs31
 ·exact hs32
 ·exact hs33
 ·exact hs34
theorem zdk (g o:Nat) (w:World):Calls Tryz.prog 164 #[pt g o] w λe w'=>e = .returned (fval 218 #[pt w.heap.size 0])/\w'=w.alloc (.cells #[pt g o] 211):=by
 go_enter Tryz.func164,Tryz.ntmps164
 go_wp2
 go_ret
 exact ⟨rfl,rfl⟩
theorem ze8 (g o:Nat) (w:World):Calls Tryz.prog 165 #[pt g o] w λe w'=>e = .returned (fval 219 #[pt w.heap.size 0])/\w'=w.alloc (.cells #[pt g o] 211):=by
 go_enter Tryz.func165,Tryz.ntmps165
 go_wp2
 go_ret
 exact ⟨rfl,rfl⟩
theorem zgY (g:Nat) (i:Int) (w:World):Calls Tryz.prog 162 #[pt g 0,.int .i64 i] w λe w'=>e = .returned (fval 215 #[pt w.heap.size 0,pt (w.heap.size+1) 0])/\w'=(w.alloc (.cells #[pt g 0] 91)).alloc (.cells #[.int .i64 i] 3):=by
 go_enter Tryz.func162,Tryz.ntmps162
 go_wp2
 go_ret
 exact ⟨rfl,rfl⟩
theorem zho (g:Nat) (i:Int) (w:World):Calls Tryz.prog 179 #[pt g 0,.int .i64 i] w λe w'=>e = .returned (fval 222 #[pt w.heap.size 0,pt (w.heap.size+1) 0])/\w'=(w.alloc (.cells #[pt g 0] 91)).alloc (.cells #[.int .i64 i] 3):=by
 go_enter Tryz.func179,Tryz.ntmps179
 go_wp2
 go_ret
 exact ⟨rfl,rfl⟩
theorem zbj:(Tryz.prog.info? 130).map (·.size)=some 64:=by kernel_rfl
def sl0:Sl:=⟨.nilFunc,.nilFunc,.nilFunc,.nilFunc,.nilFunc⟩
def fxE (g:Nat) (E:Env):Fx:=⟨0,g,0,0,0,0,0,sl0,E⟩
def EnvM (g:Nat) (E:Env) (W:World):Prop:=Bx W E.mb [pt g 0]/\Bx W E.q0 [pt g 0]/\Bx W E.w0 [.int .i64 0]/\Bx W E.q1 [pt g 0]/\Bx W E.w1 [.int .i64 1]/\Bx W E.h2 [pt g 41]/\Bx W E.h3 [pt g 41]/\Bx W E.h10 [pt g 65]/\Bx W E.h11 [pt g 65]/\Bx W E.h12 [pt g 66]/\Bx W E.h13 [pt g 66]
def EnvM.lo (n:Nat) (E:Env):Prop:=n<E.mb/\n<E.q0/\n<E.w0/\n<E.q1/\n<E.w1/\n<E.h2/\n<E.h3/\n<E.h10/\n<E.h11/\n<E.h12/\n<E.h13
def mE (n:Nat):Env:=⟨n+1,n+2,n+3,n+4,n+5,n+6,n+7,n+8,n+9,n+10,n+11,0,λ_=>0,λ_=>0⟩
def nil64:List Value:=List.replicate 64 .nilFunc
theorem zhp {Y:World} {b:Nat} {L:List Value} (hl:L.length=64) (h:Bx Y b L):(loadVar 130 ⟨b,0,none⟩).run Tryz.prog Y = .ok (.agg L.toArray) Y :=
 run_loadVar_mid Y b 0 130 _ _ h.c Tryz.underlying130 rfl (zbj.trans (by rw [hl]))
def mpL (g:Nat) (w:World):List Value:=[fval 215 #[pt (w.heap.size+2) 0,pt (w.heap.size+3) 0],mval 163 g 0,fval 215 #[pt (w.heap.size+4) 0,pt (w.heap.size+5) 0],.nilFunc,.nilFunc,fval 218 #[pt (w.heap.size+6) 0],.nilFunc,fval 219 #[pt (w.heap.size+7) 0],mval 166 g 0,mval 167 g 0,.nilFunc,.nilFunc,fval 168 #[pt (w.heap.size+1) 0],.nilFunc,fval 169 #[pt (w.heap.size+1) 0],.nilFunc,mval 170 g 0,mval 171 g 0,.nilFunc,.nilFunc,.nilFunc,fval 218 #[pt (w.heap.size+8) 0],.nilFunc,fval 219 #[pt (w.heap.size+9) 0],.nilFunc,fval 218 #[pt (w.heap.size+10) 0],.nilFunc,fval 219 #[pt (w.heap.size+11) 0],.nilFunc,mval 172 g 0,.nilFunc,.nilFunc,mval 173 g 0,mval 174 g 0,fval 175 #[pt (w.heap.size+1) 0],mval 176 g 0,.nilFunc,.nilFunc,.nilFunc,.nilFunc,.nilFunc,.nilFunc,.nilFunc,.nilFunc,.nilFunc,.nilFunc,.nilFunc,.nilFunc,.nilFunc,.nilFunc,.nilFunc,.nilFunc,.nilFunc,.nilFunc,.nilFunc,.nilFunc,.nilFunc,.nilFunc,.nilFunc,.nilFunc,.nilFunc,.nilFunc,.nilFunc,.nilFunc]
theorem zmy (g:Nat) (w:World):mpL g w=portsN (fxE g (mE w.heap.size)).rdM (fxE g (mE w.heap.size)).wrM 32:=by kernel_rfl
theorem oneR (F:Fx) (i:Nat):(F.rdM i).oneCell'=true:=by unfold Fx.rdM;split <;> rfl
theorem oneW (F:Fx) (i:Nat):(F.wrM i).oneCell'=true:=by unfold Fx.wrM;split <;> rfl
theorem zcm (r w:Nat->Value) (v:Value):∀ n,v∈portsN r w n->∃ i,v=r i \/ v=w i
 | 0,h=>by simp [portsN] at h
 | n+1,h=>by
  simp only [portsN,List.mem_append,List.mem_cons,List.not_mem_nil,or_false] at h
  rcases h with h|h|h
  ·exact zcm r w v n h
  ·exact ⟨n,Or.inl h⟩
  ·exact ⟨n,Or.inr h⟩
theorem zm2 (g:Nat) (w:World):∀ v∈mpL g w,v.oneCell'=true:=λv hv=>by
 rw [zmy] at hv
 obtain ⟨i,rfl|rfl⟩:=zcm _ _ v 32 hv
 ·exact oneR _ _
 ·exact oneW _ _
theorem zbH {W w':World} {b c:Nat} {v:Value} (h:W.cell? ⟨c,0,none⟩=some v/\W.there b 0 64) (hb:b<W.heap.size) (hc:c<W.heap.size) (hl:Below W.heap.size W w'):w'.cell? ⟨c,0,none⟩=some v/\w'.there b 0 64 :=
 ⟨(hl.cell (p:=⟨c,0,none⟩) hc).trans h.1,zbr h.2 hl hb⟩
theorem zk5 (L L':List Value) (h:L'.length=L.length):putL L 0 L'=L':=by
 have:=zbg [] L' L [] h
 simpa using this
theorem ziH (g:Nat) (w:World):(mpL g w).length=64:=rfl
theorem zos (g:Nat) (w:World) {Y:World} {b:Nat} (h:Bx Y b nil64):Bx (Y.setCells b 0 (mpL g w).toArray.toList) b (mpL g w):=by
 have hx:=h.puts 0 (mpL g w) (by rw [ziH];simp [nil64])
 rw [zk5 _ _ (by rw [ziH];simp [nil64])] at hx
 exact hx
theorem zm3 {W:World} {n:Nat} {v:Value} {vs:List Value} (h:W.cell? ⟨n+1,0,none⟩=some v/\W.there n 0 64):(W.setCells n 0 vs).cell? ⟨n+1,0,none⟩=some v/\(W.setCells n 0 vs).there n 0 64 :=
 ⟨(World.cell?_of_block (zag (x:=n+1) (b:=n) (by omega) _ _ _)).trans h.1,World.there_setCells h.2 _ _ _⟩
theorem ze9 (g:Nat) (w:World):Calls Tryz.prog 88 #[pt g 0] w λe w' =>
 e = .returned (.agg (portsN (fxE g (mE w.heap.size)).rdM (fxE g (mE w.heap.size)).wrM 32).toArray)/\Below w.heap.size w w'/\EnvM g (mE w.heap.size) w':=by
 go_enter Tryz.func88,Tryz.ntmps88
 go_wp2
 try simp only [List.append]
 refine wp_region_held_drew (S:=λw'=>w'.cell? ⟨w.heap.size+1,0,none⟩=some (pt g 0)/\w'.there w.heap.size 0 64) (by kernel_rfl) ⟨by simp,World.there_alloc (zaK w _ _ 64 _ rfl rfl) _⟩ ?_
 intro hS
 refine tqK 0 ⟨some 7,_,_,_,_,none⟩ hS ?_
 simp only [Act.put,xA,xB,xC]
 refine tqK 2 ⟨some 9,_,_,_,_,none⟩ hS ?_
 simp only [Act.put,xA,xB,xC]
 refine tqK 3 ⟨some 10,_,_,_,_,none⟩ hS ?_
 simp only [Act.put,xA,xB,xC]
 refine tqK 5 ⟨some 12,_,_,_,_,none⟩ hS ?_
 simp only [Act.put,xA,xB,xC]
 refine tqK 8 ⟨some 15,_,_,_,_,none⟩ hS ?_
 simp only [Act.put,xA,xB,xC]
 refine tqK 9 ⟨some 16,_,_,_,_,none⟩ hS ?_
 simp only [Act.put,xA,xB,xC]
 refine tqK 10 ⟨some 17,_,_,_,_,none⟩ hS ?_
 simp only [Act.put,xA,xB,xC]
 refine tqK 11 ⟨some 18,_,_,_,_,none⟩ hS ?_
 simp only [Act.put,xA,xB,xC]
 refine tqK 14 ⟨some 21,_,_,_,_,none⟩ hS ?_
 simp only [Act.put,xA,xB,xC]
 refine tqK 15 ⟨some 22,_,_,_,_,none⟩ hS ?_
 simp only [Act.put,xA,xB,xC]
 refine tqK 16 ⟨some 23,_,_,_,_,none⟩ hS ?_
 simp only [Act.put,xA,xB,xC]
 refine tqK 17 ⟨some 24,_,_,_,_,none⟩ hS ?_
 simp only [Act.put,xA,xB,xC]
 refine tqK 20 ⟨some 27,_,_,_,_,none⟩ hS ?_
 simp only [Act.put,xA,xB,xC]
 refine tqK 21 ⟨some 28,_,_,_,_,none⟩ hS ?_
 simp only [Act.put,xA,xB,xC]
 refine tqK 22 ⟨some 29,_,_,_,_,none⟩ hS ?_
 simp only [Act.put,xA,xB,xC]
 refine tqK 23 ⟨some 30,_,_,_,_,none⟩ hS ?_
 simp only [Act.put,xA,xB,xC]
 refine tqK 24 ⟨some 31,_,_,_,_,none⟩ hS ?_
 simp only [Act.put,xA,xB,xC]
 refine tqK 25 ⟨some 32,_,_,_,_,none⟩ hS ?_
 simp only [Act.put,xA,xB,xC]
 refine tqK 26 ⟨some 33,_,_,_,_,none⟩ hS ?_
 simp only [Act.put,xA,xB,xC]
 refine tqK 27 ⟨some 34,_,_,_,_,none⟩ hS ?_
 simp only [Act.put,xA,xB,xC]
 refine tqK 28 ⟨some 35,_,_,_,_,none⟩ hS ?_
 simp only [Act.put,xA,xB,xC]
 refine tqK 29 ⟨some 36,_,_,_,_,none⟩ hS ?_
 simp only [Act.put,xA,xB,xC]
 refine tqK 30 ⟨some 37,_,_,_,_,none⟩ hS ?_
 simp only [Act.put,xA,xB,xC]
 refine tqK 31 ⟨some 38,_,_,_,_,none⟩ hS ?_
 simp only [Act.put,xA,xB,xC]
 refine tqK 32 ⟨some 39,_,_,_,_,none⟩ hS ?_
 simp only [Act.put,xA,xB,xC]
 refine tqK 33 ⟨some 40,_,_,_,_,none⟩ hS ?_
 simp only [Act.put,xA,xB,xC]
 refine tqK 34 ⟨some 41,_,_,_,_,none⟩ hS ?_
 simp only [Act.put,xA,xB,xC]
 refine tqK 35 ⟨some 42,_,_,_,_,none⟩ hS ?_
 simp only [Act.put,xA,xB,xC]
 refine tqK 36 ⟨some 43,_,_,_,_,none⟩ hS ?_
 simp only [Act.put,xA,xB,xC]
 refine tqK 39 ⟨some 46,_,_,_,_,none⟩ hS ?_
 simp only [Act.put,xA,xB,xC]
 refine tqK 40 ⟨some 47,_,_,_,_,none⟩ hS ?_
 simp only [Act.put,xA,xB,xC]
 refine tqK 41 ⟨some 48,_,_,_,_,none⟩ hS ?_
 simp only [Act.put,xA,xB,xC]
 refine tqK 44 ⟨some 51,_,_,_,_,none⟩ hS ?_
 simp only [Act.put,xA,xB,xC]
 refine tqK 45 ⟨some 52,_,_,_,_,none⟩ hS ?_
 simp only [Act.put,xA,xB,xC]
 refine tqK 46 ⟨some 53,_,_,_,_,none⟩ hS ?_
 simp only [Act.put,xA,xB,xC]
 refine tqK 49 ⟨some 56,_,_,_,_,none⟩ hS ?_
 simp only [Act.put,xA,xB,xC]
 refine tqK 50 ⟨some 57,_,_,_,_,none⟩ hS ?_
 simp only [Act.put,xA,xB,xC]
 refine tqK 51 ⟨some 58,_,_,_,_,none⟩ hS ?_
 simp only [Act.put,xA,xB,xC]
 refine tqK 54 ⟨some 61,_,_,_,_,none⟩ hS ?_
 simp only [Act.put,xA,xB,xC]
 refine tqK 55 ⟨some 62,_,_,_,_,none⟩ hS ?_
 simp only [Act.put,xA,xB,xC]
 refine tqK 56 ⟨some 63,_,_,_,_,none⟩ hS ?_
 simp only [Act.put,xA,xB,xC]
 refine tqK 57 ⟨some 64,_,_,_,_,none⟩ hS ?_
 simp only [Act.put,xA,xB,xC]
 refine tqK 58 ⟨some 65,_,_,_,_,none⟩ hS ?_
 simp only [Act.put,xA,xB,xC]
 refine tqK 59 ⟨some 66,_,_,_,_,none⟩ hS ?_
 simp only [Act.put,xA,xB,xC]
 refine tqK 60 ⟨some 67,_,_,_,_,none⟩ hS ?_
 simp only [Act.put,xA,xB,xC]
 refine tqK 61 ⟨some 68,_,_,_,_,none⟩ hS ?_
 simp only [Act.put,xA,xB,xC]
 refine tqK 62 ⟨some 69,_,_,_,_,none⟩ hS ?_
 simp only [Act.put,xA,xB,xC]
 refine tqK 63 ⟨some 70,_,_,_,_,none⟩ hS ?_
 simp only [Act.put,xA,xB,xC]
 refine tqK 64 ⟨some 71,_,_,_,_,none⟩ hS ?_
 simp only [Act.put,xA,xB,xC]
 refine tqK 65 ⟨some 72,_,_,_,_,none⟩ hS ?_
 simp only [Act.put,xA,xB,xC]
 refine wpAnyH_ready (rs:=[1]) (by kernel_rfl) (by simp) ?_
 refine AllReadyH.cons (o:=⟨some 8,_,_,_,_,none⟩) rfl (λK hK=>?_) AllReadyH.nil
 go_simp
 go_at_call 162
 refine (zgY g _ _).mono ?_
 rintro e w1 ⟨rfl,rfl⟩
 try go_wp2_with fail
 refine hK.out _ _ (zbH hS (by first|(simp;done)|(simp;omega)) (by first|(simp;done)|(simp;omega)) (stA (stA (st0 _) _) _)) (λhS'=>?_)
 clear hK K hS
 have hS:=hS'
 clear hS'
 try simp only [Act.put,xA,xB,xC]
 refine tqK 4 ⟨some 11,_,_,_,_,none⟩ hS ?_
 simp only [Act.put,xA,xB,xC]
 refine wpAnyH_ready (rs:=[6]) (by kernel_rfl) (by simp) ?_
 refine AllReadyH.cons (o:=⟨some 13,_,_,_,_,none⟩) rfl (λK hK=>?_) AllReadyH.nil
 go_simp
 go_at_call 162
 refine (zgY g _ _).mono ?_
 rintro e w1 ⟨rfl,rfl⟩
 try go_wp2_with fail
 refine hK.out _ _ (zbH hS (by first|(simp;done)|(simp;omega)) (by first|(simp;done)|(simp;omega)) (stA (stA (st0 _) _) _)) (λhS'=>?_)
 clear hK K hS
 have hS:=hS'
 clear hS'
 try simp only [Act.put,xA,xB,xC]
 refine tqK 7 ⟨some 14,_,_,_,_,none⟩ hS ?_
 simp only [Act.put,xA,xB,xC]
 refine wpAnyH_ready (rs:=[12]) (by kernel_rfl) (by simp) ?_
 refine AllReadyH.cons (o:=⟨some 19,_,_,_,_,none⟩) rfl (λK hK=>?_) AllReadyH.nil
 go_simp
 go_at_call 164
 refine (zdk g _ _).mono ?_
 rintro e w1 ⟨rfl,rfl⟩
 try go_wp2_with fail
 refine hK.out _ _ (zbH hS (by first|(simp;done)|(simp;omega)) (by first|(simp;done)|(simp;omega)) (stA (st0 _) _)) (λhS'=>?_)
 clear hK K hS
 have hS:=hS'
 clear hS'
 try simp only [Act.put,xA,xB,xC]
 refine tqK 13 ⟨some 20,_,_,_,_,none⟩ hS ?_
 simp only [Act.put,xA,xB,xC]
 refine wpAnyH_ready (rs:=[18]) (by kernel_rfl) (by simp) ?_
 refine AllReadyH.cons (o:=⟨some 25,_,_,_,_,none⟩) rfl (λK hK=>?_) AllReadyH.nil
 go_simp
 go_at_call 165
 refine (ze8 g _ _).mono ?_
 rintro e w1 ⟨rfl,rfl⟩
 try go_wp2_with fail
 refine hK.out _ _ (zbH hS (by first|(simp;done)|(simp;omega)) (by first|(simp;done)|(simp;omega)) (stA (st0 _) _)) (λhS'=>?_)
 clear hK K hS
 have hS:=hS'
 clear hS'
 try simp only [Act.put,xA,xB,xC]
 refine tqK 19 ⟨some 26,_,_,_,_,none⟩ hS ?_
 simp only [Act.put,xA,xB,xC]
 refine wpAnyH_ready (rs:=[37]) (by kernel_rfl) (by simp) ?_
 refine AllReadyH.cons (o:=⟨some 44,_,_,_,_,none⟩) rfl (λK hK=>?_) AllReadyH.nil
 go_simp
 go_at_call 164
 refine (zdk g _ _).mono ?_
 rintro e w1 ⟨rfl,rfl⟩
 try go_wp2_with fail
 refine hK.out _ _ (zbH hS (by first|(simp;done)|(simp;omega)) (by first|(simp;done)|(simp;omega)) (stA (st0 _) _)) (λhS'=>?_)
 clear hK K hS
 have hS:=hS'
 clear hS'
 try simp only [Act.put,xA,xB,xC]
 refine tqK 38 ⟨some 45,_,_,_,_,none⟩ hS ?_
 simp only [Act.put,xA,xB,xC]
 refine wpAnyH_ready (rs:=[42]) (by kernel_rfl) (by simp) ?_
 refine AllReadyH.cons (o:=⟨some 49,_,_,_,_,none⟩) rfl (λK hK=>?_) AllReadyH.nil
 go_simp
 go_at_call 165
 refine (ze8 g _ _).mono ?_
 rintro e w1 ⟨rfl,rfl⟩
 try go_wp2_with fail
 refine hK.out _ _ (zbH hS (by first|(simp;done)|(simp;omega)) (by first|(simp;done)|(simp;omega)) (stA (st0 _) _)) (λhS'=>?_)
 clear hK K hS
 have hS:=hS'
 clear hS'
 try simp only [Act.put,xA,xB,xC]
 refine tqK 43 ⟨some 50,_,_,_,_,none⟩ hS ?_
 simp only [Act.put,xA,xB,xC]
 refine wpAnyH_ready (rs:=[47]) (by kernel_rfl) (by simp) ?_
 refine AllReadyH.cons (o:=⟨some 54,_,_,_,_,none⟩) rfl (λK hK=>?_) AllReadyH.nil
 go_simp
 go_at_call 164
 refine (zdk g _ _).mono ?_
 rintro e w1 ⟨rfl,rfl⟩
 try go_wp2_with fail
 refine hK.out _ _ (zbH hS (by first|(simp;done)|(simp;omega)) (by first|(simp;done)|(simp;omega)) (stA (st0 _) _)) (λhS'=>?_)
 clear hK K hS
 have hS:=hS'
 clear hS'
 try simp only [Act.put,xA,xB,xC]
 refine tqK 48 ⟨some 55,_,_,_,_,none⟩ hS ?_
 simp only [Act.put,xA,xB,xC]
 refine wpAnyH_ready (rs:=[52]) (by kernel_rfl) (by simp) ?_
 refine AllReadyH.cons (o:=⟨some 59,_,_,_,_,none⟩) rfl (λK hK=>?_) AllReadyH.nil
 go_simp
 go_at_call 165
 refine (ze8 g _ _).mono ?_
 rintro e w1 ⟨rfl,rfl⟩
 try go_wp2_with fail
 refine hK.out _ _ (zbH hS (by first|(simp;done)|(simp;omega)) (by first|(simp;done)|(simp;omega)) (stA (st0 _) _)) (λhS'=>?_)
 clear hK K hS
 have hS:=hS'
 clear hS'
 try simp only [Act.put,xA,xB,xC]
 refine tqK 53 ⟨some 60,_,_,_,_,none⟩ hS ?_
 simp only [Act.put,xA,xB,xC]
 refine tqK 66 ⟨some 73,_,_,_,_,none⟩ hS ?_
 simp only [Act.put,xA,xB,xC]
 refine wpAnyH_ready (rs:=[67]) (by kernel_rfl) (by simp) ?_
 refine AllReadyH.cons (o:=⟨none,_,_,_,_,none⟩) rfl (λK hK=>?_) AllReadyH.nil
 refine zam rfl 130 _ _ rfl w.heap.size 0 (mpL g w).toArray rfl rfl hS.2 zbj (all_oneCell_toArray (zm2 g w)) ?_
 refine hK.out _ _ (zm3 hS) (λ_=>?_)
 clear hK K
 refine wpAnyH_done (by kernel_rfl) ?_ _
 refine Pl.cutE (λY=>Below w.heap.size w Y/\Bx Y w.heap.size (mpL g w)/\EnvM g (mE w.heap.size) Y) ⟨?_,?_,?_⟩ ?_
 ·refine Bl.puts ?_ (Nat.le_refl _) _
  repeat' (first|exact st0 _|refine Below.drew ?_|refine stA ?_ _)
 ·refine zos g w ?_
  repeat' (first|exact Bx.new _ nil64 _ rfl|refine Bx.drew ?_|refine Bx.over ?_ _)
 ·refine ⟨?_,?_,?_,?_,?_,?_,?_,?_,?_,?_,?_⟩
  all_goals refine Bx.fars ?_ (by show w.heap.size≠w.heap.size+_;omega) 0 _
  all_goals repeat' (first|exact Bx.new _ _ _ (by simp;rfl)|refine Bx.drew ?_|refine Bx.over ?_ _)
 rintro Y ⟨hY1,hY2,hY3⟩
 have HY1:=hid hY1
 have HY2:=hid hY2
 have HY3:=hid hY3
 clear hY1 hY2 hY3 hS
 go_wp2
 rw [zmy] at HY2
 exact bodyPost_ret (v:=.agg _) (by simp only [results,Tryz.results88];simp;exact Pl.res (zhp (by rw [zay]) HY2.out)) rfl ⟨rfl,HY1.out,HY3.out⟩
end Go.Proofs.YtbennamieealbaaGreatDoor
