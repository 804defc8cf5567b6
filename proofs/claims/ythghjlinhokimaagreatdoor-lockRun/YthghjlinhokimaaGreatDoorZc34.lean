/-
  Parts of a proof, joined.
-/
import Derived.Test.YthghjlinhokimaaGreatDoorZcA
import Derived.Test.YthghjlinhokimaaGreatDoorZc29
set_option linter.all false
set_option maxRecDepth 100000
set_option maxHeartbeats 6400000
namespace Go.Proofs.YthghjlinhokimaaGreatDoor
open Go.ChangeShapes Go.WideShapes Go.ChangeAt Go.RowKit Go.Proofs.Tryz
structure Qt (a : Act) (p : Nat) (n : Int) : Prop where
 sz:a.tmps.size=301
 df:a.defers=[]
 s3:qs a 3=pb p
 s6:qs a 6=pb (p+1+1)
 s15:qs a 15=.int .i64 n
structure Qb (a : Act) (p bo kb : Nat) (c ac S E : Int) : Prop extends Qa a p bo kb where
 s15:qs a 15=.int .i64 c
 s16:qs a 16=.int .u16 ac
 s17:qs a 17=.int .u16 S
 s18:qs a 18=fv 143 #[pb p,pb bo]
 s19:qs a 19=fv 144 #[pb p]
 s25:qs a 25=.int .u16 E
structure Qc (a : Act) (p bo kb : Nat) (c ac S E O : Int) (nm : ByteArray) : Prop extends Qb a p bo kb c ac S E where
 s26:qs a 26=.int .u16 O
 s131:qs a 131=.string nm
def lH(q:Qe)(w:World)(k:Nat)(nm:ByteArray)(d e1:Nat)(n v:Int)(x z:C.St Bst):Prop :=
 ∀(bo kb:Nat) (aj:Exit->Act->World->Prop) (f:Nat->Value) (W:World),SW q (KL bo kb k d e1 n v) w W x->(∀ a b L,Qt a w.heap.size z.n->SW q L w b z->aj .normal a b) ->
  Code.wp prog (dN 1 (dN 0 (jc 20 iL))) aj { tmps:=#[f 0,f 1,f 2,pb w.heap.size,pb (w.heap.size+1),f 5,pb (w.heap.size+1+1),f 7,pb (w.heap.size+1+1+1),fv 139 #[pb (w.heap.size+1),pb w.heap.size],fv 140 #[pb (w.heap.size+1+1+1),pb w.heap.size,pb (w.heap.size+1)],f 11,pb bo,f 13,pb kb,.int .i64 (K.cyc k),.int .u16 (x.c.r d),.int .u16 (x.c.r e1),fv 143 #[pb w.heap.size,pb bo],fv 144 #[pb w.heap.size],f 20,f 21,f 22,f 23,f 24,.int .u16 ((x.c.r e1+n)%65536),.int .u16 ((x.c.r d+n)%65536),f 27,f 28,f 29,f 30,f 31,f 32,f 33,f 34,f 35,f 36,f 37,f 38,f 39,f 40,f 41,f 42,f 43,f 44,f 45,f 46,f 47,f 48,f 49,f 50,f 51,f 52,f 53,f 54,f 55,f 56,f 57,f 58,f 59,f 60,f 61,f 62,f 63,f 64,f 65,f 66,f 67,f 68,f 69,f 70,f 71,f 72,f 73,f 74,f 75,f 76,f 77,f 78,f 79,f 80,f 81,f 82,f 83,f 84,f 85,f 86,f 87,f 88,f 89,f 90,f 91,f 92,f 93,f 94,f 95,f 96,f 97,f 98,f 99,f 100,f 101,f 102,f 103,f 104,f 105,f 106,f 107,f 108,f 109,f 110,f 111,f 112,f 113,f 114,f 115,f 116,f 117,f 118,f 119,f 120,f 121,f 122,f 123,f 124,f 125,f 126,f 127,f 128,f 129,f 130,.string nm,f 132,f 133,f 134,f 135,f 136,f 137,f 138,f 139,f 140,f 141,f 142,f 143,f 144,f 145,f 146,f 147,f 148,f 149,f 150,f 151,f 152,f 153,f 154,f 155,f 156,f 157,f 158,f 159,f 160,f 161,f 162,f 163,f 164,f 165,f 166,f 167,f 168,f 169,f 170,f 171,f 172,f 173,f 174,f 175,f 176,f 177,f 178,f 179,f 180,f 181,f 182,f 183,f 184,f 185,f 186,f 187,f 188,f 189,f 190,f 191,f 192,f 193,f 194,f 195,f 196,f 197,f 198,f 199,f 200,f 201,f 202,f 203,f 204,f 205,f 206,f 207,f 208,f 209,f 210,f 211,f 212,f 213,f 214,f 215,f 216,f 217,f 218,f 219,f 220,f 221,f 222,f 223,f 224,f 225,f 226,f 227,f 228,f 229,f 230,f 231,f 232,f 233,f 234,f 235,f 236,f 237,f 238,f 239,f 240,f 241,f 242,f 243,f 244,f 245,f 246,f 247,f 248,f 249,f 250,f 251,f 252,f 253,f 254,f 255,f 256,f 257,f 258,f 259,f 260,f 261,f 262,f 263,f 264,f 265,f 266,f 267,f 268,f 269,f 270,f 271,f 272,f 273,f 274,f 275,f 276,f 277,f 278,f 279,f 280,f 281,f 282,f 283,f 284,f 285,f 286,f 287,f 288,f 289,f 290,f 291,f 292,f 293,f 294,f 295,f 296,f 297,f 298,f 299,f 300],defers:=[] } W
section
variable {q : Qe} {L : List (Nat × Array Value × TypeId)} {w W : World} {x z : C.St Bst} {bo kb : Nat} {n v : Int}
theorem lH.at{k d e1:Nat}{nm:ByteArray}(g:lH q w k nm d e1 n v x z)(aj:Exit->Act->World->Prop)(a:Act)(h:Qc a w.heap.size bo kb (K.cyc k) (x.c.r d) (x.c.r e1) ((x.c.r e1+n)%65536) ((x.c.r d+n)%65536) nm)(i:SW q (KL bo kb k d e1 n v) w W x)
 (j:∀ b e L,Qt b w.heap.size z.n->SW q L w e z->aj .normal b e):Code.wp prog (dN 1 (dN 0 (jc 20 iL))) aj a W:=by
 obtain⟨⟨⟨sz,df,s3,s4,s6,s8,s9,s10,s12,s14⟩,s15,s16,s17,s18,s19,s25⟩,s26,s131⟩:=h;obtain⟨f,l,rfl⟩:=tU a sz df;rw[l] at s3 s4 s6 s8 s9 s10 s12 s14 s15 s16 s17 s18 s19 s25 s26 s131;rw[s3,s4,s6,s8,s9,s10,s12,s14,s15,s16,s17,s18,s19,s25,s26,s131];exact g bo kb aj f W i j
theorem wW(R:QS q)(a:Act)(i:Int)(k:Qt a w.heap.size i)(b:SW q L w W x):Code.wp prog (jc 21 iL) (bodyPost prog Tryz.f73 (RP q w ⟨x.c,x.s,i⟩)) a W:=by
 obtain⟨sz,df,s3,s6,s15⟩:=k;obtain⟨f,j,rfl⟩:=tU a sz df;rw[j] at s3 s6 s15;clear j sz df;rw[s3,s6,s15];obtain⟨r0,r1,r2,r3,r4,u,y,z⟩:=b.regs;obtain⟨B,E,l,m,n,o,p⟩:=b.cells;have H:=b.lt;have d:=hid b;have r:=hid R;clear b R;conv=>arg 2;dsimp only[jc,dN,iL,Tryz.f73,Option.getD]
 go_wp2_with (first
  | (refine wpList_store_mid U 25 (.tmp 6) (.tmp 299) U (w.heap.size+1+1) 0 _ U U ?_ ?_ ?_ ?_
     ·exact d.out.there
     ·exact lV
     ·exact zd2 x.c
     refine cutL (λW=>q.I W x.s/\Gw q.F w W/\W.rangeAt (w.heap.size+1+1) 0 (gO x.c)) ?_ ?_
     ·exact d.out.fin r.out (gO x.c) U
     rintro W ⟨e,g,h⟩))
 have t:=zfa W _ _ h;refine ao (v:=.tuple #[gx x.c,.int .i64 i]) ?_ U ⟨U,e,g,d.out.ok⟩;simp only[results,results73];simp;show (Result.andThen (Sem.run prog (loadVar 25 ⟨w.heap.size+1+1,0,none⟩) W) _)=_;rw[t];rfl
theorem rown(R:QS q)(k d e1:Nat)(nm:ByteArray)(e:K.name k=nm)(y:-16<=n/\n<=15)(i:lH q w k nm d e1 n v x z)(a:Act)(l:Qb a w.heap.size bo kb (K.cyc k) (x.c.r d) (x.c.r e1) ((x.c.r e1+n)%65536))(g:SW q (KL bo kb k d e1 n v) w W x):Code.wp prog (jc 19 iL) (bodyPost prog Tryz.f73 (RP q w z)) a W:=by
 obtain⟨⟨sz,df,s3,s4,s6,s8,s9,s10,s12,s14⟩,s15,s16,s17,s18,s19,s25⟩:=l;obtain⟨f,j,rfl⟩:=tU a sz df;rw[j] at s3 s4 s6 s8 s9 s10 s12 s14 s15 s16 s17 s18 s19 s25;clear j sz df;rw[s3,s4,s6,s8,s9,s10,s12,s14,s15,s16,s17,s18,s19,s25];obtain⟨B,o1,o2,E,F,m,H,I,M,N,P⟩:=g.kcells;rw[e] at m;have T:=C.Cpu.r_bd g.ok d;have V:IntKind.u16.wrap (x.c.r d+IntKind.u16.wrap n)=(x.c.r d+n)%65536:=by rw[eh,eh];omega
 have o:=hid (λ(a:Act) (W:World) (L:List (Nat × Array Value × TypeId)) (h1:Qt a w.heap.size z.n) (h2:SW q L w W z)=>wW R a z.n h1 h2);have p:=hid g;have h:=hid (λaj a (W:World) h1 h2 h3=>lH.at (bo:=bo) (kb:=kb) (W:=W) i aj a h1 h2 h3);clear g R i e;show (Code.seq (dN 0 (jc 19 iL)) (Code.seq (Code.seq (dN 0 (dN 0 (jc 20 iL))) (dN 1 (dN 0 (jc 20 iL)))) (jc 21 iL))).wp prog _ _ W;generalize (dN 1 (dN 0 (jc 20 iL)))=b at *;generalize (jc 21 iL)=t at *;conv=>arg 2;arg 1;whnf
 conv=>arg 2;arg 2;arg 1;arg 1;whnf
 go_wp2;refine h.out _ _ _ ⟨⟨⟨U,U,U,U,U,U,U,U,U,U⟩,U,U,U,U,U,U⟩,U,U⟩ p.out ?_;intro s u L h1 h2;refine(by assumption:∀(a:Act) (w:World),Code.wp _ _ _ a w->_) _ _ ?_;exact o.out s u L h1 h2
theorem iu(R:QS q)(k d e1:Nat)(nm:ByteArray)(g:K.name k=nm)(B:d<8)(E:e1<8)(F:-16<=n/\n<=15)(hk:k<32)(H:(nm.toList == [97,100,100,105])=false)
 (I:((k:Int) == 7)=false) (h:((k:Int) == 15)=false) (L:((k:Int) == 8)=false) (i:((k:Int) == 14)=false) (M:((k:Int) == 9)=false) (j:((k:Int) == 10)=false) (l:((k:Int) == 11)=false) (m:((k:Int) == 28)=false)
 (t:lH q w k nm d e1 n v x z):oR q w k d e1 n v x z:=by
 intro bo kb a W N b;have P:=hid (λ(a:Act) (W:World) h1 h2=>rown (W:=W) R k d e1 nm g F t (bo:=bo) (kb:=kb) a h1 h2);obtain⟨sz,df,s3,s4,s6,s8,s9,s10,s12,s14⟩:=N;obtain⟨f,p,rfl⟩:=tU a sz df;rw[p] at s3 s4 s6 s8 s9 s10 s12 s14;clear p sz df;rw[s3,s4,s6,s8,s9,s10,s12,s14];obtain⟨o0,o1,o2,o3,o4,T,k1,k2,zo,zk,zp⟩:=b.kcells;rw[g] at T;have rd:=b.reg d B;have re:=b.reg e1 E;have bd:=C.Cpu.r_bd b.ok d;have be:=C.Cpu.r_bd b.ok e1;have V:(0:Int)<=d:=by omega
 have X:(d:Int)<8:=by omega
 have Y:(0:Int)<=e1:=by omega
 have Z:(e1:Int)<8:=by omega
 have HK:=hid b;have u:=hid R;clear b R t;conv =>
  arg 2
  dsimp only[jc,dN,iL,Tryz.f73,Option.getD]
 go_wp2;go_region_held3 (λw'=>w'.cell? ⟨bo,1,none⟩=some (.int .i64 d)/\w'.cell? ⟨bo,2,none⟩=some (.int .i64 e1)/\w'.cell? ⟨w.heap.size,d,none⟩=some (.int .u16 (x.c.r d))/\w'.cell? ⟨w.heap.size,e1,none⟩=some (.int .u16 (x.c.r e1)))
  ((go_keep;done))
  (fail)
 have KD:=hid (HK.out.kept u.out (J W).drew);go_upto_region 28 with(go_at_call 145;refine(ztW k _ _ _ I h L i M j l m).mono ?_;rintro e w5 ⟨rfl,s⟩;have y:=hid (KD.out.kept u.out s);obtain⟨p0,p1,p2,p3,p4,l0,l1,l2,yo,yk,yp⟩:=y.out.kcells)
 have p:IntKind.u16.wrap (x.c.r e1+IntKind.u16.wrap n)=(x.c.r e1+n)%65536:=by rw[eh,eh];omega
 go_cut [25] (λo wy=>o=.int .u16 ((x.c.r e1+n)%65536)/\SW q (KL bo kb k d e1 n v) w wy x)
 case first =>
  go_wp2_with fail
  go_meet;exact⟨U,y.out⟩
 case rest =>
  obtain⟨rfl,hK⟩:=hcut;refine(by assumption:∀(a:Act) (w:World),Code.wp _ _ _ a w->_) _ _ ?_;exact P.out _ _ ⟨⟨U,U,U,U,U,U,U,U,U,U⟩,U,U,U,U,U,U⟩ hK
end
section
variable {q : Qe} {w : World} {x : C.St Bst} {d e1 : Nat} {n v : Int}
theorem kV(R:QS q)(k:Nat)(nm:ByteArray)(j:K.name k=nm)(hd:d<8)(he:e1<8)(T X:Bool)(had:(nm.toList == [97,100,100,105])=T)(hcm:(nm.toList == [99,109,112])=X)(y N:Int)(h V:Bool)(hy:y=if T then n%65536 else x.c.r e1)(P:0<=N/\N<=65535)
 (z:C.St Bst) (hz:z=if X then C.signs ⟨x.c,x.s,K.cyc k⟩ N h V else C.setR (C.signs ⟨x.c,x.s,K.cyc k⟩ N h V) d N) (i:∀ W,Calls prog 145 #[.int .i64 k,.int .u16 (x.c.r d),.int .u16 y] W λe w'=>e=.returned (.tuple #[.int .u16 N,.bool h,.bool V,.bool true])/\Below W.heap.size W w') :
 oR q w k d e1 n v x z:=by
 intro bo kb a W hQ m;obtain⟨sz,df,s3,s4,s6,s8,s9,s10,s12,s14⟩:=hQ;obtain⟨f,hf,rfl⟩:=tU a sz df;rw[hf] at s3 s4 s6 s8 s9 s10 s12 s14;clear hf sz df;rw[s3,s4,s6,s8,s9,s10,s12,s14];obtain⟨o0,o1,o2,o3,o4,k0,k1,k2,zo,zk,zp⟩:=m.kcells;rw[j] at k0;have rd:=m.reg d hd;have re:=m.reg e1 he;have hd0:(0:Int)<=d:=by omega
 have hd1:(d:Int)<8:=by omega
 have he0:(0:Int)<=e1:=by omega
 have he1:(e1:Int)<8:=by omega
 have hwn:IntKind.u16.wrap n=n%65536:=eh n;have HK:=hid m;have l:=hid R;have o:=hid j;have HRES:=hid i;have HZ:=hid hz;clear m R j i hz;conv =>
  arg 2
  dsimp only[jc,dN,iL,Tryz.f73,Option.getD]
 go_wp2;go_region_held3 (λw'=>w'.cell? ⟨bo,1,none⟩=some (.int .i64 d)/\w'.cell? ⟨bo,2,none⟩=some (.int .i64 e1)/\w'.cell? ⟨w.heap.size,d,none⟩=some (.int .u16 (x.c.r d))/\w'.cell? ⟨w.heap.size,e1,none⟩=some (.int .u16 (x.c.r e1)))
  ((go_keep;done))
  (fail)
 have KD:=hid (HK.out.kept l.out (J W).drew);cases T;all_goals
  simp only[dL,bK,dt] at hy;subst hy;cases X
 all_goals
  go_wp2_with (first
   | (go_at_call 145;refine(HRES.out _).mono ?_;rintro e w5 ⟨rfl,p⟩;have K5:=hid (KD.out.kept l.out p);obtain⟨p0,p1,p2,p3,p4,l0,l1,l2,yo,yk,yp⟩:=K5.out.kcells;rw[o.out] at l0;clear p)
   | (go_at_call 144;refine(zeB l.out N P.1 P.2 h V K5.out).mono ?_;rintro e w6 ⟨rfl,b⟩;have KM:=hid b;obtain⟨_,Y,_,_,_,Z,_,_,zo6,zk6,_⟩:=b.kcells;rw[o.out] at Z;obtain⟨r0,r1,r2,r3,r4,r5,r6,r7⟩:=b.regs;obtain⟨r8,r9,t,u,B,E,H⟩:=b.cells;have zp6:=b.lt;clear b)
   | (go_at_call 143;refine(qr l.out N P.1 P.2 d hd bo KM.out Y).mono ?_;rintro e w7 ⟨rfl,g⟩;have KF:=hid g;clear r0 r1 r2 r3 r4 r5 r6 r7 r8 r9 t u B E H;obtain⟨r0,r1,r2,r3,r4,r5,r6,r7⟩:=g.regs;obtain⟨r8,r9,t,u,B,E,H⟩:=g.cells;have zp7:=g.lt;clear g)
   | (refine wpList_store_mid U 25 (.tmp 6) (.tmp 118) U (w.heap.size+1+1) 0 _ U U ?_ ?_ ?_ ?_
      ·first|exact KF.out.there|exact KM.out.there
      ·exact lV
      ·first|exact zd2 (⟨(C.signs x N h V).c.set d N,x.s,x.n⟩:C.St Bst).c|exact zd2 (C.signs x N h V).c
      first
      | (refine cutL (λW=>q.I W x.s/\Gw q.F w W/\W.rangeAt (w.heap.size+1+1) 0 (gO (⟨(C.signs x N h V).c.set d N,x.s,x.n⟩:C.St Bst).c)) (KF.out.fin l.out _ U) ?_)
      | (refine cutL (λW=>q.I W x.s/\Gw q.F w W/\W.rangeAt (w.heap.size+1+1) 0 (gO (C.signs x N h V).c)) (KM.out.fin l.out _ U) ?_)
      rintro W ⟨L,M,hrW⟩))
  have hl:=zfa W _ _ hrW;rw[HZ.out];first
  | (refine ao (v:=.tuple #[gx (⟨(C.signs x N h V).c.set d N,x.s,x.n⟩:C.St Bst).c,.int .i64 (K.cyc k)]) ?_ U ⟨U,L,M,KF.out.ok⟩
     simp only[results,results73];simp;show (Result.andThen (Sem.run prog (loadVar 25 ⟨w.heap.size+1+1,0,none⟩) W) _)=_;rw[hl];rfl)
  | (refine ao (v:=.tuple #[gx (C.signs x N h V).c,.int .i64 (K.cyc k)]) ?_ U ⟨U,L,M,KM.out.ok⟩
     simp only[results,results73];simp;show (Result.andThen (Sem.run prog (loadVar 25 ⟨w.heap.size+1+1,0,none⟩) W) _)=_;rw[hl];rfl)
end
end Go.Proofs.YthghjlinhokimaaGreatDoor
