/-
  Parts of a proof, joined.
-/
import Derived.Test.YtbhpfkjfijdmaaaGreatDoorZv00
import Derived.Laws.EntriesVeiled
import Derived.Test.YtbhpfkjfijdmaaaGreatDoorZv03
import Derived.Test.YtbhpfkjfijdmaaaGreatDoorZv11
import Derived.Test.YtbhpfkjfijdmaaaGreatDoorZv12
import Derived.Test.YtbhpfkjfijdmaaaGreatDoorZv01
namespace Go.Proofs.YtbhpfkjfijdmaaaGreatDoor
open Go.ChangeShapes Go.WideShapes Go.ChangeAt Go.RowKit
set_option linter.unusedVariables false
set_option maxRecDepth 100000
/-! ### plain numbers -/
def bmL (l a n:Int):Int:=(l * 64+a+n) % 640 / 64
def bmA (l a n:Int):Int:=(l * 64+a+n) % 64
def bmG (l a:Int) (g:Bool) (n:Int):Bool:=g || decide ((l * 64+a+128) / 640 < (l * 64+a+n+128) / 640)
def bmF (l a f n:Int):Int:=f+(l * 64+a+n) / 640
structure BOk (l a f : Int) : Prop where
 l0:0<=l
 l1:l<=9
 a0:0<=a
 a1:a<=63
 f0:0<=f
 f1:f<=20000
def bok (l a f:Int):Bool:=decide (0<=l/\l<=9/\0<=a/\a<=63/\0<=f/\f<=20000)
theorem bok_iff (l a f:Int):bok l a f=true ↔ BOk l a f:=by
 unfold bok
 rw [decide_eq_true_eq]
 exact ⟨fun ⟨h1,h2,h3,h4,h5,h6⟩=>⟨h1,h2,h3,h4,h5,h6⟩,fun ⟨h1,h2,h3,h4,h5,h6⟩=>⟨h1,h2,h3,h4,h5,h6⟩⟩
theorem bm_zero (l a f:Int) (g:Bool) (hl:0<=l/\l<=9) (ha:0<=a/\a<=63):bmL l a 0=l/\bmA l a 0=a/\bmG l a g 0=g/\bmF l a f 0=f:=by
 unfold bmL bmA bmG bmF
 refine ⟨by omega,by omega,?_,by omega⟩
 rw [Int.add_zero,decide_eq_false (Int.lt_irrefl _),Bool.or_false]
theorem bm_bd (l a n:Int) (hl:0<=l/\l<=9) (ha:0<=a/\a<=63) (hn:0<=n):(0<=bmL l a n/\bmL l a n<=9)/\(0<=bmA l a n/\bmA l a n<=63):=by
 unfold bmL bmA
 omega
theorem bm_pos (l a n:Int) (hl:0<=l/\l<=9) (ha:0<=a/\a<=63) (hn:0<=n):bmL l a n * 64+bmA l a n=(l * 64+a+n) % 640:=by
 unfold bmL bmA
 omega
theorem or_dec (g:Bool) (p q r:Prop) [Decidable p] [Decidable q] [Decidable r] (h:(p \/ q) ↔ r):((g || decide p) || decide q)=(g || decide r):=by
 rw [Bool.or_assoc]
 congr 1
 rw [<- Bool.decide_or]
 exact decide_eq_decide.2 h
theorem bm_add (l a f n m:Int) (g:Bool) (hl:0<=l/\l<=9) (ha:0<=a/\a<=63) (hn:0<=n) (hm:0<=m) :
 bmL (bmL l a n) (bmA l a n) m=bmL l a (n+m)/\bmA (bmL l a n) (bmA l a n) m=bmA l a (n+m)/\bmG (bmL l a n) (bmA l a n) (bmG l a g n) m=bmG l a g (n+m)/\bmF (bmL l a n) (bmA l a n) (bmF l a f n) m=bmF l a f (n+m):=by
 have hp:=bm_pos l a n hl ha hn
 have hA:bmA l a n=(l * 64+a+n) % 640 % 64:=by unfold bmA;omega
 refine ⟨?_,?_,?_,?_⟩
 ·unfold bmL at hp ⊢
  rw [hp];omega
 ·unfold bmA bmL at hp ⊢
  rw [hp];omega
 ·unfold bmG
  rw [hp]
  exact or_dec g _ _ _ (by omega)
 ·unfold bmF
  rw [hp];omega
/-! ### the package -/
theorem info_beam:(Tryz.prog.info? 38).map (·.size)=some 4:=by kernel_rfl
theorem load_beam (W:World) (q:Nat) (l a f:Int) (g:Bool) (h:W.rangeAt q 0 [.int .i64 l,.int .i64 a,.bool g,.int .i64 f]):(loadVar 38 ⟨q,0,none⟩).run Tryz.prog W = .ok (.agg #[.int .i64 l,.int .i64 a,.bool g,.int .i64 f]) W :=
 run_loadVar_mid W q 0 38 _ _ h Tryz.underlying38 rfl info_beam
def wthn (n m:Int):Bool:=decide (0<=n) && decide (n<=m)
theorem wthn_yes {n m:Int} (h0:0<=n) (h1:n<=m):wthn n m=true:=by unfold wthn;simp [h0,h1]
theorem wthn_no {n m:Int} (h:¬ (0<=n/\n<=m)):wthn n m=false:=by unfold wthn;rw [<- Bool.decide_and];exact decide_eq_false h
theorem Bm.within_any (n m:Int) (w:World) :
 Calls Tryz.prog 95 #[.int .i64 n,.int .i64 m] w fun e w'=>e = .returned (.bool (wthn n m))/\w=w':=by
 unfold wthn
 by_cases h:0<=n
 ·go_enter Tryz.func95,Tryz.ntmps95
  go_wp2
  go_ret
  exact ⟨ret_b (by simp [h]),rfl⟩
 ·go_enter Tryz.func95,Tryz.ntmps95
  go_wp2
  go_ret
  exact ⟨ret_b (by simp;omega),rfl⟩
theorem Bm.each_any (own:Int) (w:World) :
 Calls Tryz.prog 96 #[.int .i64 own] w fun e w'=>e = .returned (.func (.func 143) #[] #[.pointer (some ⟨w.heap.size,0,none⟩)])/\w'=w.alloc (.cells #[.int .i64 own] 3):=by
 go_enter Tryz.func96,Tryz.ntmps96
 go_wp2
 go_ret
 exact ⟨rfl,rfl⟩
theorem Bm.often_any (own c:Int) (b:Nat) (w:World) (ho:0<=own/\own<=640) (hc:0<=c/\c<=30000) (h:w.cell? ⟨b,0,none⟩=some (.int .i64 own)) (hb:b < w.heap.size) :
 Calls Tryz.prog 143 #[.int .i64 c,.pointer (some ⟨b,0,none⟩)] w fun e w'=>e = .returned (.int .i64 ((c+640 - own) / 640))/\w=w':=by
 have e1:Int.tdiv (c+640 - own) 640=(c+640 - own) / 640:=Int.tdiv_eq_ediv_of_nonneg (by omega)
 go_enter Tryz.func143,Tryz.ntmps143
 go_wp2
 go_ret
 exact ⟨by first | rfl | (congr 2;omega),rfl⟩
theorem Bm.check_yes (l a f:Int) (g:Bool) (w:World) (h:BOk l a f) :
 Calls Tryz.prog 94 #[.agg #[.int .i64 l,.int .i64 a,.bool g,.int .i64 f]] w fun e w'=>e = .returned (.int .i64 0)/\Below w.heap.size w w':=by
 have h1:=wthn_yes h.l0 h.l1
 have h2:=wthn_yes h.a0 h.a1
 have h3:=wthn_yes h.f0 h.f1
 clear h
 go_enter Tryz.func94,Tryz.ntmps94
 go_wp2_with (go_at_call 95;refine (Bm.within_any _ _ _).mono ?_;rintro e w0 ⟨rfl,rfl⟩)
 go_ret
 exact ⟨rfl,stA (st0 _) _⟩
theorem Bm.check_no (l a f:Int) (g:Bool) (w:World) (h:¬ BOk l a f) :
 Calls Tryz.prog 94 #[.agg #[.int .i64 l,.int .i64 a,.bool g,.int .i64 f]] w fun e w'=>e = .returned (.int .i64 3)/\Below w.heap.size w w':=by
 by_cases hl:0<=l/\l<=9
 ·have h1:=wthn_yes hl.1 hl.2
  by_cases ha:0<=a/\a<=63
  ·have h2:=wthn_yes ha.1 ha.2
   have h3:=wthn_no (n:=f) (m:=20000) fun hf=>h ⟨hl.1,hl.2,ha.1,ha.2,hf.1,hf.2⟩
   clear h hl ha
   go_enter Tryz.func94,Tryz.ntmps94
   go_wp2_with (go_at_call 95;refine (Bm.within_any _ _ _).mono ?_;rintro e w0 ⟨rfl,rfl⟩)
   go_ret
   exact ⟨rfl,stA (st0 _) _⟩
  ·have h2:=wthn_no ha
   clear h hl ha
   go_enter Tryz.func94,Tryz.ntmps94
   go_wp2_with (go_at_call 95;refine (Bm.within_any _ _ _).mono ?_;rintro e w0 ⟨rfl,rfl⟩)
   go_ret
   exact ⟨rfl,stA (st0 _) _⟩
 ·have h1:=wthn_no hl
  clear h hl
  go_enter Tryz.func94,Tryz.ntmps94
  go_wp2_with (go_at_call 95;refine (Bm.within_any _ _ _).mono ?_;rintro e w0 ⟨rfl,rfl⟩)
  go_ret
  exact ⟨rfl,stA (st0 _) _⟩
structure Pd where
 d:Int
 l:Bool
 s:Int
structure Bem where
 l:Int
 a:Int
 g:Bool
 f:Int
structure Mach where
 main:C.Cpu
 aux:C.Cpu
 mrom:List UInt8
 arom:List UInt8
 ram:List UInt8
 own:List UInt8
 video:List UInt8
 p0:Pd
 p1:Pd
 t:TM
 s:Sd
 b:Bem
 fr:Int
 «to»:Int
 granted:Bool
 held:Bool
 m0:Int
 m1:Int
 rung:Bool
 clock:Int
 mready:Int
 aready:Int
structure Wt where
 c:Int
 a:Int
 v:Int
structure Tk where
 n:Int
 l:List Wt
 v:Value
abbrev Tk.zero:Tk:=⟨0,[],.slice none 0 0⟩
abbrev Tk.add (t:Tk) (k:Int):Tk:={ t with n:=t.n+k }
def wcs:List Wt->List Value
 | []=>[]
 | x :: l=>.int .i64 x.c :: .int .i64 x.a :: .int .u8 x.v :: wcs l
theorem wcs_app:∀ (l:List Wt) (k:List Wt),wcs (l++k)=wcs l++wcs k
 | [],k=>rfl
 | x :: l,k=>by simp only [wcs,List.cons_append,wcs_app l k]
abbrev Tk.app (t:Tk) (l:List Wt) (v:Value):Tk:=⟨t.n,t.l++l,v⟩
theorem Tk.add_zero (t:Tk):t.add 0=t:=by cases t;simp [Tk.add]
theorem Tk.app_nil (t:Tk):t.app [] t.v=t:=by cases t;simp [Tk.app]
structure Pd.ok (p : Pd) : Prop where
 d:0<=p.d/\p.d<=255
 s:0<=p.s/\p.s<=255
def Pd.rd (p:Pd):Int:=sel p.l p.d p.s / 128
def Pd.next (p:Pd):Pd:=⟨p.d,p.l,sel p.l p.s (p.s * 2 % 256+1)⟩
def Pd.wr (p:Pd) (x:Int):Pd:=⟨p.d,odd x,sel (odd x) p.d p.s⟩
def TM.put (t:TM) (n:Int):TM:=⟨t.r,sel (odd n) t.r t.c,odd n,if odd (n / 2) then false else t.g⟩
def bget (l:List UInt8) (i:Int):Int:=((l.getD i.toNat 0).toNat:Int)
def bput (l:List UInt8) (i:Int) (x:Int):List UInt8:=l.set i.toNat (UInt8.ofNat x.toNat)
def hiB (w b:Int):Int:=b * 256+w % 256
def loB (w b:Int):Int:=w / 256 * 256+b
def two (a b:Bool):Int:=(if a then 1 else 0)+(if b then 2 else 0)
def romAt (l:List UInt8) (a:Int):Int:=if a < l.length then bget l a else 255
def Mach.lookM (M:Mach) (a:Int):Int:=if a < 32768 then romAt M.mrom a else if a < 49152 then bget M.ram ((a - 32768) % 128) else if a < 53248 then bget M.video ((a - 49152) % 256) else 255
def Mach.lookA (M:Mach) (a:Int):Int:=if a < 32768 then romAt M.arom a else if a < 49152 then bget M.own ((a - 32768) % 64) else if a < 53248 then (if M.granted then bget M.ram ((a - 49152) % 128) else 255) else 255
def Mach.portM (M:Mach) (p:Nat):Int × Mach :=
 match p with
 | 0=>(M.p0.rd,{ M with p0:=M.p0.next })
 | 1=>(M.p1.rd,{ M with p1:=M.p1.next })
 | 4=>(two M.t.on M.t.g,M)
 | 6=>(M.b.l,M)
 | 7=>(M.b.a,M)
 | 8=>(two M.b.g false,M)
 | 16=>(two M.granted M.held,M)
 | 17=>(M.m1,M)
 | _=>(255,M)
def Mach.portA (M:Mach) (p:Nat):Int × Mach:=if p=24 then (M.m0,{ M with rung:=false }) else (255,M)
def Mach.xfer (M:Mach):Nat->Mach
 | 0=>M
 | k+1=>{ M.xfer k with video:=bput (M.xfer k).video ((M.to+k) % 65536 % 256) ((M.xfer k).lookM ((M.fr+k) % 65536)) }
def beginC (hi lo:Int):C.Cpu:={ C.Cpu.zero with PC:=hi * 256+lo }
def Mach.grant (M:Mach) (n:Int):Mach:={ M with granted:=odd n,held:=odd (n / 2) }
def Mach.letGo (M:Mach) (n:Int):Mach :=
 if M.held && !(odd (n / 2)) then { M.grant n with aux:=beginC ((M.grant n).lookA 0) ((M.grant n).lookA 1),aready:=M.clock } else M.grant n
def Mach.putM (M:Mach) (p:Nat) (n:Int):Mach :=
 match p with
 | 0=>{ M with p0:=M.p0.wr n,p1:=M.p1.wr n }
 | 2=>{ M with t:={ M.t with r:=hiB M.t.r n } }
 | 3=>{ M with t:={ M.t with r:=loB M.t.r n } }
 | 4=>{ M with t:=M.t.put n }
 | 8=>{ M with b:={ M.b with g:=false } }
 | 10=>{ M with fr:=hiB M.fr n }
 | 11=>{ M with fr:=loB M.fr n }
 | 12=>{ M with «to»:=hiB M.to n }
 | 13=>{ M with «to»:=loB M.to n }
 | 14=>M.xfer n.toNat
 | 16=>M.letGo n
 | 17=>{ M with m0:=n,rung:=true }
 | _=>M
def takes (p:Nat) (n:Int):Int:=if p=14 then 2 * n else 0
def Mach.putA (M:Mach) (p:Nat) (n:Int):Mach:=if p < 24 then { M with s:=M.s.put p n } else if p=24 then { M with m1:=n } else M
def portNo (a:Int):Nat:=(a % 32).toNat
def isPort (a:Int):Bool:=decide (53248<=a/\a<=57343)
def Mach.rdM (M:Mach) (a:Int):Int × Mach:=if isPort a then M.portM (portNo a) else (M.lookM a,M)
def Mach.rdA (M:Mach) (a:Int):Int × Mach:=if isPort a then M.portA (portNo a) else (M.lookA a,M)
def Mach.memM (M:Mach) (a n:Int):Mach:=if a < 32768 then M else if a < 49152 then { M with ram:=bput M.ram ((a - 32768) % 128) n } else if a < 53248 then { M with video:=bput M.video ((a - 49152) % 256) n } else M
def Mach.memA (M:Mach) (a n:Int):Mach:=if a < 32768 then M else if a < 49152 then { M with own:=bput M.own ((a - 32768) % 64) n } else if a < 53248 then (if M.granted then { M with ram:=bput M.ram ((a - 49152) % 128) n } else M) else M
def Mach.wrM (M:Mach) (a n:Int):Mach:=if isPort a then M.putM (portNo a) n else M.memM a n
def Mach.wrA (M:Mach) (a n:Int):Mach:=if isPort a then M.putA (portNo a) n else M.memA a n
def shown (c:Int) (p:Nat) (n:Int):List Wt:=if p < 24 then [⟨c,p,n⟩] else []
def Mach.shA (M:Mach) (a n:Int):List Wt:=if isPort a then shown M.clock (portNo a) n else []
def tookM (a n:Int):Int:=if isPort a then takes (portNo a) n else 0
/-! ### machines that may be -/
def bd16 (x:Int):Prop:=0<=x/\x<=65535
def bd8 (x:Int):Prop:=0<=x/\x<=255
structure Mach.ok (M : Mach) : Prop where
 main:M.main.ok
 aux:M.aux.ok
 p0:M.p0.ok
 p1:M.p1.ok
 tr:bd16 M.t.r
 tc:bd16 M.t.c
 s:M.s.ok
 fr:bd16 M.fr
 «to»:bd16 M.to
 m0:bd8 M.m0
 m1:bd8 M.m1
structure BOr (l a f : Int) : Prop where
 l0:0<=l
 l1:l<=9
 a0:0<=a
 a1:a<=63
 f0:0<=f
 f1:f<=20001
structure Mach.fit (M : Mach) : Prop extends M.ok where
 mrom:M.mrom.length<=1024
 arom:M.arom.length<=1024
 ram:M.ram.length=128
 own:M.own.length=64
 video:M.video.length=256
 w:0<=M.s.w/\M.s.w<=15
 b:BOr M.b.l M.b.a M.b.f
 clock:0<=M.clock/\M.clock<=200000
 mready:0<=M.mready/\M.mready<=M.clock+20000
 aready:0<=M.aready/\M.aready<=M.clock+20000
/-! ### cells -/
structure Sl where
 mr:Value
 ar:Value
 ra:Value
 ow:Value
 vi:Value
def cpuL (c:C.Cpu):List Value:=[.int .u16 (c.r 0),.int .u16 (c.r 1),.int .u16 (c.r 2),.int .u16 (c.r 3),.int .u16 (c.r 4),.int .u16 (c.r 5),.int .u16 (c.r 6),.int .u16 (c.r 7),.int .u16 c.PC,.bool c.Z,.bool c.N,.bool c.C,.bool c.V,.bool c.May,.bool c.Waits]
def slL (S:Sl):List Value:=[S.mr,S.ar,S.ra,S.ow,S.vi]
def restL (M:Mach):List Value:=[.int .u8 M.p0.d,.bool M.p0.l,.int .u8 M.p0.s,.int .u8 M.p1.d,.bool M.p1.l,.int .u8 M.p1.s,.int .u16 M.t.r,.int .u16 M.t.c,.bool M.t.on,.bool M.t.g,
 .int .u16 M.s.a.p,.int .u16 M.s.a.c,.int .u8 M.s.a.l,.bool M.s.a.h,.int .u16 M.s.a.n,.int .u16 M.s.b.p,.int .u16 M.s.b.c,.int .u8 M.s.b.l,.bool M.s.b.h,.int .u16 M.s.b.n,.int .u16 M.s.c.p,.int .u16 M.s.c.c,.int .u8 M.s.c.l,.bool M.s.c.h,.int .u16 M.s.c.n,.int .i64 M.s.w,
 .int .i64 M.b.l,.int .i64 M.b.a,.bool M.b.g,.int .i64 M.b.f,.int .u16 M.fr,.int .u16 M.to,.bool M.granted,.bool M.held,.int .u8 M.m0,.int .u8 M.m1,.bool M.rung,.int .i64 M.clock,.int .i64 M.mready,.int .i64 M.aready]
def machL (M:Mach) (S:Sl):List Value:=cpuL M.main++(cpuL M.aux++(slL S++restL M))
theorem machL_len (M:Mach) (S:Sl):(machL M S).length=75:=rfl
theorem Bx.same {W w1:World} {b:Nat} {L:List Value} (h:Bx W b L) (hz:W.heap.size<=w1.heap.size) (e:w1.heap[b]? = W.heap[b]?):Bx w1 b L :=
 ⟨Nat.lt_of_lt_of_le h.z hz,fun j v hj=>(World.cell?_of_block (w:=W) e).trans (h.c j v hj),fun o=>(World.frozen?_of_block (w:=W) e).trans (h.f o)⟩
abbrev pt (g o:Nat):Value:=.pointer (some ⟨g,o,none⟩)
abbrev mval (n g o:Nat):Value:=.func (.func n) #[pt g o] #[]
abbrev fval (n:Nat) (cs:Array Value):Value:=.func (.func n) #[] cs
def Rw (W:World) (v:Value) (k:Nat) (l:List UInt8):Prop:=(v = .slice none 0 0/\l=[]) \/ ∃ cap,v = .slice (some ⟨k,0,none⟩) l.length cap/\l.length<=cap/\Bx W k (bcs l)
theorem Rw.same {W w1:World} {v:Value} {k:Nat} {l:List UInt8} (h:Rw W v k l) (hz:W.heap.size<=w1.heap.size) (e:k < W.heap.size->w1.heap[k]? = W.heap[k]?):Rw w1 v k l:=by
 rcases h with h | ⟨cap,h1,h2,h3⟩
 ·exact Or.inl h
 ·exact Or.inr ⟨cap,h1,h2,h3.same hz (e h3.z)⟩
theorem Rw.same2 {W w1:World} {v:Value} {k:Nat} {l:List UInt8} (h:Rw W v k l) (hz:W.heap.size<=w1.heap.size) (e:∀ j,v.ownBlock=some j->j < W.heap.size->w1.heap[j]? = W.heap[j]?):Rw w1 v k l:=by
 rcases h with h | ⟨cap,h1,h2,h3⟩
 ·exact Or.inl h
 ·exact Or.inr ⟨cap,h1,h2,h3.same hz (e k (by rw [h1];rfl) h3.z)⟩
theorem Rw.lt {W:World} {v:Value} {k:Nat} {l:List UInt8} (h:Rw W v k l):∀ j,v.ownBlock=some j->j < W.heap.size:=fun j e=>by
 rcases h with ⟨h,_⟩ | ⟨cap,h1,h2,h3⟩
 ·rw [h] at e;cases e
 ·rw [h1] at e;cases e;exact h3.z
theorem Rw.slice {W:World} {v:Value} {k:Nat} {l:List UInt8} (h:Rw W v k l):sliceAt W v l:=by
 rcases h with ⟨rfl,rfl⟩ | ⟨cap,h1,h2,h3⟩
 ·exact Or.inl ⟨none,0,rfl,rfl⟩
 ·refine Or.inr ⟨k,0,cap,h1,h2,h3.z,fun j c hj=>?_⟩
  rw [Nat.zero_add]
  refine h3.at j _ ?_
  simp [bcs,hj]
theorem Rw.some {W:World} {v:Value} {k:Nat} {l:List UInt8} (h:Rw W v k l) (hl:0 < l.length):∃ cap,v = .slice (some ⟨k,0,none⟩) l.length cap/\l.length<=cap/\Bx W k (bcs l):=by
 rcases h with ⟨_,rfl⟩ | h
 ·simp at hl
 ·exact h
theorem bcs_len (l:List UInt8):(bcs l).length=l.length:=by simp [bcs]
theorem bget_bd (l:List UInt8) (i:Int):0<=bget l i/\bget l i<=255:=by
 unfold bget
 have:=(l.getD i.toNat 0).toNat_lt
 omega
theorem bcs_at (l:List UInt8) (i:Int) (h0:0<=i) (h:i < l.length):(bcs l)[i.toNat]? = some (.int .u8 (bget l i)):=by
 have hi:i.toNat < l.length:=by omega
 simp [bcs,bget,List.getD,List.getElem?_eq_getElem hi]
theorem bcs_set (l:List UInt8) (i x:Int) (hx:0<=x/\x<=255):(bcs l).set i.toNat (.int .u8 x)=bcs (bput l i x):=by
 unfold bcs bput
 rw [List.map_set]
 congr 2
 rw [UInt8.toNat_ofNat']
 omega
theorem bput_len (l:List UInt8) (i x:Int):(bput l i x).length=l.length:=by simp [bput]
structure Env where
 mb:Nat
 q0:Nat
 w0:Nat
 q1:Nat
 w1:Nat
 h2:Nat
 h3:Nat
 h10:Nat
 h11:Nat
 h12:Nat
 h13:Nat
 ab:Nat
 sb:Nat->Nat
 sa:Nat->Nat
structure Fx where
 B:Nat
 g:Nat
 mr:Nat
 ar:Nat
 ra:Nat
 ow:Nat
 vi:Nat
 S:Sl
 E:Env
def Fx.T (F:Fx) (x:Nat):Prop:=x=F.g \/ x=F.ra \/ x=F.ow \/ x=F.vi
inductive Fx.has (F : Fx) : Nat -> Value -> Prop
 | mb:F.has F.E.mb (pt F.g 0)
 | q0:F.has F.E.q0 (pt F.g 0)
 | w0:F.has F.E.w0 (.int .i64 0)
 | q1:F.has F.E.q1 (pt F.g 0)
 | w1:F.has F.E.w1 (.int .i64 1)
 | h2:F.has F.E.h2 (pt F.g 41)
 | h3:F.has F.E.h3 (pt F.g 41)
 | h10:F.has F.E.h10 (pt F.g 65)
 | h11:F.has F.E.h11 (pt F.g 65)
 | h12:F.has F.E.h12 (pt F.g 66)
 | h13:F.has F.E.h13 (pt F.g 66)
 | ab:F.has F.E.ab (pt F.g 0)
 | sb (i:Nat) (h:i < 24):F.has (F.E.sb i) (pt F.g 0)
 | sa (i:Nat) (h:i < 24):F.has (F.E.sa i) (.int .i64 i)
def Fx.rdM (F:Fx) (i:Nat):Value :=
 match i with
 | 0=>fval 160 #[pt F.E.q0 0,pt F.E.w0 0]
 | 1=>fval 160 #[pt F.E.q1 0,pt F.E.w1 0]
 | 4=>mval 118 F.g 0
 | 6=>fval 120 #[pt F.E.mb 0]
 | 7=>fval 121 #[pt F.E.mb 0]
 | 8=>mval 122 F.g 0
 | 16=>mval 125 F.g 0
 | 17=>fval 127 #[pt F.E.mb 0]
 | _=>.nilFunc
def Fx.wrM (F:Fx) (i:Nat):Value :=
 match i with
 | 0=>mval 115 F.g 0
 | 2=>fval 163 #[pt F.E.h2 0]
 | 3=>fval 164 #[pt F.E.h3 0]
 | 4=>mval 119 F.g 0
 | 8=>mval 123 F.g 0
 | 10=>fval 163 #[pt F.E.h10 0]
 | 11=>fval 164 #[pt F.E.h11 0]
 | 12=>fval 163 #[pt F.E.h12 0]
 | 13=>fval 164 #[pt F.E.h13 0]
 | 14=>mval 124 F.g 0
 | 16=>mval 126 F.g 0
 | 17=>mval 128 F.g 0
 | _=>.nilFunc
def Fx.rdA (F:Fx) (i:Nat):Value:=if i=24 then mval 129 F.g 0 else .nilFunc
def Fx.wrA (F:Fx) (i:Nat):Value:=if i < 24 then fval 167 #[pt (F.E.sb i) 0,pt (F.E.sa i) 0] else if i=24 then fval 130 #[pt F.E.ab 0] else .nilFunc
def portsN (r w:Nat->Value):Nat->List Value
 | 0=>[]
 | n+1=>portsN r w n++[r n,w n]
theorem portsN_len (r w:Nat->Value):∀ n,(portsN r w n).length=2 * n
 | 0=>rfl
 | n+1=>by rw [portsN,List.length_append,portsN_len r w n];simp;omega
theorem portsN_at (r w:Nat->Value):∀ n i,i < n->(portsN r w n)[2 * i]? = some (r i)/\(portsN r w n)[2 * i+1]? = some (w i)
 | 0,i,h=>by omega
 | n+1,i,h=>by
  rw [portsN]
  by_cases e:i < n
  ·obtain ⟨h1,h2⟩:=portsN_at r w n i e
   rw [List.getElem?_append_left (by rw [portsN_len];omega),List.getElem?_append_left (by rw [portsN_len];omega)]
   exact ⟨h1,h2⟩
  ·obtain rfl:i=n:=by omega
   rw [List.getElem?_append_right (by rw [portsN_len];omega),List.getElem?_append_right (by rw [portsN_len];omega),portsN_len]
   exact ⟨by simp,by rw [show 2 * i+1 - 2 * i=1 by omega];rfl⟩
def Fx.sideM (F:Fx):List Value:=[pt F.g 30,mval 77 F.g 0]++portsN F.rdM F.wrM 32
def Fx.sideA (F:Fx):List Value:=[pt F.g 31,mval 79 F.g 0]++portsN F.rdA F.wrA 32
def Fx.cells (F:Fx) (M:Mach) (tk:Tk):List Value:=machL M F.S++([.int .i64 tk.n,tk.v]++(F.sideM++F.sideA))
theorem Fx.len (F:Fx) (M:Mach) (tk:Tk):(F.cells M tk).length=209:=by
 unfold Fx.cells Fx.sideM Fx.sideA
 simp only [List.length_append,portsN_len,machL_len]
 rfl
theorem app_at (A B C D:List Value) (a b c n:Nat) (v:Value) (hA:A.length=a) (hB:B.length=b) (hC:C.length=c) (h:D[n]? = some v) (E:List Value):(A++(B++((C++D)++E)))[a+b+c+n]? = some v:=by
 have hn:=(List.getElem?_eq_some_iff.1 h).1
 rw [List.getElem?_append_right (by omega),List.getElem?_append_right (by omega),List.getElem?_append_left (by simp;omega),List.getElem?_append_right (by omega),<- h]
 congr 1
 omega
theorem app_at2 (A B C D E:List Value) (a b c e n:Nat) (v:Value) (hA:A.length=a) (hB:B.length=b) (hE:E.length=e) (hC:C.length=c) (h:D[n]? = some v):(A++(B++(E++(C++D))))[a+b+e+c+n]? = some v:=by
 rw [List.getElem?_append_right (by omega),List.getElem?_append_right (by omega),List.getElem?_append_right (by omega),List.getElem?_append_right (by omega),<- h]
 congr 1
 omega
theorem Fx.portM (F:Fx) (M:Mach) (tk:Tk) (i:Nat) (h:i < 32):(F.cells M tk)[79+2 * i]? = some (F.rdM i)/\(F.cells M tk)[79+2 * i+1]? = some (F.wrM i):=by
 obtain ⟨h1,h2⟩:=portsN_at F.rdM F.wrM 32 i h
 exact ⟨app_at _ _ _ _ 75 2 2 (2 * i) _ (machL_len M F.S) rfl rfl h1 F.sideA,app_at _ _ _ _ 75 2 2 (2 * i+1) _ (machL_len M F.S) rfl rfl h2 F.sideA⟩
theorem Fx.portA (F:Fx) (M:Mach) (tk:Tk) (i:Nat) (h:i < 32):(F.cells M tk)[145+2 * i]? = some (F.rdA i)/\(F.cells M tk)[145+2 * i+1]? = some (F.wrA i):=by
 obtain ⟨h1,h2⟩:=portsN_at F.rdA F.wrA 32 i h
 have hs:F.sideM.length=66:=by unfold Fx.sideM;rw [List.length_append,portsN_len];rfl
 exact ⟨app_at2 _ _ _ _ F.sideM 75 2 2 66 (2 * i) _ (machL_len M F.S) rfl hs rfl h1,app_at2 _ _ _ _ F.sideM 75 2 2 66 (2 * i+1) _ (machL_len M F.S) rfl hs rfl h2⟩
structure Fx.nd (F : Fx) : Prop where
 lo:F.B<=F.g/\F.B<=F.ra/\F.B<=F.ow/\F.B<=F.vi
 d:F.g ≠ F.ra/\F.g ≠ F.ow/\F.g ≠ F.vi/\F.ra ≠ F.ow/\F.ra ≠ F.vi/\F.ow ≠ F.vi
 mr:¬ F.T F.mr
 ar:¬ F.T F.ar
 env:∀ x v,F.has x v->¬ F.T x
def Fx.off (F:Fx) (k:Nat):Prop:=¬ F.T k/\F.S.mr.ownBlock ≠ some k/\F.S.ar.ownBlock ≠ some k /\ ∀ x u,F.has x u->x ≠ k
structure Bd (F : Fx) (W : World) (M : Mach) (tk : Tk) : Prop where
 bx:Bx W F.g (F.cells M tk)
 mr:Rw W F.S.mr F.mr M.mrom
 ar:Rw W F.S.ar F.ar M.arom
 ra:Rw W F.S.ra F.ra M.ram
 ow:Rw W F.S.ow F.ow M.own
 vi:Rw W F.S.vi F.vi M.video
 env:∀ x v,F.has x v->x < W.heap.size/\W.cell? ⟨x,0,none⟩=some v
 nd:F.nd
 fit:M.fit
 big:F.B<=W.heap.size
 ws:W.ownsRow F.B 62 3 tk.v tk.l.length (wcs tk.l)
 wd:∀ k,tk.v.ownBlock=some k->F.off k
theorem ows_of {w w':World} {B:Nat} {t:TypeId} {z:Nat} {v:Value} {n:Nat} {xs:List Value} (h:w.ownsRow B t z v n xs) (e:∀ k,v.ownBlock=some k->w'.heap[k]? = w.heap[k]?):w'.ownsRow B t z v n xs:=by
 refine ⟨h.1,?_⟩
 rcases h.2 with h2 | ⟨g,cap,cur,rfl,hb,hg,r⟩
 ·exact Or.inl h2
 ·exact Or.inr ⟨g,cap,cur,rfl,hb,(e g rfl).trans hg,r⟩
section
variable {F : Fx} {W w0 w1 : World} {M M' : Mach} {tk tk' : Tk}
theorem Bd.kept (h:Bd F W M tk) (hb:Below W.heap.size W w1):Bd F w1 M tk :=
 ⟨h.bx.kept hb,h.mr.same hb.size (fun hk=>hb.block _ hk),h.ar.same hb.size (fun hk=>hb.block _ hk),h.ra.same hb.size (fun hk=>hb.block _ hk),h.ow.same hb.size (fun hk=>hb.block _ hk),h.vi.same hb.size (fun hk=>hb.block _ hk),
   fun x v hx=>⟨Nat.lt_of_lt_of_le (h.env x v hx).1 hb.size,(hb.cell (p:=⟨x,0,none⟩) (h.env x v hx).1).trans (h.env x v hx).2⟩,h.nd,h.fit,Nat.le_trans h.big hb.size,ows_of h.ws (fun k hk=>hb.block k (h.ws.lt k hk).2),h.wd⟩
theorem Bd.over (h:Bd F W M tk) (o:Obj):Bd F (W.alloc o) M tk:=h.kept (stA (st0 W) o)
theorem Bd.drew (h:Bd F W M tk):Bd F W.drew M tk:=h.kept (st0 W).drew
theorem Bd.drewN (h:Bd F W M tk) (n:Nat):Bd F (W.drewN n) M tk:=h.kept (Bl.drewN (st0 W) n)
theorem heap_set_far {W:World} {b o x:Nat} {v:Value} (h:x ≠ b):(W.setCell ⟨b,o,none⟩ v).heap[x]? = W.heap[x]?:=Below.heap_setCell _ _ _ _ (fun e=>h e)
theorem size_set {W:World} {a:Addr} {v:Value}:(W.setCell a v).heap.size=W.heap.size:=by simp [World.setCell]
theorem Bd.put (h:Bd F W M tk) (i:Nat) (v:Value) (hi:i < 209) (hc:(F.cells M tk).set i v=F.cells M' tk') (hm:M'.mrom=M.mrom/\M'.arom=M.arom/\M'.ram=M.ram/\M'.own=M.own/\M'.video=M.video) (hf:M'.fit) (hk:tk'.v=tk.v/\tk'.l=tk.l:=by exact ⟨rfl,rfl⟩):Bd F (W.setCell ⟨F.g,i,none⟩ v) M' tk':=by
 obtain ⟨m1,m2,m3,m4,m5⟩:=hm
 obtain ⟨d1,d2,d3,_⟩:=h.nd.d
 have n1:=fun e=>h.nd.mr (Or.inl e)
 have n2:=fun e=>h.nd.ar (Or.inl e)
 refine ⟨hc ▸ h.bx.set i v (by rw [F.len];exact hi),?_,?_,?_,?_,?_,fun x u hx=>?_,h.nd,hf,by rw [size_set];exact h.big,by rw [hk.1,hk.2];exact ows_of h.ws (fun k hk=>heap_set_far (fun e=>(h.wd k hk).1 (Or.inl e))),by rw [hk.1];exact h.wd⟩
 ·rw [m1];exact h.mr.same (by rw [size_set];exact Nat.le_refl _) (fun _=>heap_set_far n1)
 ·rw [m2];exact h.ar.same (by rw [size_set];exact Nat.le_refl _) (fun _=>heap_set_far n2)
 ·rw [m3];exact h.ra.same (by rw [size_set];exact Nat.le_refl _) (fun _=>heap_set_far (Ne.symm d1))
 ·rw [m4];exact h.ow.same (by rw [size_set];exact Nat.le_refl _) (fun _=>heap_set_far (Ne.symm d2))
 ·rw [m5];exact h.vi.same (by rw [size_set];exact Nat.le_refl _) (fun _=>heap_set_far (Ne.symm d3))
 ·have hn:x ≠ F.g:=fun e=>h.nd.env x u hx (Or.inl e)
  obtain ⟨e1,e2⟩:=h.env x u hx
  exact ⟨by rw [size_set];exact e1,(World.cell?_of_block (w:=W) (heap_set_far hn)).trans e2⟩
theorem heap_sets_far {b x:Nat} (h:x ≠ b):∀ (vs:List Value) (o:Nat) (W:World),(W.setCells b o vs).heap[x]? = W.heap[x]?
 | [],o,W=>rfl
 | v :: vs,o,W=>(heap_sets_far h vs (o+1) _).trans (heap_set_far h)
theorem size_sets (b:Nat):∀ (vs:List Value) (o:Nat) (W:World),(W.setCells b o vs).heap.size=W.heap.size
 | [],o,W=>rfl
 | v :: vs,o,W=>(size_sets b vs (o+1) _).trans size_set
theorem Bd.puts (h:Bd F W M tk) (i:Nat) (vs:List Value) (hi:i+vs.length<=209) (hc:putL (F.cells M tk) i vs=F.cells M' tk') (hm:M'.mrom=M.mrom/\M'.arom=M.arom/\M'.ram=M.ram/\M'.own=M.own/\M'.video=M.video) (hf:M'.fit) (hk:tk'.v=tk.v/\tk'.l=tk.l:=by exact ⟨rfl,rfl⟩):Bd F (W.setCells F.g i vs) M' tk':=by
 obtain ⟨m1,m2,m3,m4,m5⟩:=hm
 obtain ⟨d1,d2,d3,_⟩:=h.nd.d
 have n1:=fun e=>h.nd.mr (Or.inl e)
 have n2:=fun e=>h.nd.ar (Or.inl e)
 have hz:W.heap.size<=(W.setCells F.g i vs).heap.size:=Nat.le_of_eq (size_sets _ _ _ _).symm
 refine ⟨hc ▸ h.bx.puts i vs (by rw [F.len];exact hi),?_,?_,?_,?_,?_,fun x u hx=>?_,h.nd,hf,Nat.le_trans h.big hz,by rw [hk.1,hk.2];exact ows_of h.ws (fun k hk=>heap_sets_far (fun e=>(h.wd k hk).1 (Or.inl e)) _ _ _),by rw [hk.1];exact h.wd⟩
 ·rw [m1];exact h.mr.same hz (fun _=>heap_sets_far n1 _ _ _)
 ·rw [m2];exact h.ar.same hz (fun _=>heap_sets_far n2 _ _ _)
 ·rw [m3];exact h.ra.same hz (fun _=>heap_sets_far (Ne.symm d1) _ _ _)
 ·rw [m4];exact h.ow.same hz (fun _=>heap_sets_far (Ne.symm d2) _ _ _)
 ·rw [m5];exact h.vi.same hz (fun _=>heap_sets_far (Ne.symm d3) _ _ _)
 ·have hn:x ≠ F.g:=fun e=>h.nd.env x u hx (Or.inl e)
  obtain ⟨e1,e2⟩:=h.env x u hx
  exact ⟨Nat.lt_of_lt_of_le e1 hz,(World.cell?_of_block (w:=W) (heap_sets_far hn _ _ _)).trans e2⟩
theorem Rw.put {v:Value} {k:Nat} {l:List UInt8} (h:Rw W v k l) (i x:Int) (h0:0<=i) (hi:i < l.length) (hx:0<=x/\x<=255):Rw (W.setCell ⟨k,i.toNat,none⟩ (.int .u8 x)) v k (bput l i x):=by
 obtain ⟨cap,h1,h2,h3⟩:=h.some (by omega)
 refine Or.inr ⟨cap,by rw [bput_len];exact h1,by rw [bput_len];exact h2,?_⟩
 rw [<- bcs_set l i x hx]
 exact h3.set _ _ (by rw [bcs_len];omega)
theorem Bd.far (h:Bd F W M tk) {b o:Nat} {v:Value} (hg:b ≠ F.g) (hT:F.T b):Bx (W.setCell ⟨b,o,none⟩ v) F.g (F.cells M tk)/\Rw (W.setCell ⟨b,o,none⟩ v) F.S.mr F.mr M.mrom/\Rw (W.setCell ⟨b,o,none⟩ v) F.S.ar F.ar M.arom /\
 (∀ x u,F.has x u->x < (W.setCell ⟨b,o,none⟩ v).heap.size/\(W.setCell ⟨b,o,none⟩ v).cell? ⟨x,0,none⟩=some u)/\F.B<=(W.setCell ⟨b,o,none⟩ v).heap.size/\(W.setCell ⟨b,o,none⟩ v).ownsRow F.B 62 3 tk.v tk.l.length (wcs tk.l):=by
 refine ⟨h.bx.far hg v,h.mr.same (by rw [size_set];exact Nat.le_refl _) (fun _=>heap_set_far (fun e=>h.nd.mr (by rw [e];exact hT))),h.ar.same (by rw [size_set];exact Nat.le_refl _) (fun _=>heap_set_far (fun e=>h.nd.ar (by rw [e];exact hT))),fun x u hx=>?_,by rw [size_set];exact h.big,ows_of h.ws (fun k hk=>heap_set_far (fun e=>(h.wd k hk).1 (by rw [e];exact hT)))⟩
 have hn:x ≠ b:=fun e=>h.nd.env x u hx (by rw [e];exact hT)
 obtain ⟨e1,e2⟩:=h.env x u hx
 exact ⟨by rw [size_set];exact e1,(World.cell?_of_block (w:=W) (heap_set_far hn)).trans e2⟩
theorem Bd.putRam (h:Bd F W M tk) (i x:Int) (h0:0<=i) (hi:i < 128) (hx:0<=x/\x<=255):Bd F (W.setCell ⟨F.ra,i.toNat,none⟩ (.int .u8 x)) { M with ram:=bput M.ram i x } tk:=by
 obtain ⟨d1,d2,d3,d4,d5,d6⟩:=h.nd.d
 obtain ⟨a1,a2,a3,a4,a5,a6⟩:=h.far (b:=F.ra) (o:=i.toNat) (v:=.int .u8 x) (Ne.symm d1) (Or.inr (Or.inl rfl))
 exact ⟨a1,a2,a3,h.ra.put i x h0 (by rw [h.fit.ram];exact hi) hx,h.ow.same (by rw [size_set];exact Nat.le_refl _) (fun _=>heap_set_far (Ne.symm d4)),h.vi.same (by rw [size_set];exact Nat.le_refl _) (fun _=>heap_set_far (Ne.symm d5)),a4,h.nd,
  { h.fit with ram:=by rw [bput_len];exact h.fit.ram,main:=h.fit.main,aux:=h.fit.aux,p0:=h.fit.p0,p1:=h.fit.p1,tr:=h.fit.tr,tc:=h.fit.tc,s:=h.fit.s,fr:=h.fit.fr,«to»:=h.fit.to,m0:=h.fit.m0,m1:=h.fit.m1 },a5,a6,h.wd⟩
theorem Bd.putOwn (h:Bd F W M tk) (i x:Int) (h0:0<=i) (hi:i < 64) (hx:0<=x/\x<=255):Bd F (W.setCell ⟨F.ow,i.toNat,none⟩ (.int .u8 x)) { M with own:=bput M.own i x } tk:=by
 obtain ⟨d1,d2,d3,d4,d5,d6⟩:=h.nd.d
 obtain ⟨a1,a2,a3,a4,a5,a6⟩:=h.far (b:=F.ow) (o:=i.toNat) (v:=.int .u8 x) (Ne.symm d2) (Or.inr (Or.inr (Or.inl rfl)))
 exact ⟨a1,a2,a3,h.ra.same (by rw [size_set];exact Nat.le_refl _) (fun _=>heap_set_far d4),h.ow.put i x h0 (by rw [h.fit.own];exact hi) hx,h.vi.same (by rw [size_set];exact Nat.le_refl _) (fun _=>heap_set_far (Ne.symm d6)),a4,h.nd,
  { h.fit with own:=by rw [bput_len];exact h.fit.own,main:=h.fit.main,aux:=h.fit.aux,p0:=h.fit.p0,p1:=h.fit.p1,tr:=h.fit.tr,tc:=h.fit.tc,s:=h.fit.s,fr:=h.fit.fr,«to»:=h.fit.to,m0:=h.fit.m0,m1:=h.fit.m1 },a5,a6,h.wd⟩
theorem Bd.putVideo (h:Bd F W M tk) (i x:Int) (h0:0<=i) (hi:i < 256) (hx:0<=x/\x<=255):Bd F (W.setCell ⟨F.vi,i.toNat,none⟩ (.int .u8 x)) { M with video:=bput M.video i x } tk:=by
 obtain ⟨d1,d2,d3,d4,d5,d6⟩:=h.nd.d
 obtain ⟨a1,a2,a3,a4,a5,a6⟩:=h.far (b:=F.vi) (o:=i.toNat) (v:=.int .u8 x) (Ne.symm d3) (Or.inr (Or.inr (Or.inr rfl)))
 exact ⟨a1,a2,a3,h.ra.same (by rw [size_set];exact Nat.le_refl _) (fun _=>heap_set_far d5),h.ow.same (by rw [size_set];exact Nat.le_refl _) (fun _=>heap_set_far d6),h.vi.put i x h0 (by rw [h.fit.video];exact hi) hx,a4,h.nd,
  { h.fit with video:=by rw [bput_len];exact h.fit.video,main:=h.fit.main,aux:=h.fit.aux,p0:=h.fit.p0,p1:=h.fit.p1,tr:=h.fit.tr,tc:=h.fit.tc,s:=h.fit.s,fr:=h.fit.fr,«to»:=h.fit.to,m0:=h.fit.m0,m1:=h.fit.m1 },a5,a6,h.wd⟩
abbrev Bt (F:Fx) (W w1:World):Prop:=Mv F.B F.T F.T W w1
theorem Bt.kept (h:Bt F W w0) (hz:F.B<=w0.heap.size) (hb:Below w0.heap.size w0 w1):Bt F W w1:=Mv.trans h (Mv.of_below hz hb)
theorem Bt.set (hn:F.nd) (h:Bt F W w0) (i:Nat) (v:Value):Bt F W (w0.setCell ⟨F.g,i,none⟩ v):=Mv.setCell h hn.lo.1 (Or.inl (Or.inl rfl)) v
theorem Bt.setR (hn:F.nd) (h:Bt F W w0) (i:Nat) (v:Value):Bt F W (w0.setCell ⟨F.ra,i,none⟩ v):=Mv.setCell h hn.lo.2.1 (Or.inl (Or.inr (Or.inl rfl))) v
theorem Bt.setO (hn:F.nd) (h:Bt F W w0) (i:Nat) (v:Value):Bt F W (w0.setCell ⟨F.ow,i,none⟩ v):=Mv.setCell h hn.lo.2.2.1 (Or.inl (Or.inr (Or.inr (Or.inl rfl)))) v
theorem Bt.setV (hn:F.nd) (h:Bt F W w0) (i:Nat) (v:Value):Bt F W (w0.setCell ⟨F.vi,i,none⟩ v):=Mv.setCell h hn.lo.2.2.2 (Or.inl (Or.inr (Or.inr (Or.inr rfl)))) v
theorem Bt.sets (hn:F.nd):∀ (vs:List Value) (i:Nat) (w0:World),Bt F W w0->Bt F W (w0.setCells F.g i vs)
 | [],i,w0,h=>h
 | v :: vs,i,w0,h=>Bt.sets hn vs (i+1) _ (Bt.set hn h i v)
theorem Bt.refl (F:Fx) (W:World):Bt F W W:=Mv.refl _ _ _
def Fx.Tw (F:Fx) (W:World) (k:Nat):Prop:=F.T k \/ ∃ cs fr,W.heap[k]? = some (.cells cs 62 fr)
theorem Tw_same {k:Nat} (e:w1.heap[k]? = W.heap[k]?) (h:F.Tw w1 k):F.Tw W k:=h.imp id (fun ⟨cs,fr,x⟩=>⟨cs,fr,e ▸ x⟩)
def Bw (F:Fx) (W w1:World):Prop:=Mv F.B (F.Tw W) (F.Tw w1) W w1
theorem Bt.w (h:Bt F W w1):Bw F W w1:=⟨h.below,fun k hk ht=>h.block k hk (fun x=>ht (Or.inl x)),fun k ht=>by
 rcases Nat.lt_or_ge k W.heap.size with hk | hk
 ·by_cases hT:F.T k
  ·exact Or.inl (Or.inl hT)
  ·exact Or.inl (Tw_same (h.block k hk hT) ht)
 ·exact Or.inr hk⟩
theorem Bw.trans {w2:World} (h:Bw F W w1) (k:Bw F w1 w2):Bw F W w2:=Mv.trans h k
theorem Bw.of_below (hB:F.B<=W.heap.size) (hb:Below W.heap.size W w1):Bw F W w1:=Bt.w (Mv.of_below hB hb)
theorem Bw.grown (h:Bd F W M tk) (hg:W.grownBy w1 tk.v.ownBlock):Bw F W w1 :=
 have hne:∀ k,k < W.heap.size->¬ F.Tw W k->some k ≠ tk.v.ownBlock:=fun k hk ht e=>ht (Or.inr (by
  rcases h.ws.2 with ⟨e0,_⟩ | ⟨g,cap,cur,e0,_,hx,_⟩
  ·rw [e0] at e;cases e
  ·rw [e0] at e;cases e;exact ⟨_,_,hx⟩))
 ⟨(Below.refl F.B W).grown hg h.big (fun k hk=>(h.ws.lt k hk).1),fun k hk ht=>hg.block k hk (hne k hk ht),fun k ht=>by
   rcases Nat.lt_or_ge k W.heap.size with hk | hk
   ·by_cases hT:F.Tw W k
    ·exact Or.inl hT
    ·exact Or.inl (Tw_same (hg.block k hk (hne k hk hT)) ht)
   ·exact Or.inr hk⟩
theorem endA {l:List Wt} (h:Bd F w1 M tk) (hl:l=[]) (ht:Bt F W w1):(∃ v,Bd F w1 M (tk.app l v))/\Bw F W w1:=⟨⟨tk.v,by rw [hl,Tk.app_nil];exact h⟩,ht.w⟩
theorem Bd.at (h:Bd F W M tk) (i:Nat) (v:Value) (e:(F.cells M tk)[i]? = some v):W.cell? ⟨F.g,i,none⟩=some v:=h.bx.at i v e
end
theorem Bu.cell_any (k n cap:Nat) (a:Int) (w:World) (hn:0 < n) (hN:n<=1000) (ha:0<=a/\a<=65535) :
 Calls Tryz.prog 113 #[.slice (some ⟨k,0,none⟩) n cap,.int .u16 a] w fun e w'=>e = .returned (pt k (a % n).toNat)/\w=w':=by
 have hm:Int.tmod a n=a % n:=Int.tmod_eq_emod_of_nonneg ha.1
 have h0:0<=a % n:=Int.emod_nonneg _ (by omega)
 have h1:a % n < n:=Int.emod_lt_of_pos _ (by omega)
 have hz:((n:Int) == 0)=false:=by simp;omega
 go_enter Tryz.func113,Tryz.ntmps113
 go_wp2
 go_ret
 exact ⟨rfl,rfl⟩
theorem Bu.isPort_any (a:Int) (w:World) (ha:0<=a/\a<=65535) :
 Calls Tryz.prog 134 #[.int .u16 a] w fun e w'=>e = .returned (.bool (isPort a))/\w=w':=by
 unfold isPort
 by_cases h:53248<=a
 ·by_cases h2:a<=57343
  ·rw [decide_eq_true ⟨h,h2⟩]
   go_enter Tryz.func134,Tryz.ntmps134
   go_wp2
   go_ret
   exact ⟨rfl,rfl⟩
  ·rw [decide_eq_false (fun x=>h2 x.2)]
   go_enter Tryz.func134,Tryz.ntmps134
   go_wp2
   go_ret
   exact ⟨rfl,rfl⟩
 ·rw [decide_eq_false (fun x=>h x.1)]
  go_enter Tryz.func134,Tryz.ntmps134
  go_wp2
  go_ret
  exact ⟨rfl,rfl⟩
theorem Bu.within_any (n m:Int) (w:World) :
 Calls Tryz.prog 111 #[.int .i64 n,.int .i64 m] w fun e w'=>e = .returned (.bool (decide (0<=n/\n<=m)))/\w=w':=by
 by_cases h:0<=n
 ·by_cases h2:n<=m
  ·rw [decide_eq_true ⟨h,h2⟩]
   go_enter Tryz.func111,Tryz.ntmps111
   go_wp2
   go_ret
   exact ⟨rfl,rfl⟩
  ·rw [decide_eq_false (fun x=>h2 x.2)]
   go_enter Tryz.func111,Tryz.ntmps111
   go_wp2
   go_ret
   exact ⟨rfl,rfl⟩
 ·rw [decide_eq_false (fun x=>h x.1)]
  go_enter Tryz.func111,Tryz.ntmps111
  go_wp2
  go_ret
  exact ⟨rfl,rfl⟩
theorem Bu.bits_any (b:Bool) (n:Int) (w:World) :
 Calls Tryz.prog 165 #[.bool b,.int .u8 n] w fun e w'=>e = .returned (.int .u8 (sel b n 0))/\w=w':=by
 cases b
 all_goals
  go_enter Tryz.func165,Tryz.ntmps165
  go_wp2
  go_ret
  exact ⟨rfl,rfl⟩
end Go.Proofs.YtbhpfkjfijdmaaaGreatDoor
