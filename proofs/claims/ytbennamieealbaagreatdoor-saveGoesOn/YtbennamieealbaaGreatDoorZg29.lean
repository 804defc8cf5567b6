/-
  Parts of a proof, joined.
-/
import Derived.Test.YtbennamieealbaaGreatDoorZg27
import Derived.Test.YtbennamieealbaaGreatDoorZg28
import Derived.Test.YtbennamieealbaaGreatDoorZg18
import Derived.Test.YtbennamieealbaaGreatDoorZg01
import Derived.Test.YtbennamieealbaaGreatDoorZg03
set_option linter.unusedVariables false
set_option maxRecDepth 100000
set_option maxHeartbeats 3200000
namespace Go.Proofs.YtbennamieealbaaGreatDoor
open Go.ChangeShapes Go.WideShapes Go.ChangeAt Go.RowKit
structure Bst where
 M:Mach
 n:Int
 l:List Wt
theorem Pd.rd_bd {p:Pd} (h:p.ok):0<=p.rd/\p.rd<=255:=by
 unfold Pd.rd sel
 have:=h.d
 have:=h.s
 split <;> omega
theorem zjT (a b:Bool):0<=two a b/\two a b<=255:=by cases a <;> cases b <;> decide
theorem zo6 {M:Mach} (h:M.fit) (a:Int):0<=(M.rdM a).1/\(M.rdM a).1<=255:=by
 unfold Mach.rdM
 split
 ·unfold Mach.portM
  split
  ·exact Pd.rd_bd h.p0
  ·exact Pd.rd_bd h.p1
  ·exact zjT _ _
  ·exact ⟨h.b.l0,Int.le_trans h.b.l1 (by decide)⟩
  ·exact ⟨h.b.a0,Int.le_trans h.b.a1 (by decide)⟩
  ·exact zjT _ _
  ·exact zjT _ _
  ·exact h.m1
  ·exact ⟨show (0:Int)<=255 by decide,show (255:Int)<=255 by decide⟩
 ·exact zbW _ _
theorem zo7 {M:Mach} (h:M.fit) (a:Int):0<=(M.rdA a).1/\(M.rdA a).1<=255:=by
 unfold Mach.rdA
 split
 ·unfold Mach.portA
  split
  ·exact h.m0
  ·exact ⟨show (0:Int)<=255 by decide,show (255:Int)<=255 by decide⟩
 ·exact zco _ _
theorem zgu (a n:Int) (h:0<=n/\n<=255):0<=tookM a n/\tookM a n<=510:=by
 unfold tookM takes
 split
 ·split <;> omega
 ·omega
theorem zjU (M:Mach) (a n:Int):(M.shA a n).length<=1:=by
 unfold Mach.shA shown
 split
 ·split <;> simp
 ·simp
def mainMem:C.Mem Bst where
 rd s a:=((s.M.rdM a).1%256,{ s with M:=(s.M.rdM a).2 })
 wr s a b:={ s with M:=s.M.wrM a (b%256),n:=s.n+tookM a (b%256) }
 fuel s:=(1000000000000-s.n).toNat/510
def auxMem:C.Mem Bst where
 rd s a:=((s.M.rdA a).1%256,{ s with M:=(s.M.rdA a).2 })
 wr s a b:={ s with M:=s.M.wrA a (b%256),l:=s.l++s.M.shA a (b%256) }
 fuel s:=1000000001-s.l.length
structure Fx.into (F : Fx) (N : Nat) : Prop where
 g:F.g<N
 s:∀ j k,j<5->(F.S.get j).ownBlock=some k->k<N
 e:∀ x v,F.has x v->x<N
section
variable {F : Fx} {N : Nat} {W w w1 : World} {M M' : Mach} {tk tk' : Tk}
theorem Bd.rw (h:Bd F W M tk) (j:Nat) (hj:j<5):∃ k,Rw W (F.S.get j) k (M.byt j):=by
 rcases five hj with rfl|rfl|rfl|rfl|rfl
 ·exact ⟨_,h.mr⟩
 ·exact ⟨_,h.ar⟩
 ·exact ⟨_,h.ra⟩
 ·exact ⟨_,h.ow⟩
 ·exact ⟨_,h.vi⟩
theorem Bd.into (h:Bd F W M tk):F.into W.heap.size :=
 ⟨h.bx.z,λj k hj e=>by obtain ⟨_,hr⟩:=h.rw j hj;exact hr.lt k e,λx v hx=>(h.env x v hx).1⟩
theorem Bd.same (h:Bd F W M tk) (hN:F.into N) (hz:W.heap.size<=w1.heap.size) (e:∀ k,k<N->w1.heap[k]? = W.heap[k]?) (ew:∀ k,tk.v.ownBlock=some k->w1.heap[k]? = W.heap[k]?):Bd F w1 M tk :=
 ⟨h.bx.same hz (e _ hN.g),h.mr.same2 hz (λj hj _=>e j (hN.s 0 j (by omega) hj)),h.ar.same2 hz (λj hj _=>e j (hN.s 1 j (by omega) hj)),h.ra.same2 hz (λj hj _=>e j (hN.s 2 j (by omega) hj)),h.ow.same2 hz (λj hj _=>e j (hN.s 3 j (by omega) hj)),h.vi.same2 hz (λj hj _=>e j (hN.s 4 j (by omega) hj)),
   λx v hx=>⟨Nat.lt_of_lt_of_le (h.env x v hx).1 hz,(World.cell?_of_block (w:=W) (e x (hN.e x v hx))).trans (h.env x v hx).2⟩,h.nd,h.fit,Nat.le_trans h.big hz,zaA h.ws ew,h.wd⟩
theorem Bd.inT (h:Bd F W M tk) (hN:F.into N):∀ k,F.T k->k<N:=λk hk=>by
 rcases hk with e|e|e|e
 ·rw [e];exact hN.g
 ·obtain ⟨cap,h1,_,_⟩:=h.ra.some (by rw [h.fit.ram];omega)
  rw [e];exact hN.s 2 _ (by omega) (by show F.S.ra.ownBlock=_;rw [h1];rfl)
 ·obtain ⟨cap,h1,_,_⟩:=h.ow.some (by rw [h.fit.own];omega)
  rw [e];exact hN.s 3 _ (by omega) (by show F.S.ow.ownBlock=_;rw [h1];rfl)
 ·obtain ⟨cap,h1,_,_⟩:=h.vi.some (by rw [h.fit.video];omega)
  rw [e];exact hN.s 4 _ (by omega) (by show F.S.vi.ownBlock=_;rw [h1];rfl)
theorem Bd.wty (h:Bd F W M tk):∀ k,tk.v.ownBlock=some k->∃ cs fr,W.heap[k]? = some (.cells cs 66 fr):=λk hk=>by
 rcases h.ws.2 with ⟨e0,_⟩|⟨g,cap,cur,e0,_,hx,_⟩
 ·rw [e0] at hk;cases hk
 ·rw [e0] at hk;cases hk;exact ⟨_,_,hx⟩
structure BI (F : Fx) (N : Nat) (w : World) (s : Bst) : Prop where
 N:N<=w.heap.size
 sh:shapesAt w
 n:0<=s.n
 bd:∃ v,Bd F w s.M ⟨s.n,s.l,v⟩
structure Fb (F : Fx) (N : Nat) : Prop where
 into:F.into N
 shN:2<N
 shB:2<F.B
abbrev BT (N:Nat) (_:Bst) (k:Nat):Prop:=k<N
theorem zbE (h:shapesAt w) (e:w1.heap[2]? = w.heap[2]?):shapesAt w1:=λk hk=>by
 obtain ⟨h1,h2,h3⟩:=h k hk
 exact ⟨(World.cell?_of_block (w:=w) e).trans h1,(World.cell?_of_block (w:=w) e).trans h2,(World.cell?_of_block (w:=w) e).trans h3⟩
def BE (F:Fx) (W w':World) (s:Bst):Prop:=(∃ v,Bd F w' s.M ⟨s.n,s.l,v⟩)/\Bw F W w'
theorem BE.out {s s':Bst} (hF:Fb F N) (hI:BI F N w s) (h:BE F w w1 s') (hn:0<=s'.n):BI F N w1 s'/\Mv F.B (Tw (BT N) w s) (Tw (BT N) w1 s') w w1:=by
 obtain ⟨v,hB⟩:=hI.bd
 obtain ⟨hv,hm⟩:=h
 have hT:=hB.inT hF.into
 refine ⟨⟨Nat.le_trans hI.N (Mv.size hm),zbE hI.sh (hm.below.block _ hF.shB),hn,hv⟩,hm.below,λk hk ht=>hm.block k hk (λy=>ht (y.imp (hT k) id)),λk hk=>?_⟩
 rcases hk with hk|hk
 ·exact Or.inl (Or.inl hk)
 ·rcases hm.fresh k (Or.inr hk) with y|y
  ·exact Or.inl (y.imp (hT k) id)
  ·exact Or.inr y
theorem znA (n:Nat) (a b:Array Value) (w:World):(binOp .neq 120 (.func (.func n) a b) .nilFunc).run Tryz.prog w = .ok (.bool true) w:=by kernel_rfl
theorem BE.over {s:Bst} {o:Obj} (hB:F.B<=w.heap.size) (h:BE F (w.alloc o) w1 s):BE F w w1 s:=⟨h.1,Bw.trans (Bw.of_below hB (stA (st0 w) o)) h.2⟩
theorem zcr (h:Bd F W M tk) (o:Nat) (a x:Int) (s':Bst) (hr:∀ W,Bd F W M tk->Calls Tryz.prog 92 #[pt F.g o,.int .u16 a] W λe w'=>e = .returned (.int .u8 x)/\BE F W w' s') :
 Calls Tryz.prog 180 #[reachV F.g o,.int .u16 a] W λe w'=>e = .returned (.int .u8 x)/\BE F W w' s':=by
 have hn:=zis 92 #[pt F.g o] #[]
 have H:=hid h
 clear h
 go_enter Tryz.func180,Tryz.ntmps180
 go_wp2_with (go_at_call 92;refine (hr _ (H.out.over _)).mono ?_;rintro e w1 ⟨rfl,hB1⟩)
 go_ret
 exact ⟨rfl,hB1.over H.out.big⟩
theorem zb3 (h:Bd F W M tk) (o:Nat) (a x:Int) (s':Bst) (hr:∀ W,Bd F W M tk->Calls Tryz.prog 93 #[pt F.g o,.int .u16 a,.int .u8 x] W λe w'=>e = .returned (.tuple #[])/\BE F W w' s') :
 Calls Tryz.prog 270 #[reachV F.g o,.int .u16 a,.int .u8 x] W λe w'=>e = .returned (.tuple #[])/\BE F W w' s':=by
 have hn:=znA 93 #[pt F.g o] #[]
 have H:=hid h
 clear h
 go_enter Tryz.func270,Tryz.ntmps270
 go_wp2_with (go_at_call 93;refine (hr _ (H.out.over _)).mono ?_;rintro e w1 ⟨rfl,hB1⟩)
 go_end0
 exact ⟨rfl,hB1.over H.out.big⟩
theorem BI.keep {s:Bst} (hF:Fb F N) (h:BI F N w s) (hz:w.heap.size<=w1.heap.size) (e:∀ k,Tw (BT N) w s k->w1.heap[k]? = w.heap[k]?):BI F N w1 s:=by
 obtain ⟨v,hB⟩:=h.bd
 exact ⟨Nat.le_trans h.N hz,zbE h.sh (e _ (Or.inl hF.shN)),h.n,v,hB.same hF.into hz (λk hk=>e k (Or.inl hk)) (λk hk=>e k (Or.inr (hB.wty k hk)))⟩
theorem zfm (hF:Fb F N):RS mainMem F.B 92 93 (#[pt F.g 77],#[]) (#[pt F.g 77],#[]) (BI F N) (BT N) where
 lt:=λh k hk=>Nat.lt_of_lt_of_le hk h.N
 keep:=λh hz e=>h.keep hF hz e
 shapes:=λh=>h.sh
 gT:=hF.shN
 byte:=λs a=>by
  show 0<=(s.M.rdM a).1%256/\(s.M.rdM a).1%256<=255
  omega
 frd:=λs a=>Nat.le_refl _
 fwr:=λs a b=>by
  have:=zgu a (b%256) (by omega)
  show (1000000000000-s.n).toNat/510<=(1000000000000-(s.n+tookM a (b%256))).toNat/510+1
  omega
 big:=λh=>by obtain ⟨v,hB⟩:=h.bd;exact hB.big
 read:=λw s a ha ha' h=>by
  obtain ⟨v,hB⟩:=h.bd
  have hb:=zo6 hB.fit a
  have e1:(mainMem.rd s a).1=(s.M.rdM a).1:=by show (s.M.rdM a).1%256=_;omega
  rw [e1]
  refine (zcr hB 77 a (s.M.rdM a).1 (mainMem.rd s a).2 (λW hW=>(zim hW a ⟨ha,ha'⟩ (λi hi=>zlF i hi)).mono ?_)).mono ?_
  ·rintro e w1 ⟨rfl,hB1,hT1⟩
   exact ⟨rfl,⟨v,hB1⟩,hT1.w⟩
  ·rintro e w1 ⟨rfl,hE⟩
   exact ⟨rfl,hE.out hF h h.n⟩
 write:=λw s a b ha ha' hb hb' hf h=>by
  obtain ⟨v,hB⟩:=h.bd
  have e1:b%256=b:=by omega
  have hf':1<=(1000000000000-s.n).toNat/510:=hf
  have htk:0<=s.n/\s.n<=1000000000000:=⟨h.n,by omega⟩
  have htb:=zgu a b ⟨hb,hb'⟩
  have e2:mainMem.wr s a b=⟨s.M.wrM a b,s.n+tookM a b,s.l⟩:=by show (⟨_,_,_⟩:Bst)=_;rw [e1]
  rw [e2]
  refine (zb3 hB 77 a b ⟨s.M.wrM a b,s.n+tookM a b,s.l⟩ (λW hW=>(zhk hW a b ⟨ha,ha'⟩ ⟨hb,hb'⟩ (λi hi=>zlJ b ⟨hb,hb'⟩ htk i hi)).mono ?_)).mono ?_
  ·rintro e w1 ⟨rfl,hB1,hT1⟩
   exact ⟨rfl,⟨v,hB1⟩,hT1.w⟩
  ·rintro e w1 ⟨rfl,hE⟩
   exact ⟨rfl,hE.out hF h (by show 0<=s.n+tookM a b;omega)⟩
theorem zg5 (hF:Fb F N):RS auxMem F.B 92 93 (#[pt F.g 143],#[]) (#[pt F.g 143],#[]) (BI F N) (BT N) where
 lt:=λh k hk=>Nat.lt_of_lt_of_le hk h.N
 keep:=λh hz e=>h.keep hF hz e
 shapes:=λh=>h.sh
 gT:=hF.shN
 byte:=λs a=>by
  show 0<=(s.M.rdA a).1%256/\(s.M.rdA a).1%256<=255
  omega
 frd:=λs a=>Nat.le_refl _
 fwr:=λs a b=>by
  have:=zjU s.M a (b%256)
  show 1000000001-s.l.length<=1000000001-(s.l++s.M.shA a (b%256)).length+1
  rw [List.length_append]
  omega
 big:=λh=>by obtain ⟨v,hB⟩:=h.bd;exact hB.big
 read:=λw s a ha ha' h=>by
  obtain ⟨v,hB⟩:=h.bd
  have hb:=zo7 hB.fit a
  have e1:(auxMem.rd s a).1=(s.M.rdA a).1:=by show (s.M.rdA a).1%256=_;omega
  rw [e1]
  refine (zcr hB 143 a (s.M.rdA a).1 (auxMem.rd s a).2 (λW hW=>(zit hW a ⟨ha,ha'⟩ (λi hi=>zlG i hi)).mono ?_)).mono ?_
  ·rintro e w1 ⟨rfl,hB1,hT1⟩
   exact ⟨rfl,⟨v,hB1⟩,hT1.w⟩
  ·rintro e w1 ⟨rfl,hE⟩
   exact ⟨rfl,hE.out hF h h.n⟩
 write:=λw s a b ha ha' hb hb' hf h=>by
  obtain ⟨v,hB⟩:=h.bd
  have e1:b%256=b:=by omega
  have hf':1<=1000000001-s.l.length:=hf
  have e2:auxMem.wr s a b=⟨s.M.wrA a b,s.n,s.l++s.M.shA a b⟩:=by show (⟨_,_,_⟩:Bst)=_;rw [e1]
  rw [e2]
  refine (zb3 hB 143 a b ⟨s.M.wrA a b,s.n,s.l++s.M.shA a b⟩ (λW hW=>(zhR hW a b ⟨ha,ha'⟩ ⟨hb,hb'⟩ (λi hi=>zlK b ⟨hb,hb'⟩ (by show s.l.length<=1000000000;omega) i hi)).mono ?_)).mono ?_
  ·rintro e w1 ⟨rfl,hB1,hT1⟩
   exact ⟨rfl,hB1,hT1⟩
  ·rintro e w1 ⟨rfl,hE⟩
   exact ⟨rfl,hE.out hF h h.n⟩
end
end Go.Proofs.YtbennamieealbaaGreatDoor
namespace Go.Proofs.YtbennamieealbaaGreatDoor.C
section
variable {σ : Type} {m : Mem σ}
theorem fuel_rdw (h1:∀ s a,m.fuel s<=m.fuel (m.rd s a).2) (s:σ) (a:Int):m.fuel s<=m.fuel (m.rdw s a).2:=by
 unfold Mem.rdw
 exact Nat.le_trans (h1 s a) (h1 _ _)
theorem fuel_wrw (h2:∀ s a b,m.fuel s<=m.fuel (m.wr s a b)+1) (s:σ) (a n:Int):m.fuel s<=m.fuel (m.wrw s a n)+2:=by
 unfold Mem.wrw
 have e1:=h2 s a (n/256)
 have e2:=h2 (m.wr s a (n/256)) ((a+1)%65536) (n%256)
 omega
theorem fuel_leave (h1:∀ s a,m.fuel s<=m.fuel (m.rd s a).2) (h2:∀ s a b,m.fuel s<=m.fuel (m.wr s a b)+1) (x:St σ) (a:Int):m.fuel x.s<=m.fuel (leave m x a).s+4:=by
 have e1:m.fuel x.s<=m.fuel (push m x x.c.PC).s+2:=fuel_wrw h2 _ _ _
 have e2:m.fuel (push m x x.c.PC).s<=m.fuel (push m (push m x x.c.PC) (sign (push m x x.c.PC).c)).s+2:=fuel_wrw h2 _ _ _
 have e3:m.fuel (push m (push m x x.c.PC) (sign (push m x x.c.PC).c)).s<=m.fuel (leave m x a).s:=fuel_rdw h1 _ _
 omega
theorem fuel_act (h1:∀ s a,m.fuel s<=m.fuel (m.rd s a).2) (h2:∀ s a b,m.fuel s<=m.fuel (m.wr s a b)+1) (x:St σ) (k:Nat) (d s n w:Int):m.fuel x.s<=m.fuel (act m x k d s n w).s+4:=by
 have u0:m.fuel x.s<=m.fuel x.s+4:=Nat.le_add_right _ _
 have u2:∀ a n,m.fuel x.s<=m.fuel (m.wrw x.s a n)+4:=λa n=>by have:=fuel_wrw h2 x.s a n;omega
 have u1:∀ a n,m.fuel x.s<=m.fuel (m.wr x.s a n)+4:=λa n=>by have:=h2 x.s a n;omega
 have u3:∀ a,m.fuel x.s<=m.fuel (m.rdw x.s a).2+4:=λa=>by have:=fuel_rdw h1 x.s a;omega
 have u4:∀ a,m.fuel x.s<=m.fuel (m.rd x.s a).2+4:=λa=>by have:=h1 x.s a;omega
 have u5:∀ a b,m.fuel x.s<=m.fuel (m.rdw (m.rdw x.s a).2 b).2+4:=λa b=>by have:=fuel_rdw h1 x.s a;have:=fuel_rdw h1 (m.rdw x.s a).2 b;omega
 unfold act
 split
 ·exact u0
 ·exact u0
 ·exact u3 _
 ·exact u2 _ _
 ·exact u4 _
 ·exact u1 _ _
 ·exact u0
 ·exact u0
 ·exact u0
 ·exact u0
 ·exact u0
 ·exact u0
 ·exact u0
 ·exact u0
 ·exact u0
 ·exact u0
 ·split <;> exact u0
 ·split <;> exact u0
 ·split <;> exact u0
 ·exact u2 _ _
 ·exact u3 _
 ·exact u2 _ _
 ·exact u3 _
 ·exact u0
 ·exact u0
 ·exact u5 _ _
 ·exact u0
 ·exact u0
 ·split <;> exact u0
 ·exact fuel_leave h1 h2 x 4
 ·exact u0
theorem fuel_step (h1:∀ s a,m.fuel s<=m.fuel (m.rd s a).2) (h2:∀ s a b,m.fuel s<=m.fuel (m.wr s a b)+1) (c:Cpu) (s:σ) (r:Bool):m.fuel s<=m.fuel (step m c s r).s+4:=by
 unfold step
 split
 ·exact fuel_leave h1 h2 ⟨c,s,0⟩ 2
 ·split
  ·exact Nat.le_add_right _ _
  ·unfold order
   refine Nat.le_trans ?_ (fuel_act h1 h2 _ _ _ _ _ _)
   show m.fuel s<=m.fuel (behind m c s).s
   unfold behind
   simp only
   split
   ·exact Nat.le_trans (fuel_rdw h1 _ _) (fuel_rdw h1 _ _)
   ·exact fuel_rdw h1 _ _
theorem act_n (x:St σ) (k:Nat) (d s n w:Int):(act m x k d s n w).n=x.n \/ (act m x k d s n w).n=x.n+1:=by
 unfold act
 split
 all_goals first
  | exact Or.inl rfl
  | exact Or.inr rfl
  | (split;exact Or.inr rfl;exact Or.inl rfl)
  | (split;exact Or.inl rfl;exact Or.inr rfl)
theorem cyc_bd:∀ k,k<32->0<=K.cyc k/\K.cyc k<=20:=by decide
theorem step_n (c:Cpu) (s:σ) (r:Bool) (hk:O.rk (word1 m c s)<32):0<=(step m c s r).n/\(step m c s r).n<=21:=by
 unfold step
 split
 ·exact ⟨show (0:Int)<=6 by decide,show (6:Int)<=21 by decide⟩
 ·split
  ·exact ⟨show (0:Int)<=1 by decide,show (1:Int)<=21 by decide⟩
  ·unfold order
   have hc:=cyc_bd _ hk
   rcases act_n (m:=m) { behind m c s with n:=K.cyc (O.rk (word1 m c s)) } (O.rk (word1 m c s)) (O.rD (word1 m c s)) (O.rS (word1 m c s)) (O.rN (word1 m c s)) (O.rW (word1 m c s) (word2 m c s)) with e|e
   ·rw [e];exact ⟨hc.1,Int.le_trans hc.2 (by decide)⟩
   ·rw [e]
    have h1:=hc.1
    have h2:=hc.2
    show 0<=K.cyc (O.rk (word1 m c s))+1/\K.cyc (O.rk (word1 m c s))+1<=21
    omega
end
end Go.Proofs.YtbennamieealbaaGreatDoor.C
namespace Go.Proofs.YtbennamieealbaaGreatDoor
open Go.ChangeShapes Go.WideShapes Go.ChangeAt Go.RowKit
def gb (m:List UInt8) (i:Nat):Nat:=(m.getD i 0).toNat
theorem gb_lt (m:List UInt8) (i:Nat):gb m i<256:=(m.getD i 0).toNat_lt
def td (m:List UInt8) (t x y:Nat):Nat:=gb m (16+4*(t%16)+y)/4 ^ (3-x)%4
theorem td_lt (m:List UInt8) (t x y:Nat):td m t x y<4:=Nat.mod_lt _ (by decide)
def g16 (m:List UInt8) (Y X:Nat):Nat:=td m (gb m (Y/4*4+X/4)) (X%4) (Y%4)
def gd (m:List UInt8) (y x:Nat):Nat:=g16 m ((y+gb m 169)%16) ((x+gb m 168)%16)
theorem gd_lt (m:List UInt8) (y x:Nat):gd m y x<4:=td_lt ..
def lnS (m:List UInt8) (k:Nat):Nat:=gb m (128+4*k)
def clS (m:List UInt8) (k:Nat):Nat:=gb m (129+4*k)
def tiS (m:List UInt8) (k:Nat):Nat:=gb m (130+4*k)
def hwS (m:List UInt8) (k:Nat):Nat:=gb m (131+4*k)
def onS (m:List UInt8) (y k:Nat):Bool:=decide (lnS m k<=y/\y<lnS m k+4)
def drS (m:List UInt8) (y:Nat) (n:Nat):List Nat:=(List.range n).filter (onS m y)
theorem zfn (m:List UInt8) (y n:Nat):drS m y (n+1)=if onS m y n then drS m y n++[n] else drS m y n:=by
 unfold drS
 rw [List.range_succ,List.filter_append]
 cases h:onS m y n <;> simp [h]
theorem zo8 {m:List UInt8} {y n k:Nat} (h:k∈drS m y n):k<n:=by
 unfold drS at h
 rw [List.mem_filter] at h
 exact List.mem_range.1 h.1
theorem zo9 {m:List UInt8} {y n k:Nat} (h:k∈drS m y n):onS m y k=true:=by
 unfold drS at h
 exact (List.mem_filter.1 h).2
def rwS (m:List UInt8) (y k:Nat):Nat:=if hwS m k/2%2=1 then 3-(y-lnS m k) else y-lnS m k
def sdS (m:List UInt8) (y k i:Nat):Nat:=td m (tiS m k) (if hwS m k%2=1 then 3-i else i) (rwS m y k)
theorem zpa (m:List UInt8) (y k i:Nat):sdS m y k i<4:=td_lt ..
def sxS (m:List UInt8) (y k x:Nat):Nat:=if clS m k<=x/\x<clS m k+4 then sdS m y k (x-clS m k) else 0
def pxL (m:List UInt8) (y:Nat) (ks:List Nat) (x:Nat):Nat :=
 match ks.find? (λk=>sxS m y k x != 0) with
 | none=>gb m (160+gd m y x)
 | some k=>if 128<=hwS m k/\gd m y x≠0 then gb m (160+gd m y x) else gb m (164+sxS m y k x)
def tkL (m:List UInt8) (y:Nat) (ks:List Nat) (x:Nat):Bool:=ks.any (λk=>sxS m y k x != 0)
theorem zcs (m:List UInt8) (y:Nat) (ks:List Nat) (k x:Nat):tkL m y (ks++[k]) x=(tkL m y ks x || sxS m y k x != 0):=by
 unfold tkL;simp
theorem zlL {m:List UInt8} {y:Nat} {ks:List Nat} {x:Nat} (h:tkL m y ks x=false):pxL m y ks x=gb m (160+gd m y x):=by
 unfold tkL at h
 have:ks.find? (λk=>sxS m y k x != 0)=none:=by
  rw [List.find?_eq_none]
  intro k hk
  rw [List.any_eq_false] at h
  exact h k hk
 unfold pxL
 rw [this]
theorem zea {m:List UInt8} {y:Nat} {ks:List Nat} {k x:Nat} (h:tkL m y ks x=true):pxL m y (ks++[k]) x=pxL m y ks x:=by
 unfold tkL at h
 unfold pxL
 rw [List.find?_append]
 cases hf:ks.find? (λk=>sxS m y k x != 0) with
 | some a=>simp
 | none =>
  rw [List.find?_eq_none] at hf
  rw [List.any_eq_true] at h
  obtain ⟨a,ha,hb⟩:=h
  exact absurd hb (hf a ha)
theorem zct {m:List UInt8} {y:Nat} {ks:List Nat} {k x:Nat} (h:sxS m y k x=0):pxL m y (ks++[k]) x=pxL m y ks x:=by
 unfold pxL
 rw [List.find?_append]
 have:[k].find? (λk=>sxS m y k x != 0)=none:=by simp [h]
 rw [this]
 cases ks.find? (λk=>sxS m y k x != 0) <;> rfl
theorem zcW {m:List UInt8} {y:Nat} {ks:List Nat} {k x:Nat} (h:tkL m y ks x=false) (hd:sxS m y k x≠0):pxL m y (ks++[k]) x=if 128<=hwS m k/\gd m y x≠0 then pxL m y ks x else gb m (164+sxS m y k x):=by
 rw [zlL h]
 unfold tkL at h
 have hn:ks.find? (λk=>sxS m y k x != 0)=none:=by
  rw [List.find?_eq_none]
  intro k hk
  rw [List.any_eq_false] at h
  exact h k hk
 have h1:[k].find? (λk=>sxS m y k x != 0)=some k:=by simp [hd]
 unfold pxL
 rw [List.find?_append,hn,h1]
 rfl
def px (m:List UInt8) (y x:Nat):Nat:=pxL m y ((drS m y 8).take 2) x
def row16 (f:Nat->Nat):List Value:=(List.range 16).map λx=>Value.int .u8 (f x)
theorem zaq (f:Nat->Nat):(row16 f).length=16:=by simp [row16]
theorem zbF (f:Nat->Nat) {x:Nat} (h:x<16):(row16 f)[x]? = some (.int .u8 (f x)):=by
 unfold row16;rw [List.getElem?_map,List.getElem?_range h];rfl
theorem zbo {f g:Nat->Nat} (h:∀ x,x<16->f x=g x):row16 f=row16 g:=by
 unfold row16
 apply List.map_congr_left
 intro x hx
 rw [h x (List.mem_range.1 hx)]
theorem zbA (f:Nat->Nat) (x v:Nat) (h:x<16):(row16 f).set x (.int .u8 v)=row16 (λi=>if i=x then v else f i):=by
 apply List.ext_getElem?
 intro i
 by_cases hi:i<16
 ·rw [zbF _ hi]
  by_cases e:i=x
  ·subst e
   rw [List.getElem?_set_self (by rw [zaq];exact hi)]
   simp
  ·rw [List.getElem?_set_ne (Ne.symm e),zbF _ hi]
   simp [e]
 ·rw [List.getElem?_eq_none (by simp [zaq];omega),List.getElem?_eq_none (by rw [zaq];omega)]
def brow16 (f:Nat->Bool):List Value:=(List.range 16).map λx=>Value.bool (f x)
theorem zb2 (f:Nat->Bool):(brow16 f).length=16:=by simp [brow16]
theorem zdv (f:Nat->Bool) {x:Nat} (h:x<16):(brow16 f)[x]? = some (.bool (f x)):=by
 unfold brow16;rw [List.getElem?_map,List.getElem?_range h];rfl
theorem zfY {f g:Nat->Bool} (h:∀ x,x<16->f x=g x):brow16 f=brow16 g:=by
 unfold brow16
 apply List.map_congr_left
 intro x hx
 rw [h x (List.mem_range.1 hx)]
theorem zhS (f:Nat->Bool) (x:Nat) (v:Bool) (h:x<16):(brow16 f).set x (.bool v)=brow16 (λi=>if i=x then v else f i):=by
 apply List.ext_getElem?
 intro i
 by_cases hi:i<16
 ·rw [zdv _ hi]
  by_cases e:i=x
  ·subst e
   rw [List.getElem?_set_self (by rw [zb2];exact hi)]
   simp
  ·rw [List.getElem?_set_ne (Ne.symm e),zdv _ hi]
   simp [e]
 ·rw [List.getElem?_eq_none (by simp [zb2];omega),List.getElem?_eq_none (by rw [zb2];omega)]
structure Mm (W : World) (m : List UInt8) (v : Value) (g o c : Nat) : Prop where
 v:v = .slice (some ⟨g,o,none⟩) 256 c
 l:m.length=256
 z:g<W.heap.size
 c:∀ i,i<256->W.cell? ⟨g,o+i,none⟩=some (.int .u8 (gb m i))
theorem Mm.of {W:World} {m:List UInt8} {v:Value} (h:sliceAt W v m) (hl:m.length=256):∃ g o c,Mm W m v g o c:=by
 rcases h with ⟨a,cap,_,h2⟩|⟨g,o,cap,h1,h2,h3,h4⟩
 ·rw [h2] at hl;simp at hl
 ·refine ⟨g,o,cap,by rw [h1,hl],hl,h3,λi hi=>?_⟩
  have:=h4 i (m.getD i 0) (by rw [List.getElem?_eq_getElem (by omega)];simp [List.getD,List.getElem?_eq_getElem (show i<m.length by omega)])
  rw [this];rfl
theorem Mm.kept {W w1:World} {m:List UInt8} {v:Value} {g o c:Nat} (h:Mm W m v g o c) (hb:Below W.heap.size W w1):Mm w1 m v g o c :=
 ⟨h.v,h.l,Nat.lt_of_lt_of_le h.z hb.size,λi hi=>(hb.cell (p:=⟨g,o+i,none⟩) h.z).trans (h.c i hi)⟩
theorem and3 (b:Nat) (h:b<256):bits .and .u8 (b:Int) 3=((b%4:Nat):Int):=by
 rw [show (3:Int)=((3:Nat):Int) from rfl,u8_and_nat _ _ (by omega) (by omega),show (3:Nat)=2 ^ 2-1 from rfl,Nat.and_two_pow_sub_one_eq_mod]
theorem four (b:Nat) (h:b<256):(b:Int)/64=((b/4 ^ 3%4:Nat):Int)/\bits .and .u8 ((b:Int)/16) 3=((b/4 ^ 2%4:Nat):Int)/\bits .and .u8 ((b:Int)/4) 3=((b/4 ^ 1%4:Nat):Int)/\bits .and .u8 (b:Int) 3=((b/4 ^ 0%4:Nat):Int):=by
 refine ⟨?_,?_,?_,?_⟩
 ·have:b/4 ^ 3%4=b/64:=by omega
  rw [this];omega
 ·rw [show (b:Int)/16=((b/4 ^ 2:Nat):Int) by omega];exact and3 _ (by omega)
 ·rw [show (b:Int)/4=((b/4 ^ 1:Nat):Int) by omega];exact and3 _ (by omega)
 ·rw [show b/4 ^ 0=b by omega];exact and3 _ h
theorem agg4 {a b c d a' b' c' d':Int} (h1:a=a') (h2:b=b') (h3:c=c') (h4:d=d'):Value.agg #[.int .u8 a,.int .u8 b,.int .u8 c,.int .u8 d] = .agg #[.int .u8 a',.int .u8 b',.int .u8 c',.int .u8 d']:=by rw [h1,h2,h3,h4]
theorem zbL (m:List UInt8) (v:Value) (g o c:Nat) (t y:Nat) (w:World) (h:Mm w m v g o c) (ht:t<256) (hy:y<4) :
 Calls Tryz.prog 253 #[v,.int .u8 t,.int .i64 y] w λe w'=>e = .returned (.agg #[.int .u8 (td m t 0 y),.int .u8 (td m t 1 y),.int .u8 (td m t 2 y),.int .u8 (td m t 3 y)])/\Below w.heap.size w w':=by
 obtain ⟨rfl,hl,hz,hc⟩:=h
 have h1:=hc (16+4*(t%16)+y) (by omega)
 clear hc
 go_enter Tryz.func253,Tryz.ntmps253
 go_wp2
 obtain ⟨e1,e2,e3,e4⟩:=four (gb m (16+4*(t%16)+y)) (gb_lt ..)
 refine bodyPost_ret (v:=.agg _) (by simp [results,Tryz.results253,go_sem]) rfl ⟨ret_v (agg4 e1 e2 e3 e4),?_⟩
 exact stA (st0 w) _
theorem zew (a b c d:Int) (w:World) :
 Calls Tryz.prog 255 #[.agg #[.int .u8 a,.int .u8 b,.int .u8 c,.int .u8 d]] w λe w'=>e = .returned (.agg #[.int .u8 d,.int .u8 c,.int .u8 b,.int .u8 a])/\Below w.heap.size w w':=by
 go_enter Tryz.func255,Tryz.ntmps255
 go_wp2
 refine bodyPost_ret (v:=.agg _) (by simp [results,Tryz.results255,go_sem]) rfl ⟨rfl,?_⟩
 exact stA (stA (st0 w) _) _
theorem zcN (l cl t:Int) (b1 b2 b3:Bool) (y:Int) (w:World) (hl:0<=l/\l<=255) :
 Calls Tryz.prog 254 #[.agg #[.int .i64 l,.int .i64 cl,.int .u8 t,.bool b1,.bool b2,.bool b3],.int .i64 y] w λe w'=>e = .returned (.bool (decide (l<=y/\y<l+4)))/\Below w.heap.size w w':=by
 have hd:decide (l<=y/\y<l+4)=(decide (l<=y) && decide (y<l+4)):=by simp
 rw [hd]
 clear hd
 by_cases h1:l<=y
 ·go_enter Tryz.func254,Tryz.ntmps254
  go_wp2
  go_ret
  exact ⟨by simp [h1],stA (st0 w) _⟩
 ·go_enter Tryz.func254,Tryz.ntmps254
  go_wp2
  go_ret
  exact ⟨by simp;omega,stA (st0 w) _⟩
theorem bit0 (b:Nat) (h:b<256):(bits .and .u8 (b:Int) 1 != 0)=decide (b%2=1):=by
 rw [show (1:Int)=((1:Nat):Int) from rfl,u8_and_nat _ _ (by omega) (by omega),show b &&& 1=b%2 from Nat.and_two_pow_sub_one_eq_mod b 1]
 rcases Nat.mod_two_eq_zero_or_one b with e|e <;> rw [e] <;> rfl
theorem bit1 (b:Nat) (h:b<256):(bits .and .u8 (b:Int) 2 != 0)=decide (b/2%2=1):=by
 rw [show (2:Int)=((2:Nat):Int) from rfl,u8_and_nat _ _ (by omega) (by omega),show b &&& 2=if b.testBit 1 then 2 ^ 1 else 0 from M.and_pow b 1,Nat.testBit_eq_decide_div_mod_eq]
 by_cases e:b/2 ^ 1%2=1 <;> simp [e]
theorem bit7 (b:Nat) (h:b<256):(bits .and .u8 (b:Int) 128 != 0)=decide (128<=b):=by
 rw [show (128:Int)=((128:Nat):Int) from rfl,u8_and_nat _ _ (by omega) (by omega),show b &&& 128=if b.testBit 7 then 2 ^ 7 else 0 from M.and_pow b 7,Nat.testBit_eq_decide_div_mod_eq]
 by_cases e:b/2 ^ 7%2=1
 ·have:128<=b:=by omega
  simp [e,this]
 ·have:¬ 128<=b:=by omega
  simp [e,this]
theorem zmG (m:List UInt8) (i:Nat):IntKind.i64.wrap (gb m i:Int)=gb m i:=by
 have:=gb_lt m i
 rw [IntKind.wrap_i64];omega
theorem zb8 (b:Nat):∀ (vs:List Value) (o:Nat) (w:World),(w.setCells b o vs).heap.size=w.heap.size
 | [],o,w=>rfl
 | v::vs,o,w=>(zb8 b vs (o+1) _).trans (by simp)
theorem zg6 {W:World} {b:Nat} {L:List Value} (h:W.rangeAt b 0 L) (hb:b<W.heap.size) (o:Obj):(W.alloc o).rangeAt b 0 L:=λj v hj=>((stA (st0 W) o).cell (p:=⟨b,0+j,none⟩) hb).trans (h j v hj)
theorem zc5 (w:World) (b:Nat) (x0 x1 x2 x3:Value) (h:w.rangeAt b 0 [x0,x1,x2,x3]):(loadVar 312 ⟨b,0,none⟩).run Tryz.prog w = .ok (.agg #[x0,x1,x2,x3]) w :=
 run_loadVar_mid w b 0 312 [x0,x1,x2,x3] _ h Tryz.underlying312 rfl (by kernel_rfl)
def scS (m:List UInt8) (k:Nat):List Value:=[.int .i64 (lnS m k),.int .i64 (clS m k),.int .u8 (tiS m k),.bool (decide (hwS m k%2=1)),.bool (decide (hwS m k/2%2=1)),.bool (decide (128<=hwS m k))]
theorem zbu (m:List UInt8) (v:Value) (g o c:Nat) (k:Nat) (w:World) (h:Mm w m v g o c) (hk:k<8) :
 Calls Tryz.prog 227 #[v,.int .i64 k] w λe w'=>e = .returned (.agg #[.int .i64 (lnS m k),.int .i64 (clS m k),.int .u8 (tiS m k),.bool (decide (hwS m k%2=1)),.bool (decide (hwS m k/2%2=1)),.bool (decide (128<=hwS m k))])/\Below w.heap.size w w':=by
 obtain ⟨rfl,hl,hz,hc⟩:=h
 have h0:=hc (128+4*k) (by omega)
 have h1:=hc (128+4*k+1) (by omega)
 have h2:=hc (128+4*k+2) (by omega)
 have h3:=hc (128+4*k+3) (by omega)
 clear hc
 have a0:(0:Int)<=128+4*(k:Int):=by omega
 have a1:(0:Int)<=128+4*(k:Int)+1:=by omega
 have a2:(0:Int)<=128+4*(k:Int)+2:=by omega
 have b0:128+4*(k:Int)<256:=by omega
 have b1:128+4*(k:Int)+1<256:=by omega
 have b2:128+4*(k:Int)+2<256:=by omega
 have t0:(128+4*(k:Int)).toNat=128+4*k:=by omega
 have t1:(128+4*(k:Int)+1).toNat=128+4*k+1:=by omega
 have t2:(128+4*(k:Int)+2).toNat=128+4*k+2:=by omega
 have g0:=zmG m (128+4*k)
 have g1:=zmG m (128+4*k+1)
 have w1:IntKind.i64.wrap (128+4*(k:Int)+1)=128+4*(k:Int)+1:=by rw [IntKind.wrap_i64];omega
 have w2:IntKind.i64.wrap (128+4*(k:Int)+2)=128+4*(k:Int)+2:=by rw [IntKind.wrap_i64];omega
 go_enter Tryz.func227,Tryz.ntmps227
 go_wp2
 go_region_held3 (λw'=>w'.cell? ⟨g,o+(128+4*k),none⟩=some (.int .u8 (gb m (128+4*k)))/\w'.cell? ⟨g,o+(128+4*k+1),none⟩=some (.int .u8 (gb m (128+4*k+1)))/\w'.cell? ⟨g,o+(128+4*k+2),none⟩=some (.int .u8 (gb m (128+4*k+2))))
  ((go_keep;done))
  (fail)
 all_goals
  go_wp2
  refine bodyPost_ret (v:=.agg _) (by simp [results,Tryz.results227,go_sem] <;> rfl) rfl ⟨ret_v ?_,?_⟩
  ·rw [bit0 _ (gb_lt ..),bit1 _ (gb_lt ..),bit7 _ (gb_lt ..)]
   unfold lnS clS tiS hwS
   rw [show 129+4*k=128+4*k+1 by omega,show 130+4*k=128+4*k+2 by omega,show 131+4*k=128+4*k+3 by omega]
  ·exact (stA (st0 w) _).drew
theorem zlM (m:List UInt8) (v:Value) (g o c:Nat) (k y:Nat) (w:World) (h:Mm w m v g o c) (hon:onS m y k=true) (hy:y<8) :
 Calls Tryz.prog 228 #[.agg #[.int .i64 (lnS m k),.int .i64 (clS m k),.int .u8 (tiS m k),.bool (decide (hwS m k%2=1)),.bool (decide (hwS m k/2%2=1)),.bool (decide (128<=hwS m k))],v,.int .i64 y] w λe w'=>e = .returned (.agg #[.int .u8 (sdS m y k 0),.int .u8 (sdS m y k 1),.int .u8 (sdS m y k 2),.int .u8 (sdS m y k 3)])/\Below w.heap.size w w':=by
 unfold onS at hon
 have hon:=of_decide_eq_true hon
 have H:=hid h
 have ht:tiS m k<256:=gb_lt ..
 by_cases hr:hwS m k/2%2=1
 ·have hrw:rwS m y k=3-(y-lnS m k):=by unfold rwS;rw [if_pos hr]
  have hrw':((rwS m y k:Nat):Int)=3-((y:Int)-(lnS m k:Nat)):=by rw [hrw];omega
  have hrl:rwS m y k<4:=by rw [hrw];omega
  rw [decide_eq_true hr]
  have HR:=hid hrw'
  by_cases hcl:hwS m k%2=1
  ·have hsd:∀ i,sdS m y k i=td m (tiS m k) (3-i) (rwS m y k):=λi=>by unfold sdS;rw [if_pos hcl]
   rw [decide_eq_true hcl,hsd,hsd,hsd,hsd]
   clear h hr hcl hsd hrw hrw'
   go_enter Tryz.func228,Tryz.ntmps228
   go_wp2_with (first
    | (go_at_call 253;rw [<- HR.out];refine (zbL m v g o c (tiS m k) (rwS m y k) _ (H.out.kept (stA (stA (st0 w) _) _)) ht hrl).mono ?_;rintro e w1 ⟨rfl,hb1⟩;obtain ⟨k1,f1⟩:=bcell hb1;have z1:w.heap.size+1<w1.heap.size:=Nat.lt_of_lt_of_le (by simp) hb1.size;have z0:=Nat.lt_of_succ_lt z1)
    | (go_at_call 255;refine (zew _ _ _ _ _).mono ?_;rintro e w2 ⟨rfl,hb2⟩;obtain ⟨k2,f2⟩:=bcell hb2;have z2:w1.heap.size<w2.heap.size:=Nat.lt_of_lt_of_le (by simp) hb2.size;have z3:=Nat.lt_trans z1 z2))
   have hF:=Pl.fin [.int .u8 (td m (tiS m k) 3 (rwS m y k)),.int .u8 (td m (tiS m k) 2 (rwS m y k)),.int .u8 (td m (tiS m k) 1 (rwS m y k)),.int .u8 (td m (tiS m k) 0 (rwS m y k))] (zaK _ _ _ 4 (w.heap.size+1) (by simp) rfl) (stA (stA (st0 w) _) _) (stp (stA hb1 _) hb2) (by simp) (by omega)
   exact bodyPost_ret (v:=.agg _) (by simp only [results,Tryz.results228];simp;exact zc5 _ _ _ _ _ _ hF.2) rfl ⟨rfl,hF.1⟩
  ·have hsd:∀ i,sdS m y k i=td m (tiS m k) (i) (rwS m y k):=λi=>by unfold sdS;rw [if_neg hcl]
   rw [decide_eq_false hcl,hsd,hsd,hsd,hsd]
   clear h hr hcl hsd hrw hrw'
   go_enter Tryz.func228,Tryz.ntmps228
   go_wp2_with (first
    | (go_at_call 253;rw [<- HR.out];refine (zbL m v g o c (tiS m k) (rwS m y k) _ (H.out.kept (stA (stA (st0 w) _) _)) ht hrl).mono ?_;rintro e w1 ⟨rfl,hb1⟩;obtain ⟨k1,f1⟩:=bcell hb1;have z1:w.heap.size+1<w1.heap.size:=Nat.lt_of_lt_of_le (by simp) hb1.size;have z0:=Nat.lt_of_succ_lt z1))
   have hF:=Pl.fin [.int .u8 (td m (tiS m k) 0 (rwS m y k)),.int .u8 (td m (tiS m k) 1 (rwS m y k)),.int .u8 (td m (tiS m k) 2 (rwS m y k)),.int .u8 (td m (tiS m k) 3 (rwS m y k))] (zaK _ _ _ 4 (w.heap.size+1) (by simp) rfl) (stA (stA (st0 w) _) _) hb1 (by simp) (by omega)
   refine Pl.cutB (λW=>Below w.heap.size w W/\W.rangeAt (w.heap.size+1) 0 [.int .u8 (td m (tiS m k) 0 (rwS m y k)),.int .u8 (td m (tiS m k) 1 (rwS m y k)),.int .u8 (td m (tiS m k) 2 (rwS m y k)),.int .u8 (td m (tiS m k) 3 (rwS m y k))]) ⟨stA hF.1 _,zg6 hF.2 (by rw [zb8];exact z1) _⟩ ?_
   rintro W ⟨hlow,hr⟩
   exact bodyPost_ret (v:=.agg _) (by simp only [results,Tryz.results228];simp;exact zc5 _ _ _ _ _ _ hr) rfl ⟨rfl,hlow⟩
 ·have hrw:rwS m y k=y-lnS m k:=by unfold rwS;rw [if_neg hr]
  have hrw':((rwS m y k:Nat):Int)=(y:Int)-(lnS m k:Nat):=by rw [hrw];omega
  have hrl:rwS m y k<4:=by rw [hrw];omega
  rw [decide_eq_false hr]
  have HR:=hid hrw'
  by_cases hcl:hwS m k%2=1
  ·have hsd:∀ i,sdS m y k i=td m (tiS m k) (3-i) (rwS m y k):=λi=>by unfold sdS;rw [if_pos hcl]
   rw [decide_eq_true hcl,hsd,hsd,hsd,hsd]
   clear h hr hcl hsd hrw hrw'
   go_enter Tryz.func228,Tryz.ntmps228
   go_wp2_with (first
    | (go_at_call 253;rw [<- HR.out];refine (zbL m v g o c (tiS m k) (rwS m y k) _ (H.out.kept (stA (stA (st0 w) _) _)) ht hrl).mono ?_;rintro e w1 ⟨rfl,hb1⟩;obtain ⟨k1,f1⟩:=bcell hb1;have z1:w.heap.size+1<w1.heap.size:=Nat.lt_of_lt_of_le (by simp) hb1.size;have z0:=Nat.lt_of_succ_lt z1)
    | (go_at_call 255;refine (zew _ _ _ _ _).mono ?_;rintro e w2 ⟨rfl,hb2⟩;obtain ⟨k2,f2⟩:=bcell hb2;have z2:w1.heap.size<w2.heap.size:=Nat.lt_of_lt_of_le (by simp) hb2.size;have z3:=Nat.lt_trans z1 z2))
   have hF:=Pl.fin [.int .u8 (td m (tiS m k) 3 (rwS m y k)),.int .u8 (td m (tiS m k) 2 (rwS m y k)),.int .u8 (td m (tiS m k) 1 (rwS m y k)),.int .u8 (td m (tiS m k) 0 (rwS m y k))] (zaK _ _ _ 4 (w.heap.size+1) (by simp) rfl) (stA (stA (st0 w) _) _) (stp (stA hb1 _) hb2) (by simp) (by omega)
   exact bodyPost_ret (v:=.agg _) (by simp only [results,Tryz.results228];simp;exact zc5 _ _ _ _ _ _ hF.2) rfl ⟨rfl,hF.1⟩
  ·have hsd:∀ i,sdS m y k i=td m (tiS m k) (i) (rwS m y k):=λi=>by unfold sdS;rw [if_neg hcl]
   rw [decide_eq_false hcl,hsd,hsd,hsd,hsd]
   clear h hr hcl hsd hrw hrw'
   go_enter Tryz.func228,Tryz.ntmps228
   go_wp2_with (first
    | (go_at_call 253;rw [<- HR.out];refine (zbL m v g o c (tiS m k) (rwS m y k) _ (H.out.kept (stA (stA (st0 w) _) _)) ht hrl).mono ?_;rintro e w1 ⟨rfl,hb1⟩;obtain ⟨k1,f1⟩:=bcell hb1;have z1:w.heap.size+1<w1.heap.size:=Nat.lt_of_lt_of_le (by simp) hb1.size;have z0:=Nat.lt_of_succ_lt z1))
   have hF:=Pl.fin [.int .u8 (td m (tiS m k) 0 (rwS m y k)),.int .u8 (td m (tiS m k) 1 (rwS m y k)),.int .u8 (td m (tiS m k) 2 (rwS m y k)),.int .u8 (td m (tiS m k) 3 (rwS m y k))] (zaK _ _ _ 4 (w.heap.size+1) (by simp) rfl) (stA (stA (st0 w) _) _) hb1 (by simp) (by omega)
   refine Pl.cutB (λW=>Below w.heap.size w W/\W.rangeAt (w.heap.size+1) 0 [.int .u8 (td m (tiS m k) 0 (rwS m y k)),.int .u8 (td m (tiS m k) 1 (rwS m y k)),.int .u8 (td m (tiS m k) 2 (rwS m y k)),.int .u8 (td m (tiS m k) 3 (rwS m y k))]) ⟨stA hF.1 _,zg6 hF.2 (by rw [zb8];exact z1) _⟩ ?_
   rintro W ⟨hlow,hr⟩
   exact bodyPost_ret (v:=.agg _) (by simp only [results,Tryz.results228];simp;exact zc5 _ _ _ _ _ _ hr) rfl ⟨rfl,hlow⟩
end Go.Proofs.YtbennamieealbaaGreatDoor
