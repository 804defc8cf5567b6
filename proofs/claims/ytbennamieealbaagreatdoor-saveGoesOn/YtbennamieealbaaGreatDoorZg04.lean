/-
  Parts of a proof, joined.
-/
import Derived.Test.YtbennamieealbaaGreatDoorZg03
set_option linter.unusedVariables false
set_option maxRecDepth 100000
namespace Go.Proofs.YtbennamieealbaaGreatDoor
open Go.ChangeShapes Go.WideShapes Go.ChangeAt Go.RowKit
theorem Bx.same {W w1:World} {b:Nat} {L:List Value} (h:Bx W b L) (hz:W.heap.size<=w1.heap.size) (e:w1.heap[b]? = W.heap[b]?):Bx w1 b L :=
 ⟨Nat.lt_of_lt_of_le h.z hz,λj v hj=>(World.cell?_of_block (w:=W) e).trans (h.c j v hj),λo=>(World.frozen?_of_block (w:=W) e).trans (h.f o)⟩
abbrev pt (g o:Nat):Value:=.pointer (some ⟨g,o,none⟩)
abbrev mval (n g o:Nat):Value:=.func (.func n) #[pt g o] #[]
abbrev fval (n:Nat) (cs:Array Value):Value:=.func (.func n) #[] cs
def Rw (W:World) (v:Value) (k:Nat) (l:List UInt8):Prop:=(v = .slice none 0 0/\l=[]) \/ ∃ cap,v = .slice (some ⟨k,0,none⟩) l.length cap/\l.length<=cap/\Bx W k (bcs l)
theorem Rw.same {W w1:World} {v:Value} {k:Nat} {l:List UInt8} (h:Rw W v k l) (hz:W.heap.size<=w1.heap.size) (e:k<W.heap.size->w1.heap[k]? = W.heap[k]?):Rw w1 v k l:=by
 rcases h with h|⟨cap,h1,h2,h3⟩
 ·exact Or.inl h
 ·exact Or.inr ⟨cap,h1,h2,h3.same hz (e h3.z)⟩
theorem Rw.same2 {W w1:World} {v:Value} {k:Nat} {l:List UInt8} (h:Rw W v k l) (hz:W.heap.size<=w1.heap.size) (e:∀ j,v.ownBlock=some j->j<W.heap.size->w1.heap[j]? = W.heap[j]?):Rw w1 v k l:=by
 rcases h with h|⟨cap,h1,h2,h3⟩
 ·exact Or.inl h
 ·exact Or.inr ⟨cap,h1,h2,h3.same hz (e k (by rw [h1];rfl) h3.z)⟩
theorem Rw.lt {W:World} {v:Value} {k:Nat} {l:List UInt8} (h:Rw W v k l):∀ j,v.ownBlock=some j->j<W.heap.size:=λj e=>by
 rcases h with ⟨h,_⟩|⟨cap,h1,h2,h3⟩
 ·rw [h] at e;cases e
 ·rw [h1] at e;cases e;exact h3.z
theorem Rw.slice {W:World} {v:Value} {k:Nat} {l:List UInt8} (h:Rw W v k l):sliceAt W v l:=by
 rcases h with ⟨rfl,rfl⟩|⟨cap,h1,h2,h3⟩
 ·exact Or.inl ⟨none,0,rfl,rfl⟩
 ·refine Or.inr ⟨k,0,cap,h1,h2,h3.z,λj c hj=>?_⟩
  rw [Nat.zero_add]
  refine h3.at j _ ?_
  simp [bcs,hj]
theorem Rw.some {W:World} {v:Value} {k:Nat} {l:List UInt8} (h:Rw W v k l) (hl:0<l.length):∃ cap,v = .slice (some ⟨k,0,none⟩) l.length cap/\l.length<=cap/\Bx W k (bcs l):=by
 rcases h with ⟨_,rfl⟩|h
 ·simp at hl
 ·exact h
theorem zif (l:List UInt8):(bcs l).length=l.length:=by simp [bcs]
theorem zcG (l:List UInt8) (i:Int):0<=bget l i/\bget l i<=255:=by
 unfold bget
 have:=(l.getD i.toNat 0).toNat_lt
 omega
theorem zfF (l:List UInt8) (i:Int) (h0:0<=i) (h:i<l.length):(bcs l)[i.toNat]? = some (.int .u8 (bget l i)):=by
 have hi:i.toNat<l.length:=by omega
 simp [bcs,bget,List.getD,List.getElem?_eq_getElem hi]
theorem zmQ (l:List UInt8) (i x:Int) (hx:0<=x/\x<=255):(bcs l).set i.toNat (.int .u8 x)=bcs (bput l i x):=by
 unfold bcs bput
 rw [List.map_set]
 congr 2
 rw [UInt8.toNat_ofNat']
 omega
theorem zbU (l:List UInt8) (i x:Int):(bput l i x).length=l.length:=by simp [bput]
structure Env where
 mb:Nat
 q0:Nat
 w0:Nat
 q1:Nat
 w1:Nat
 h2:Nat
 h3:Nat
 h10:Nat
 h11:Nat
 h12:Nat
 h13:Nat
 ab:Nat
 sb:Nat->Nat
 sa:Nat->Nat
structure Fx where
 B:Nat
 g:Nat
 mr:Nat
 ar:Nat
 ra:Nat
 ow:Nat
 vi:Nat
 S:Sl
 E:Env
def Fx.T (F:Fx) (x:Nat):Prop:=x=F.g \/ x=F.ra \/ x=F.ow \/ x=F.vi
inductive Fx.has (F : Fx) : Nat -> Value -> Prop
 | mb:F.has F.E.mb (pt F.g 0)
 | q0:F.has F.E.q0 (pt F.g 0)
 | w0:F.has F.E.w0 (.int .i64 0)
 | q1:F.has F.E.q1 (pt F.g 0)
 | w1:F.has F.E.w1 (.int .i64 1)
 | h2:F.has F.E.h2 (pt F.g 41)
 | h3:F.has F.E.h3 (pt F.g 41)
 | h10:F.has F.E.h10 (pt F.g 65)
 | h11:F.has F.E.h11 (pt F.g 65)
 | h12:F.has F.E.h12 (pt F.g 66)
 | h13:F.has F.E.h13 (pt F.g 66)
 | ab:F.has F.E.ab (pt F.g 0)
 | sb (i:Nat) (h:i<24):F.has (F.E.sb i) (pt F.g 0)
 | sa (i:Nat) (h:i<24):F.has (F.E.sa i) (.int .i64 i)
def Fx.rdM (F:Fx) (i:Nat):Value :=
 match i with
 | 0=>fval 215 #[pt F.E.q0 0,pt F.E.w0 0]
 | 1=>fval 215 #[pt F.E.q1 0,pt F.E.w1 0]
 | 4=>mval 166 F.g 0
 | 6=>fval 168 #[pt F.E.mb 0]
 | 7=>fval 169 #[pt F.E.mb 0]
 | 8=>mval 170 F.g 0
 | 16=>mval 173 F.g 0
 | 17=>fval 175 #[pt F.E.mb 0]
 | _=>.nilFunc
def Fx.wrM (F:Fx) (i:Nat):Value :=
 match i with
 | 0=>mval 163 F.g 0
 | 2=>fval 218 #[pt F.E.h2 0]
 | 3=>fval 219 #[pt F.E.h3 0]
 | 4=>mval 167 F.g 0
 | 8=>mval 171 F.g 0
 | 10=>fval 218 #[pt F.E.h10 0]
 | 11=>fval 219 #[pt F.E.h11 0]
 | 12=>fval 218 #[pt F.E.h12 0]
 | 13=>fval 219 #[pt F.E.h13 0]
 | 14=>mval 172 F.g 0
 | 16=>mval 174 F.g 0
 | 17=>mval 176 F.g 0
 | _=>.nilFunc
def Fx.rdA (F:Fx) (i:Nat):Value:=if i=24 then mval 177 F.g 0 else .nilFunc
def Fx.wrA (F:Fx) (i:Nat):Value:=if i<24 then fval 222 #[pt (F.E.sb i) 0,pt (F.E.sa i) 0] else if i=24 then fval 178 #[pt F.E.ab 0] else .nilFunc
def portsN (r w:Nat->Value):Nat->List Value
 | 0=>[]
 | n+1=>portsN r w n++[r n,w n]
theorem zay (r w:Nat->Value):∀ n,(portsN r w n).length=2*n
 | 0=>rfl
 | n+1=>by rw [portsN,List.length_append,zay r w n];simp;omega
theorem zch (r w:Nat->Value):∀ n i,i<n->(portsN r w n)[2*i]? = some (r i)/\(portsN r w n)[2*i+1]? = some (w i)
 | 0,i,h=>by omega
 | n+1,i,h=>by
  rw [portsN]
  by_cases e:i<n
  ·obtain ⟨h1,h2⟩:=zch r w n i e
   rw [List.getElem?_append_left (by rw [zay];omega),List.getElem?_append_left (by rw [zay];omega)]
   exact ⟨h1,h2⟩
  ·obtain rfl:i=n:=by omega
   rw [List.getElem?_append_right (by rw [zay];omega),List.getElem?_append_right (by rw [zay];omega),zay]
   exact ⟨by simp,by rw [show 2*i+1-2*i=1 by omega];rfl⟩
def Fx.sideM (F:Fx):List Value:=[pt F.g 30,mval 87 F.g 0]++portsN F.rdM F.wrM 32
def Fx.sideA (F:Fx):List Value:=[pt F.g 31,mval 89 F.g 0]++portsN F.rdA F.wrA 32
def Fx.cells (F:Fx) (M:Mach) (tk:Tk):List Value:=machL M F.S++([.int .i64 tk.n,tk.v]++(F.sideM++F.sideA))
theorem Fx.len (F:Fx) (M:Mach) (tk:Tk):(F.cells M tk).length=209:=by
 unfold Fx.cells Fx.sideM Fx.sideA
 simp only [List.length_append,zay,zah]
 rfl
theorem zmu (A B C D:List Value) (a b c n:Nat) (v:Value) (hA:A.length=a) (hB:B.length=b) (hC:C.length=c) (h:D[n]? = some v) (E:List Value):(A++(B++((C++D)++E)))[a+b+c+n]? = some v:=by
 have hn:=(List.getElem?_eq_some_iff.1 h).1
 rw [List.getElem?_append_right (by omega),List.getElem?_append_right (by omega),List.getElem?_append_left (by simp;omega),List.getElem?_append_right (by omega),<- h]
 congr 1
 omega
theorem zgh (A B C D E:List Value) (a b c e n:Nat) (v:Value) (hA:A.length=a) (hB:B.length=b) (hE:E.length=e) (hC:C.length=c) (h:D[n]? = some v):(A++(B++(E++(C++D))))[a+b+e+c+n]? = some v:=by
 rw [List.getElem?_append_right (by omega),List.getElem?_append_right (by omega),List.getElem?_append_right (by omega),List.getElem?_append_right (by omega),<- h]
 congr 1
 omega
theorem Fx.portM (F:Fx) (M:Mach) (tk:Tk) (i:Nat) (h:i<32):(F.cells M tk)[79+2*i]? = some (F.rdM i)/\(F.cells M tk)[79+2*i+1]? = some (F.wrM i):=by
 obtain ⟨h1,h2⟩:=zch F.rdM F.wrM 32 i h
 exact ⟨zmu _ _ _ _ 75 2 2 (2*i) _ (zah M F.S) rfl rfl h1 F.sideA,zmu _ _ _ _ 75 2 2 (2*i+1) _ (zah M F.S) rfl rfl h2 F.sideA⟩
theorem Fx.portA (F:Fx) (M:Mach) (tk:Tk) (i:Nat) (h:i<32):(F.cells M tk)[145+2*i]? = some (F.rdA i)/\(F.cells M tk)[145+2*i+1]? = some (F.wrA i):=by
 obtain ⟨h1,h2⟩:=zch F.rdA F.wrA 32 i h
 have hs:F.sideM.length=66:=by unfold Fx.sideM;rw [List.length_append,zay];rfl
 exact ⟨zgh _ _ _ _ F.sideM 75 2 2 66 (2*i) _ (zah M F.S) rfl hs rfl h1,zgh _ _ _ _ F.sideM 75 2 2 66 (2*i+1) _ (zah M F.S) rfl hs rfl h2⟩
structure Fx.nd (F : Fx) : Prop where
 lo:F.B<=F.g/\F.B<=F.ra/\F.B<=F.ow/\F.B<=F.vi
 d:F.g≠F.ra/\F.g≠F.ow/\F.g≠F.vi/\F.ra≠F.ow/\F.ra≠F.vi/\F.ow≠F.vi
 mr:¬ F.T F.mr
 ar:¬ F.T F.ar
 env:∀ x v,F.has x v->¬ F.T x
def Fx.off (F:Fx) (k:Nat):Prop:=¬ F.T k/\F.S.mr.ownBlock≠some k/\F.S.ar.ownBlock≠some k /\ ∀ x u,F.has x u->x≠k
structure Bd (F : Fx) (W : World) (M : Mach) (tk : Tk) : Prop where
 bx:Bx W F.g (F.cells M tk)
 mr:Rw W F.S.mr F.mr M.mrom
 ar:Rw W F.S.ar F.ar M.arom
 ra:Rw W F.S.ra F.ra M.ram
 ow:Rw W F.S.ow F.ow M.own
 vi:Rw W F.S.vi F.vi M.video
 env:∀ x v,F.has x v->x<W.heap.size/\W.cell? ⟨x,0,none⟩=some v
 nd:F.nd
 fit:M.fit
 big:F.B<=W.heap.size
 ws:W.ownsRow F.B 66 3 tk.v tk.l.length (wcs tk.l)
 wd:∀ k,tk.v.ownBlock=some k->F.off k
theorem zaA {w w':World} {B:Nat} {t:TypeId} {z:Nat} {v:Value} {n:Nat} {xs:List Value} (h:w.ownsRow B t z v n xs) (e:∀ k,v.ownBlock=some k->w'.heap[k]? = w.heap[k]?):w'.ownsRow B t z v n xs:=by
 refine ⟨h.1,?_⟩
 rcases h.2 with h2|⟨g,cap,cur,rfl,hb,hg,r⟩
 ·exact Or.inl h2
 ·exact Or.inr ⟨g,cap,cur,rfl,hb,(e g rfl).trans hg,r⟩
section
variable {F : Fx} {W w0 w1 : World} {M M' : Mach} {tk tk' : Tk}
theorem Bd.kept (h:Bd F W M tk) (hb:Below W.heap.size W w1):Bd F w1 M tk :=
 ⟨h.bx.kept hb,h.mr.same hb.size (λhk=>hb.block _ hk),h.ar.same hb.size (λhk=>hb.block _ hk),h.ra.same hb.size (λhk=>hb.block _ hk),h.ow.same hb.size (λhk=>hb.block _ hk),h.vi.same hb.size (λhk=>hb.block _ hk),
   λx v hx=>⟨Nat.lt_of_lt_of_le (h.env x v hx).1 hb.size,(hb.cell (p:=⟨x,0,none⟩) (h.env x v hx).1).trans (h.env x v hx).2⟩,h.nd,h.fit,Nat.le_trans h.big hb.size,zaA h.ws (λk hk=>hb.block k (h.ws.lt k hk).2),h.wd⟩
theorem Bd.over (h:Bd F W M tk) (o:Obj):Bd F (W.alloc o) M tk:=h.kept (stA (st0 W) o)
theorem Bd.drew (h:Bd F W M tk):Bd F W.drew M tk:=h.kept (st0 W).drew
theorem Bd.drewN (h:Bd F W M tk) (n:Nat):Bd F (W.drewN n) M tk:=h.kept (Bl.drewN (st0 W) n)
theorem zae {W:World} {b o x:Nat} {v:Value} (h:x≠b):(W.setCell ⟨b,o,none⟩ v).heap[x]? = W.heap[x]?:=Below.heap_setCell _ _ _ _ (λe=>h e)
theorem zao {W:World} {a:Addr} {v:Value}:(W.setCell a v).heap.size=W.heap.size:=by simp [World.setCell]
theorem Bd.put (h:Bd F W M tk) (i:Nat) (v:Value) (hi:i<209) (hc:(F.cells M tk).set i v=F.cells M' tk') (hm:M'.mrom=M.mrom/\M'.arom=M.arom/\M'.ram=M.ram/\M'.own=M.own/\M'.video=M.video) (hf:M'.fit) (hk:tk'.v=tk.v/\tk'.l=tk.l:=by exact ⟨rfl,rfl⟩):Bd F (W.setCell ⟨F.g,i,none⟩ v) M' tk':=by
 obtain ⟨m1,m2,m3,m4,m5⟩:=hm
 obtain ⟨d1,d2,d3,_⟩:=h.nd.d
 have n1:=λe=>h.nd.mr (Or.inl e)
 have n2:=λe=>h.nd.ar (Or.inl e)
 refine ⟨hc ▸ h.bx.set i v (by rw [F.len];exact hi),?_,?_,?_,?_,?_,λx u hx=>?_,h.nd,hf,by rw [zao];exact h.big,by rw [hk.1,hk.2];exact zaA h.ws (λk hk=>zae (λe=>(h.wd k hk).1 (Or.inl e))),by rw [hk.1];exact h.wd⟩
 ·rw [m1];exact h.mr.same (by rw [zao];exact Nat.le_refl _) (λ_=>zae n1)
 ·rw [m2];exact h.ar.same (by rw [zao];exact Nat.le_refl _) (λ_=>zae n2)
 ·rw [m3];exact h.ra.same (by rw [zao];exact Nat.le_refl _) (λ_=>zae (Ne.symm d1))
 ·rw [m4];exact h.ow.same (by rw [zao];exact Nat.le_refl _) (λ_=>zae (Ne.symm d2))
 ·rw [m5];exact h.vi.same (by rw [zao];exact Nat.le_refl _) (λ_=>zae (Ne.symm d3))
 ·have hn:x≠F.g:=λe=>h.nd.env x u hx (Or.inl e)
  obtain ⟨e1,e2⟩:=h.env x u hx
  exact ⟨by rw [zao];exact e1,(World.cell?_of_block (w:=W) (zae hn)).trans e2⟩
theorem zag {b x:Nat} (h:x≠b):∀ (vs:List Value) (o:Nat) (W:World),(W.setCells b o vs).heap[x]? = W.heap[x]?
 | [],o,W=>rfl
 | v::vs,o,W=>(zag h vs (o+1) _).trans (zae h)
theorem zaT (b:Nat):∀ (vs:List Value) (o:Nat) (W:World),(W.setCells b o vs).heap.size=W.heap.size
 | [],o,W=>rfl
 | v::vs,o,W=>(zaT b vs (o+1) _).trans zao
theorem Bd.puts (h:Bd F W M tk) (i:Nat) (vs:List Value) (hi:i+vs.length<=209) (hc:putL (F.cells M tk) i vs=F.cells M' tk') (hm:M'.mrom=M.mrom/\M'.arom=M.arom/\M'.ram=M.ram/\M'.own=M.own/\M'.video=M.video) (hf:M'.fit) (hk:tk'.v=tk.v/\tk'.l=tk.l:=by exact ⟨rfl,rfl⟩):Bd F (W.setCells F.g i vs) M' tk':=by
 obtain ⟨m1,m2,m3,m4,m5⟩:=hm
 obtain ⟨d1,d2,d3,_⟩:=h.nd.d
 have n1:=λe=>h.nd.mr (Or.inl e)
 have n2:=λe=>h.nd.ar (Or.inl e)
 have hz:W.heap.size<=(W.setCells F.g i vs).heap.size:=Nat.le_of_eq (zaT _ _ _ _).symm
 refine ⟨hc ▸ h.bx.puts i vs (by rw [F.len];exact hi),?_,?_,?_,?_,?_,λx u hx=>?_,h.nd,hf,Nat.le_trans h.big hz,by rw [hk.1,hk.2];exact zaA h.ws (λk hk=>zag (λe=>(h.wd k hk).1 (Or.inl e)) _ _ _),by rw [hk.1];exact h.wd⟩
 ·rw [m1];exact h.mr.same hz (λ_=>zag n1 _ _ _)
 ·rw [m2];exact h.ar.same hz (λ_=>zag n2 _ _ _)
 ·rw [m3];exact h.ra.same hz (λ_=>zag (Ne.symm d1) _ _ _)
 ·rw [m4];exact h.ow.same hz (λ_=>zag (Ne.symm d2) _ _ _)
 ·rw [m5];exact h.vi.same hz (λ_=>zag (Ne.symm d3) _ _ _)
 ·have hn:x≠F.g:=λe=>h.nd.env x u hx (Or.inl e)
  obtain ⟨e1,e2⟩:=h.env x u hx
  exact ⟨Nat.lt_of_lt_of_le e1 hz,(World.cell?_of_block (w:=W) (zag hn _ _ _)).trans e2⟩
theorem Rw.put {v:Value} {k:Nat} {l:List UInt8} (h:Rw W v k l) (i x:Int) (h0:0<=i) (hi:i<l.length) (hx:0<=x/\x<=255):Rw (W.setCell ⟨k,i.toNat,none⟩ (.int .u8 x)) v k (bput l i x):=by
 obtain ⟨cap,h1,h2,h3⟩:=h.some (by omega)
 refine Or.inr ⟨cap,by rw [zbU];exact h1,by rw [zbU];exact h2,?_⟩
 rw [<- zmQ l i x hx]
 exact h3.set _ _ (by rw [zif];omega)
theorem Bd.far (h:Bd F W M tk) {b o:Nat} {v:Value} (hg:b≠F.g) (hT:F.T b):Bx (W.setCell ⟨b,o,none⟩ v) F.g (F.cells M tk)/\Rw (W.setCell ⟨b,o,none⟩ v) F.S.mr F.mr M.mrom/\Rw (W.setCell ⟨b,o,none⟩ v) F.S.ar F.ar M.arom /\
 (∀ x u,F.has x u->x<(W.setCell ⟨b,o,none⟩ v).heap.size/\(W.setCell ⟨b,o,none⟩ v).cell? ⟨x,0,none⟩=some u)/\F.B<=(W.setCell ⟨b,o,none⟩ v).heap.size/\(W.setCell ⟨b,o,none⟩ v).ownsRow F.B 66 3 tk.v tk.l.length (wcs tk.l):=by
 refine ⟨h.bx.far hg v,h.mr.same (by rw [zao];exact Nat.le_refl _) (λ_=>zae (λe=>h.nd.mr (by rw [e];exact hT))),h.ar.same (by rw [zao];exact Nat.le_refl _) (λ_=>zae (λe=>h.nd.ar (by rw [e];exact hT))),λx u hx=>?_,by rw [zao];exact h.big,zaA h.ws (λk hk=>zae (λe=>(h.wd k hk).1 (by rw [e];exact hT)))⟩
 have hn:x≠b:=λe=>h.nd.env x u hx (by rw [e];exact hT)
 obtain ⟨e1,e2⟩:=h.env x u hx
 exact ⟨by rw [zao];exact e1,(World.cell?_of_block (w:=W) (zae hn)).trans e2⟩
theorem Bd.putRam (h:Bd F W M tk) (i x:Int) (h0:0<=i) (hi:i<128) (hx:0<=x/\x<=255):Bd F (W.setCell ⟨F.ra,i.toNat,none⟩ (.int .u8 x)) { M with ram:=bput M.ram i x } tk:=by
 obtain ⟨d1,d2,d3,d4,d5,d6⟩:=h.nd.d
 obtain ⟨a1,a2,a3,a4,a5,a6⟩:=h.far (b:=F.ra) (o:=i.toNat) (v:=.int .u8 x) (Ne.symm d1) (Or.inr (Or.inl rfl))
 exact ⟨a1,a2,a3,h.ra.put i x h0 (by rw [h.fit.ram];exact hi) hx,h.ow.same (by rw [zao];exact Nat.le_refl _) (λ_=>zae (Ne.symm d4)),h.vi.same (by rw [zao];exact Nat.le_refl _) (λ_=>zae (Ne.symm d5)),a4,h.nd,
  { h.fit with ram:=by rw [zbU];exact h.fit.ram,main:=h.fit.main,aux:=h.fit.aux,p0:=h.fit.p0,p1:=h.fit.p1,tr:=h.fit.tr,tc:=h.fit.tc,s:=h.fit.s,fr:=h.fit.fr,«to»:=h.fit.to,m0:=h.fit.m0,m1:=h.fit.m1 },a5,a6,h.wd⟩
theorem Bd.putOwn (h:Bd F W M tk) (i x:Int) (h0:0<=i) (hi:i<64) (hx:0<=x/\x<=255):Bd F (W.setCell ⟨F.ow,i.toNat,none⟩ (.int .u8 x)) { M with own:=bput M.own i x } tk:=by
 obtain ⟨d1,d2,d3,d4,d5,d6⟩:=h.nd.d
 obtain ⟨a1,a2,a3,a4,a5,a6⟩:=h.far (b:=F.ow) (o:=i.toNat) (v:=.int .u8 x) (Ne.symm d2) (Or.inr (Or.inr (Or.inl rfl)))
 exact ⟨a1,a2,a3,h.ra.same (by rw [zao];exact Nat.le_refl _) (λ_=>zae d4),h.ow.put i x h0 (by rw [h.fit.own];exact hi) hx,h.vi.same (by rw [zao];exact Nat.le_refl _) (λ_=>zae (Ne.symm d6)),a4,h.nd,
  { h.fit with own:=by rw [zbU];exact h.fit.own,main:=h.fit.main,aux:=h.fit.aux,p0:=h.fit.p0,p1:=h.fit.p1,tr:=h.fit.tr,tc:=h.fit.tc,s:=h.fit.s,fr:=h.fit.fr,«to»:=h.fit.to,m0:=h.fit.m0,m1:=h.fit.m1 },a5,a6,h.wd⟩
theorem Bd.putVideo (h:Bd F W M tk) (i x:Int) (h0:0<=i) (hi:i<256) (hx:0<=x/\x<=255):Bd F (W.setCell ⟨F.vi,i.toNat,none⟩ (.int .u8 x)) { M with video:=bput M.video i x } tk:=by
 obtain ⟨d1,d2,d3,d4,d5,d6⟩:=h.nd.d
 obtain ⟨a1,a2,a3,a4,a5,a6⟩:=h.far (b:=F.vi) (o:=i.toNat) (v:=.int .u8 x) (Ne.symm d3) (Or.inr (Or.inr (Or.inr rfl)))
 exact ⟨a1,a2,a3,h.ra.same (by rw [zao];exact Nat.le_refl _) (λ_=>zae d5),h.ow.same (by rw [zao];exact Nat.le_refl _) (λ_=>zae d6),h.vi.put i x h0 (by rw [h.fit.video];exact hi) hx,a4,h.nd,
  { h.fit with video:=by rw [zbU];exact h.fit.video,main:=h.fit.main,aux:=h.fit.aux,p0:=h.fit.p0,p1:=h.fit.p1,tr:=h.fit.tr,tc:=h.fit.tc,s:=h.fit.s,fr:=h.fit.fr,«to»:=h.fit.to,m0:=h.fit.m0,m1:=h.fit.m1 },a5,a6,h.wd⟩
abbrev Bt (F:Fx) (W w1:World):Prop:=Mv F.B F.T F.T W w1
theorem Bt.kept (h:Bt F W w0) (hz:F.B<=w0.heap.size) (hb:Below w0.heap.size w0 w1):Bt F W w1:=Mv.trans h (Mv.of_below hz hb)
theorem Bt.set (hn:F.nd) (h:Bt F W w0) (i:Nat) (v:Value):Bt F W (w0.setCell ⟨F.g,i,none⟩ v):=Mv.setCell h hn.lo.1 (Or.inl (Or.inl rfl)) v
theorem Bt.setR (hn:F.nd) (h:Bt F W w0) (i:Nat) (v:Value):Bt F W (w0.setCell ⟨F.ra,i,none⟩ v):=Mv.setCell h hn.lo.2.1 (Or.inl (Or.inr (Or.inl rfl))) v
theorem Bt.setO (hn:F.nd) (h:Bt F W w0) (i:Nat) (v:Value):Bt F W (w0.setCell ⟨F.ow,i,none⟩ v):=Mv.setCell h hn.lo.2.2.1 (Or.inl (Or.inr (Or.inr (Or.inl rfl)))) v
theorem Bt.setV (hn:F.nd) (h:Bt F W w0) (i:Nat) (v:Value):Bt F W (w0.setCell ⟨F.vi,i,none⟩ v):=Mv.setCell h hn.lo.2.2.2 (Or.inl (Or.inr (Or.inr (Or.inr rfl)))) v
theorem Bt.sets (hn:F.nd):∀ (vs:List Value) (i:Nat) (w0:World),Bt F W w0->Bt F W (w0.setCells F.g i vs)
 | [],i,w0,h=>h
 | v::vs,i,w0,h=>Bt.sets hn vs (i+1) _ (Bt.set hn h i v)
theorem Bt.refl (F:Fx) (W:World):Bt F W W:=Mv.refl _ _ _
def Fx.Tw (F:Fx) (W:World) (k:Nat):Prop:=F.T k \/ ∃ cs fr,W.heap[k]? = some (.cells cs 66 fr)
theorem zig {k:Nat} (e:w1.heap[k]? = W.heap[k]?) (h:F.Tw w1 k):F.Tw W k:=h.imp id (λ⟨cs,fr,x⟩=>⟨cs,fr,e ▸ x⟩)
def Bw (F:Fx) (W w1:World):Prop:=Mv F.B (F.Tw W) (F.Tw w1) W w1
theorem Bt.w (h:Bt F W w1):Bw F W w1:=⟨h.below,λk hk ht=>h.block k hk (λx=>ht (Or.inl x)),λk ht=>by
 rcases Nat.lt_or_ge k W.heap.size with hk|hk
 ·by_cases hT:F.T k
  ·exact Or.inl (Or.inl hT)
  ·exact Or.inl (zig (h.block k hk hT) ht)
 ·exact Or.inr hk⟩
theorem Bw.trans {w2:World} (h:Bw F W w1) (k:Bw F w1 w2):Bw F W w2:=Mv.trans h k
theorem Bw.of_below (hB:F.B<=W.heap.size) (hb:Below W.heap.size W w1):Bw F W w1:=Bt.w (Mv.of_below hB hb)
theorem Bw.grown (h:Bd F W M tk) (hg:W.grownBy w1 tk.v.ownBlock):Bw F W w1 :=
 have hne:∀ k,k<W.heap.size->¬ F.Tw W k->some k≠tk.v.ownBlock:=λk hk ht e=>ht (Or.inr (by
  rcases h.ws.2 with ⟨e0,_⟩|⟨g,cap,cur,e0,_,hx,_⟩
  ·rw [e0] at e;cases e
  ·rw [e0] at e;cases e;exact ⟨_,_,hx⟩))
 ⟨(Below.refl F.B W).grown hg h.big (λk hk=>(h.ws.lt k hk).1),λk hk ht=>hg.block k hk (hne k hk ht),λk ht=>by
   rcases Nat.lt_or_ge k W.heap.size with hk|hk
   ·by_cases hT:F.Tw W k
    ·exact Or.inl hT
    ·exact Or.inl (zig (hg.block k hk (hne k hk hT)) ht)
   ·exact Or.inr hk⟩
theorem endA {l:List Wt} (h:Bd F w1 M tk) (hl:l=[]) (ht:Bt F W w1):(∃ v,Bd F w1 M (tk.app l v))/\Bw F W w1:=⟨⟨tk.v,by rw [hl,Tk.app_nil];exact h⟩,ht.w⟩
theorem Bd.at (h:Bd F W M tk) (i:Nat) (v:Value) (e:(F.cells M tk)[i]? = some v):W.cell? ⟨F.g,i,none⟩=some v:=h.bx.at i v e
end
inductive Ct where
 | u8 (n:Int)
 | bo (b:Bool)
 | u16 (n:Int)
 | num (n:Int)
 | lst (l:List UInt8)
inductive Kd where
 | u8|bo|u16|num|lst
def Ct.kd:Ct->Kd
 | .u8 _=>.u8
 | .bo _=>.bo
 | .u16 _=>.u16
 | .num _=>.num
 | .lst _=>.lst
def Ct.ok:Ct->Prop
 | .u8 n=>0<=n/\n<=255
 | .bo _=>True
 | .u16 n=>0<=n/\n<=65535
 | .num n=>0<=n/\n<=4294967295
 | .lst l=>l.length<=65535
def b8 (n:Int):UInt8:=UInt8.ofNat n.toNat
theorem zgQ {n:Int} (h:0<=n/\n<=255):((b8 n).toNat:Int)=n:=by
 unfold b8
 rw [UInt8.toNat_ofNat']
 omega
theorem b8_of (c:UInt8):b8 (c.toNat:Int)=c:=by
 unfold b8
 simp
theorem u8_bd (c:UInt8):0<=(c.toNat:Int)/\(c.toNat:Int)<=255:=by
 have:=c.toNat_lt
 omega
def wW (n:Int):List UInt8:=[b8 (n/256),b8 (n%256)]
def wN (n:Int):List UInt8:=wW (n/65536)++wW (n%65536)
def Ct.wr:Ct->List UInt8
 | .u8 n=>[b8 n]
 | .bo b=>[if b then 1 else 0]
 | .u16 n=>wW n
 | .num n=>wN n
 | .lst l=>wW l.length++l
def rW:List UInt8->Option (Int × List UInt8)
 | a::b::l=>some ((a.toNat:Int)*256+b.toNat,l)
 | _=>none
def rN (l:List UInt8):Option (Int × List UInt8) :=
 match rW l with
 | none=>none
 | some (x,l1)=>match rW l1 with
  | none=>none
  | some (y,l2)=>some (x*65536+y,l2)
def rL (l:List UInt8):Option (List UInt8 × List UInt8) :=
 match rW l with
 | none=>none
 | some (x,l1)=>if x<=l1.length then some (l1.take x.toNat,l1.drop x.toNat) else none
def rdK:Kd->List UInt8->Option (Ct × List UInt8)
 | .u8,c::l=>some (.u8 c.toNat,l)
 | .u8,[]=>none
 | .bo,c::l=>if c.toNat<=1 then some (.bo (c.toNat == 1),l) else none
 | .bo,[]=>none
 | .u16,l=>(rW l).map (λp=>(.u16 p.1,p.2))
 | .num,l=>(rN l).map (λp=>(.num p.1,p.2))
 | .lst,l=>(rL l).map (λp=>(.lst p.1,p.2))
theorem rW_wW {n:Int} (h:0<=n/\n<=65535) (l:List UInt8):rW (wW n++l)=some (n,l):=by
 show some (((b8 (n/256)).toNat:Int)*256+((b8 (n%256)).toNat:Int),l)=_
 rw [zgQ (by omega),zgQ (by omega)]
 congr 2
 omega
theorem zdd {l l':List UInt8} {n:Int} (h:rW l=some (n,l')):l=wW n++l'/\0<=n/\n<=65535:=by
 unfold rW at h
 split at h
 ·rename_i a b t
  simp only [Option.some.injEq,Prod.mk.injEq] at h
  obtain ⟨rfl,rfl⟩:=h
  have ha:=u8_bd a
  have hb:=u8_bd b
  refine ⟨?_,by omega,by omega⟩
  show a::b::t=b8 _::b8 _::t
  rw [show ((a.toNat:Int)*256+b.toNat)/256=a.toNat by omega,show ((a.toNat:Int)*256+b.toNat)%256=b.toNat by omega,b8_of,b8_of]
 ·cases h
theorem rN_wN {n:Int} (h:0<=n/\n<=4294967295) (l:List UInt8):rN (wN n++l)=some (n,l):=by
 unfold rN wN
 rw [List.append_assoc,rW_wW (by omega)]
 simp only
 rw [rW_wW (by omega)]
 simp only
 congr 2
 omega
theorem zod {l l':List UInt8} {n:Int} (h:rN l=some (n,l')):l=wN n++l'/\0<=n/\n<=4294967295:=by
 unfold rN at h
 split at h
 ·cases h
 ·rename_i x l1 h1
  split at h
  ·cases h
  ·rename_i y l2 h2
   simp only [Option.some.injEq,Prod.mk.injEq] at h
   obtain ⟨rfl,rfl⟩:=h
   obtain ⟨e1,b1⟩:=zdd h1
   obtain ⟨e2,b2⟩:=zdd h2
   refine ⟨?_,by omega,by omega⟩
   unfold wN
   rw [List.append_assoc,show (x*65536+y)/65536=x by omega,show (x*65536+y)%65536=y by omega,<- e2,<- e1]
theorem rL_wL {k:List UInt8} (h:k.length<=65535) (l:List UInt8):rL ((wW k.length++k)++l)=some (k,l):=by
 unfold rL
 rw [List.append_assoc,rW_wW (by omega)]
 simp only
 rw [if_pos (by rw [List.length_append];omega)]
 simp
theorem zoe {l l' k:List UInt8} (h:rL l=some (k,l')):l=(wW k.length++k)++l'/\k.length<=65535:=by
 unfold rL at h
 split at h
 ·cases h
 ·rename_i x l1 h1
  split at h
  ·rename_i hx
   simp only [Option.some.injEq,Prod.mk.injEq] at h
   obtain ⟨rfl,rfl⟩:=h
   obtain ⟨e1,b1⟩:=zdd h1
   have hl:(l1.take x.toNat).length=x.toNat:=by rw [List.length_take];omega
   refine ⟨?_,by rw [hl];omega⟩
   rw [hl,List.append_assoc,List.take_append_drop,show ((x.toNat:Nat):Int)=x by omega,<- e1]
  ·cases h
theorem zof {c:Ct} (h:c.ok) (l:List UInt8):rdK c.kd (c.wr++l)=some (c,l):=by
 cases c with
 | u8 n=>show some (Ct.u8 ((b8 n).toNat:Int),l)=_;rw [zgQ h]
 | bo b=>cases b <;> rfl
 | u16 n=>simp only [Ct.kd,Ct.wr,rdK];rw [rW_wW h];rfl
 | num n=>simp only [Ct.kd,Ct.wr,rdK];rw [rN_wN h];rfl
 | lst k=>simp only [Ct.kd,Ct.wr,rdK];rw [rL_wL h];rfl
theorem zih {k:Kd} {c:Ct} {l l':List UInt8} (h:rdK k l=some (c,l')):l=c.wr++l'/\c.ok/\c.kd=k:=by
 cases k with
 | u8 =>
  cases l with
  | nil=>cases h
  | cons x t =>
   simp only [rdK,Option.some.injEq,Prod.mk.injEq] at h
   obtain ⟨rfl,rfl⟩:=h
   exact ⟨by show x::t=b8 _::t;rw [b8_of],u8_bd x,rfl⟩
 | bo =>
  cases l with
  | nil=>cases h
  | cons x t =>
   simp only [rdK] at h
   split at h
   ·rename_i hx
    simp only [Option.some.injEq,Prod.mk.injEq] at h
    obtain ⟨rfl,rfl⟩:=h
    refine ⟨?_,trivial,rfl⟩
    have hc:x=0 \/ x=1:=by
     have:x.toNat=0 \/ x.toNat=1:=by omega
     rcases this with e|e
     ·exact Or.inl (UInt8.toNat_inj.1 e)
     ·exact Or.inr (UInt8.toNat_inj.1 e)
    rcases hc with rfl|rfl <;> rfl
   ·cases h
 | u16 =>
  simp only [rdK,Option.map_eq_some_iff,Prod.mk.injEq] at h
  obtain ⟨⟨n,t⟩,h1,rfl,rfl⟩:=h
  obtain ⟨e,b⟩:=zdd h1
  exact ⟨e,b,rfl⟩
 | num =>
  simp only [rdK,Option.map_eq_some_iff,Prod.mk.injEq] at h
  obtain ⟨⟨n,t⟩,h1,rfl,rfl⟩:=h
  obtain ⟨e,b⟩:=zod h1
  exact ⟨e,b,rfl⟩
 | lst =>
  simp only [rdK,Option.map_eq_some_iff,Prod.mk.injEq] at h
  obtain ⟨⟨n,t⟩,h1,rfl,rfl⟩:=h
  obtain ⟨e,b⟩:=zoe h1
  exact ⟨e,b,rfl⟩
/-! ### one behind the other -/
def wrL:List Ct->List UInt8
 | []=>[]
 | c::xs=>c.wr++wrL xs
theorem zbl:∀ a b:List Ct,wrL (a++b)=wrL a++wrL b
 | [],b=>rfl
 | c::a,b=>by simp only [List.cons_append,wrL,zbl a b,List.append_assoc]
def rdL:List Kd->List UInt8->Option (List Ct × List UInt8)
 | [],l=>some ([],l)
 | k::ks,l=>match rdK k l with
  | none=>none
  | some (c,l1)=>match rdL ks l1 with
   | none=>none
   | some (xs,l2)=>some (c::xs,l2)
theorem zde:∀ (a b:List Kd) (l:List UInt8),rdL (a++b) l=(match rdL a l with|none=>none|some (xs,l1)=>match rdL b l1 with|none=>none|some (ys,l2)=>some (xs++ys,l2))
 | [],b,l=>by
  show rdL b l=match rdL b l with|none=>none|some (ys,l2)=>some ([]++ys,l2)
  cases rdL b l <;> rfl
 | k::a,b,l=>by
  simp only [List.cons_append,rdL]
  cases h:rdK k l with
  | none=>rfl
  | some p =>
   obtain ⟨c,l1⟩:=p
   simp only
   rw [zde a b l1]
   cases h2:rdL a l1 with
   | none=>rfl
   | some q =>
    obtain ⟨xs,l2⟩:=q
    simp only
    cases rdL b l2 with
    | none=>rfl
    | some r=>rfl
theorem zmv:∀ (xs:List Ct) (l:List UInt8),(∀ c∈xs,c.ok)->rdL (xs.map Ct.kd) (wrL xs++l)=some (xs,l)
 | [],l,h=>rfl
 | c::xs,l,h=>by
  simp only [List.map_cons,rdL,wrL,List.append_assoc]
  rw [zof (h c List.mem_cons_self)]
  simp only
  rw [zmv xs l (λx hx=>h x (List.mem_cons_of_mem _ hx))]
theorem zbw:∀ (ks:List Kd) (l l':List UInt8) (xs:List Ct),rdL ks l=some (xs,l')->l=wrL xs++l'/\(∀ c∈xs,c.ok)/\xs.map Ct.kd=ks
 | [],l,l',xs,h=>by
  simp only [rdL,Option.some.injEq,Prod.mk.injEq] at h
  obtain ⟨rfl,rfl⟩:=h
  exact ⟨rfl,(λc hc=>by cases hc),rfl⟩
 | k::ks,l,l',xs,h=>by
  simp only [rdL] at h
  split at h
  ·cases h
  ·rename_i c l1 h1
   split at h
   ·cases h
   ·rename_i ys l2 h2
    simp only [Option.some.injEq,Prod.mk.injEq] at h
    obtain ⟨rfl,rfl⟩:=h
    obtain ⟨e1,o1,k1⟩:=zih h1
    obtain ⟨e2,o2,k2⟩:=zbw ks l1 l2 ys h2
    refine ⟨by rw [e1,e2];simp only [wrL,List.append_assoc],λx hx=>?_,by simp only [List.map_cons,k1,k2]⟩
    rcases List.mem_cons.1 hx with rfl|hx
    ·exact o1
    ·exact o2 x hx
theorem zii {ks:List Kd} {l l':List UInt8} {xs:List Ct} (h:rdL ks l=some (xs,l')):xs.length=ks.length:=by
 have:=(zbw ks l l' xs h).2.2
 rw [<- this,List.length_map]
theorem zci {K:List Kd} {n k:Nat} {l l1:List UInt8} {xs:List Ct} (h:rdL (K.take n) l=some (xs,l1)) :
 (rdL ((K.drop n).take k) l1=none->rdL K l=none) /\ ∀ ys l2,rdL ((K.drop n).take k) l1=some (ys,l2)->rdL (K.take (n+k)) l=some (xs++ys,l2):=by
 have e:K.take (n+k)=K.take n++(K.drop n).take k:=by rw [List.take_add]
 refine ⟨λhn=>?_,λys l2 hy=>?_⟩
 ·have e2:K=K.take n++((K.drop n).take k++(K.drop n).drop k):=by rw [List.take_append_drop,List.take_append_drop]
  rw [e2,zde,h]
  simp only
  rw [zde,hn]
 ·rw [e,zde,h]
  simp only
  rw [hy]
def setAll (cs:List Ct):List Nat->List Ct->List Ct
 | i::is,x::xs=>setAll (cs.set i x) is xs
 | _,_=>cs
theorem zej:∀ (cs:List Ct) (a b:List Nat) (xs ys:List Ct),xs.length=a.length->setAll cs (a++b) (xs++ys)=setAll (setAll cs a xs) b ys
 | cs,[],b,[],ys,h=>rfl
 | cs,i::a,b,x::xs,ys,h=>by
  simp only [List.cons_append,setAll]
  exact zej _ a b xs ys (by simpa using h)
 | cs,[],b,x::xs,ys,h=>by simp at h
 | cs,i::a,b,[],ys,h=>by simp at h
/-! ### a machine's -/
def cpuC (c:C.Cpu):List Ct:=[.u16 (c.r 0),.u16 (c.r 1),.u16 (c.r 2),.u16 (c.r 3),.u16 (c.r 4),.u16 (c.r 5),.u16 (c.r 6),.u16 (c.r 7),.u16 c.PC,.bo c.Z,.bo c.N,.bo c.C,.bo c.V,.bo c.May,.bo c.Waits]
def machC (M:Mach):List Ct:=cpuC M.main++(cpuC M.aux++([.lst M.mrom,.lst M.arom,.lst M.ram,.lst M.own,.lst M.video] ++
 [.u8 M.p0.d,.bo M.p0.l,.u8 M.p0.s,.u8 M.p1.d,.bo M.p1.l,.u8 M.p1.s,.u16 M.t.r,.u16 M.t.c,.bo M.t.on,.bo M.t.g,
 .u16 M.s.a.p,.u16 M.s.a.c,.u8 M.s.a.l,.bo M.s.a.h,.u16 M.s.a.n,.u16 M.s.b.p,.u16 M.s.b.c,.u8 M.s.b.l,.bo M.s.b.h,.u16 M.s.b.n,.u16 M.s.c.p,.u16 M.s.c.c,.u8 M.s.c.l,.bo M.s.c.h,.u16 M.s.c.n,.num M.s.w,
 .num M.b.l,.num M.b.a,.bo M.b.g,.num M.b.f,.u16 M.fr,.u16 M.to,.bo M.granted,.bo M.held,.u8 M.m0,.u8 M.m1,.bo M.rung,.num M.clock,.num M.mready,.num M.aready]))
def svI:List Nat:=[0,1,2,3,4,5,6,7,8,9,10,11,12,13,14,15,16,17,18,19,20,21,22,23,24,25,26,27,28,29,30,31,32,33,34,35,37,36,38,40,39,41,42,43,44,
 45,46,49,47,48,50,51,54,52,53,55,56,59,57,58,60,61,62,64,63,65,66,69,70,67,68,71,72,73,74]
def svT:List Kd:=[.u16,.u16,.u16,.u16,.u16,.u16,.u16,.u16,.u16,.bo,.bo,.bo,.bo,.bo,.bo,.u16,.u16,.u16,.u16,.u16,.u16,.u16,.u16,.u16,.bo,.bo,.bo,.bo,.bo,.bo,.lst,.lst,.lst,.lst,.lst,
 .u8,.bo,.u8,.u8,.bo,.u8,.u16,.u16,.bo,.bo,.u16,.u16,.u8,.bo,.u16,.u16,.u16,.u8,.bo,.u16,.u16,.u16,.u8,.bo,.u16,.num,.num,.num,.bo,.num,.u16,.u16,.bo,.bo,.u8,.u8,.bo,.num,.num,.num]
def svK:List Kd:=svI.map (λi=>svT.getD i .u8)
def svX (M:Mach):List Ct:=svI.map (λi=>(machC M).getD i (.u8 0))
def enc (M:Mach):List UInt8:=wrL (svX M)
theorem zog (M:Mach):(svX M).map Ct.kd=svK:=rfl
theorem zc3 (M:Mach) (n k:Nat):wrL ((svX M).take n)++wrL (((svX M).drop n).take k)=wrL ((svX M).take (n+k)):=by
 rw [<- zbl,List.take_add]
end Go.Proofs.YtbennamieealbaaGreatDoor
