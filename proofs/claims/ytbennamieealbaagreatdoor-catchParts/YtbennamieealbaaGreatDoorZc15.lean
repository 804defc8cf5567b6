/-
  Parts of a proof, joined.
-/
import Derived.Test.YtbennamieealbaaGreatDoorZc14
import Derived.Test.YtbennamieealbaaGreatDoorZc07
import Derived.Deep.RegionWith
set_option linter.unusedVariables false
set_option maxRecDepth 100000
set_option maxHeartbeats 800000
namespace Go.Proofs.YtbennamieealbaaGreatDoor
open Go.ChangeShapes Go.WideShapes Go.ChangeAt Go.RowKit
theorem Bx.same {W w1:World} {b:Nat} {L:List Value} (h:Bx W b L) (hz:W.heap.size<=w1.heap.size) (e:w1.heap[b]? = W.heap[b]?):Bx w1 b L :=
 ⟨Nat.lt_of_lt_of_le h.z hz,λj v hj=>(World.cell?_of_block (w:=W) e).trans (h.c j v hj),λo=>(World.frozen?_of_block (w:=W) e).trans (h.f o)⟩
abbrev pt (g o:Nat):Value:=.pointer (some ⟨g,o,none⟩)
abbrev mval (n g o:Nat):Value:=.func (.func n) #[pt g o] #[]
abbrev fval (n:Nat) (cs:Array Value):Value:=.func (.func n) #[] cs
def Rw (W:World) (v:Value) (k:Nat) (l:List UInt8):Prop:=(v = .slice none 0 0/\l=[]) \/ ∃ cap,v = .slice (some ⟨k,0,none⟩) l.length cap/\l.length<=cap/\Bx W k (bcs l)
theorem Rw.same {W w1:World} {v:Value} {k:Nat} {l:List UInt8} (h:Rw W v k l) (hz:W.heap.size<=w1.heap.size) (e:k<W.heap.size->w1.heap[k]? = W.heap[k]?):Rw w1 v k l:=by
 rcases h with h|⟨cap,h1,h2,h3⟩
 ·exact Or.inl h
 ·exact Or.inr ⟨cap,h1,h2,h3.same hz (e h3.z)⟩
theorem Rw.same2 {W w1:World} {v:Value} {k:Nat} {l:List UInt8} (h:Rw W v k l) (hz:W.heap.size<=w1.heap.size) (e:∀ j,v.ownBlock=some j->j<W.heap.size->w1.heap[j]? = W.heap[j]?):Rw w1 v k l:=by
 rcases h with h|⟨cap,h1,h2,h3⟩
 ·exact Or.inl h
 ·exact Or.inr ⟨cap,h1,h2,h3.same hz (e k (by rw [h1];rfl) h3.z)⟩
theorem Rw.lt {W:World} {v:Value} {k:Nat} {l:List UInt8} (h:Rw W v k l):∀ j,v.ownBlock=some j->j<W.heap.size:=λj e=>by
 rcases h with ⟨h,_⟩|⟨cap,h1,h2,h3⟩
 ·rw [h] at e;cases e
 ·rw [h1] at e;cases e;exact h3.z
theorem Rw.slice {W:World} {v:Value} {k:Nat} {l:List UInt8} (h:Rw W v k l):sliceAt W v l:=by
 rcases h with ⟨rfl,rfl⟩|⟨cap,h1,h2,h3⟩
 ·exact Or.inl ⟨none,0,rfl,rfl⟩
 ·refine Or.inr ⟨k,0,cap,h1,h2,h3.z,λj c hj=>?_⟩
  rw [Nat.zero_add]
  refine h3.at j _ ?_
  simp [bcs,hj]
theorem Rw.some {W:World} {v:Value} {k:Nat} {l:List UInt8} (h:Rw W v k l) (hl:0<l.length):∃ cap,v = .slice (some ⟨k,0,none⟩) l.length cap/\l.length<=cap/\Bx W k (bcs l):=by
 rcases h with ⟨_,rfl⟩|h
 ·simp at hl
 ·exact h
theorem zly (l:List UInt8):(bcs l).length=l.length:=by simp [bcs]
theorem zc8 (l:List UInt8) (i:Int):0<=bget l i/\bget l i<=255:=by
 unfold bget
 have:=(l.getD i.toNat 0).toNat_lt
 omega
theorem zhD (l:List UInt8) (i:Int) (h0:0<=i) (h:i<l.length):(bcs l)[i.toNat]? = some (.int .u8 (bget l i)):=by
 have hi:i.toNat<l.length:=by omega
 simp [bcs,bget,List.getD,List.getElem?_eq_getElem hi]
theorem zqr (l:List UInt8) (i x:Int) (hx:0<=x/\x<=255):(bcs l).set i.toNat (.int .u8 x)=bcs (bput l i x):=by
 unfold bcs bput
 rw [List.map_set]
 congr 2
 rw [UInt8.toNat_ofNat']
 omega
theorem zch (l:List UInt8) (i x:Int):(bput l i x).length=l.length:=by simp [bput]
structure Env where
 mb:Nat
 q0:Nat
 w0:Nat
 q1:Nat
 w1:Nat
 h2:Nat
 h3:Nat
 h10:Nat
 h11:Nat
 h12:Nat
 h13:Nat
 ab:Nat
 sb:Nat->Nat
 sa:Nat->Nat
structure Fx where
 B:Nat
 g:Nat
 mr:Nat
 ar:Nat
 ra:Nat
 ow:Nat
 vi:Nat
 S:Sl
 E:Env
def Fx.T (F:Fx) (x:Nat):Prop:=x=F.g \/ x=F.ra \/ x=F.ow \/ x=F.vi
inductive Fx.has (F : Fx) : Nat -> Value -> Prop
 | mb:F.has F.E.mb (pt F.g 0)
 | q0:F.has F.E.q0 (pt F.g 0)
 | w0:F.has F.E.w0 (.int .i64 0)
 | q1:F.has F.E.q1 (pt F.g 0)
 | w1:F.has F.E.w1 (.int .i64 1)
 | h2:F.has F.E.h2 (pt F.g 41)
 | h3:F.has F.E.h3 (pt F.g 41)
 | h10:F.has F.E.h10 (pt F.g 65)
 | h11:F.has F.E.h11 (pt F.g 65)
 | h12:F.has F.E.h12 (pt F.g 66)
 | h13:F.has F.E.h13 (pt F.g 66)
 | ab:F.has F.E.ab (pt F.g 0)
 | sb (i:Nat) (h:i<24):F.has (F.E.sb i) (pt F.g 0)
 | sa (i:Nat) (h:i<24):F.has (F.E.sa i) (.int .i64 i)
def Fx.rdM (F:Fx) (i:Nat):Value :=
 match i with
 | 0=>fval 215 #[pt F.E.q0 0,pt F.E.w0 0]
 | 1=>fval 215 #[pt F.E.q1 0,pt F.E.w1 0]
 | 4=>mval 166 F.g 0
 | 6=>fval 168 #[pt F.E.mb 0]
 | 7=>fval 169 #[pt F.E.mb 0]
 | 8=>mval 170 F.g 0
 | 16=>mval 173 F.g 0
 | 17=>fval 175 #[pt F.E.mb 0]
 | _=>.nilFunc
def Fx.wrM (F:Fx) (i:Nat):Value :=
 match i with
 | 0=>mval 163 F.g 0
 | 2=>fval 218 #[pt F.E.h2 0]
 | 3=>fval 219 #[pt F.E.h3 0]
 | 4=>mval 167 F.g 0
 | 8=>mval 171 F.g 0
 | 10=>fval 218 #[pt F.E.h10 0]
 | 11=>fval 219 #[pt F.E.h11 0]
 | 12=>fval 218 #[pt F.E.h12 0]
 | 13=>fval 219 #[pt F.E.h13 0]
 | 14=>mval 172 F.g 0
 | 16=>mval 174 F.g 0
 | 17=>mval 176 F.g 0
 | _=>.nilFunc
def Fx.rdA (F:Fx) (i:Nat):Value:=if i=24 then mval 177 F.g 0 else .nilFunc
def Fx.wrA (F:Fx) (i:Nat):Value:=if i<24 then fval 222 #[pt (F.E.sb i) 0,pt (F.E.sa i) 0] else if i=24 then fval 178 #[pt F.E.ab 0] else .nilFunc
def portsN (r w:Nat->Value):Nat->List Value
 | 0=>[]
 | n+1=>portsN r w n++[r n,w n]
theorem zaD (r w:Nat->Value):∀ n,(portsN r w n).length=2*n
 | 0=>rfl
 | n+1=>by rw [portsN,List.length_append,zaD r w n];simp;omega
theorem zcN (r w:Nat->Value):∀ n i,i<n->(portsN r w n)[2*i]? = some (r i)/\(portsN r w n)[2*i+1]? = some (w i)
 | 0,i,h=>by omega
 | n+1,i,h=>by
  rw [portsN]
  by_cases e:i<n
  ·obtain ⟨h1,h2⟩:=zcN r w n i e
   rw [List.getElem?_append_left (by rw [zaD];omega),List.getElem?_append_left (by rw [zaD];omega)]
   exact ⟨h1,h2⟩
  ·obtain rfl:i=n:=by omega
   rw [List.getElem?_append_right (by rw [zaD];omega),List.getElem?_append_right (by rw [zaD];omega),zaD]
   exact ⟨by simp,by rw [show 2*i+1-2*i=1 by omega];rfl⟩
def Fx.sideM (F:Fx):List Value:=[pt F.g 30,mval 87 F.g 0]++portsN F.rdM F.wrM 32
def Fx.sideA (F:Fx):List Value:=[pt F.g 31,mval 89 F.g 0]++portsN F.rdA F.wrA 32
def Fx.cells (F:Fx) (M:Mach) (tk:Tk):List Value:=machL M F.S++([.int .i64 tk.n,tk.v]++(F.sideM++F.sideA))
theorem Fx.len (F:Fx) (M:Mach) (tk:Tk):(F.cells M tk).length=209:=by
 unfold Fx.cells Fx.sideM Fx.sideA
 simp only [List.length_append,zaD,zae]
 rfl
theorem zpA (A B C D:List Value) (a b c n:Nat) (v:Value) (hA:A.length=a) (hB:B.length=b) (hC:C.length=c) (h:D[n]? = some v) (E:List Value):(A++(B++((C++D)++E)))[a+b+c+n]? = some v:=by
 have hn:=(List.getElem?_eq_some_iff.1 h).1
 rw [List.getElem?_append_right (by omega),List.getElem?_append_right (by omega),List.getElem?_append_left (by simp;omega),List.getElem?_append_right (by omega),<- h]
 congr 1
 omega
theorem zip (A B C D E:List Value) (a b c e n:Nat) (v:Value) (hA:A.length=a) (hB:B.length=b) (hE:E.length=e) (hC:C.length=c) (h:D[n]? = some v):(A++(B++(E++(C++D))))[a+b+e+c+n]? = some v:=by
 rw [List.getElem?_append_right (by omega),List.getElem?_append_right (by omega),List.getElem?_append_right (by omega),List.getElem?_append_right (by omega),<- h]
 congr 1
 omega
theorem Fx.portM (F:Fx) (M:Mach) (tk:Tk) (i:Nat) (h:i<32):(F.cells M tk)[79+2*i]? = some (F.rdM i)/\(F.cells M tk)[79+2*i+1]? = some (F.wrM i):=by
 obtain ⟨h1,h2⟩:=zcN F.rdM F.wrM 32 i h
 exact ⟨zpA _ _ _ _ 75 2 2 (2*i) _ (zae M F.S) rfl rfl h1 F.sideA,zpA _ _ _ _ 75 2 2 (2*i+1) _ (zae M F.S) rfl rfl h2 F.sideA⟩
theorem Fx.portA (F:Fx) (M:Mach) (tk:Tk) (i:Nat) (h:i<32):(F.cells M tk)[145+2*i]? = some (F.rdA i)/\(F.cells M tk)[145+2*i+1]? = some (F.wrA i):=by
 obtain ⟨h1,h2⟩:=zcN F.rdA F.wrA 32 i h
 have hs:F.sideM.length=66:=by unfold Fx.sideM;rw [List.length_append,zaD];rfl
 exact ⟨zip _ _ _ _ F.sideM 75 2 2 66 (2*i) _ (zae M F.S) rfl hs rfl h1,zip _ _ _ _ F.sideM 75 2 2 66 (2*i+1) _ (zae M F.S) rfl hs rfl h2⟩
structure Fx.nd (F : Fx) : Prop where
 lo:F.B<=F.g/\F.B<=F.ra/\F.B<=F.ow/\F.B<=F.vi
 d:F.g≠F.ra/\F.g≠F.ow/\F.g≠F.vi/\F.ra≠F.ow/\F.ra≠F.vi/\F.ow≠F.vi
 mr:¬ F.T F.mr
 ar:¬ F.T F.ar
 env:∀ x v,F.has x v->¬ F.T x
def Fx.off (F:Fx) (k:Nat):Prop:=¬ F.T k/\F.S.mr.ownBlock≠some k/\F.S.ar.ownBlock≠some k /\ ∀ x u,F.has x u->x≠k
structure Bd (F : Fx) (W : World) (M : Mach) (tk : Tk) : Prop where
 bx:Bx W F.g (F.cells M tk)
 mr:Rw W F.S.mr F.mr M.mrom
 ar:Rw W F.S.ar F.ar M.arom
 ra:Rw W F.S.ra F.ra M.ram
 ow:Rw W F.S.ow F.ow M.own
 vi:Rw W F.S.vi F.vi M.video
 env:∀ x v,F.has x v->x<W.heap.size/\W.cell? ⟨x,0,none⟩=some v
 nd:F.nd
 fit:M.fit
 big:F.B<=W.heap.size
 ws:W.ownsRow F.B 66 3 tk.v tk.l.length (wcs tk.l)
 wd:∀ k,tk.v.ownBlock=some k->F.off k
theorem zaF {w w':World} {B:Nat} {t:TypeId} {z:Nat} {v:Value} {n:Nat} {xs:List Value} (h:w.ownsRow B t z v n xs) (e:∀ k,v.ownBlock=some k->w'.heap[k]? = w.heap[k]?):w'.ownsRow B t z v n xs:=by
 refine ⟨h.1,?_⟩
 rcases h.2 with h2|⟨g,cap,cur,rfl,hb,hg,r⟩
 ·exact Or.inl h2
 ·exact Or.inr ⟨g,cap,cur,rfl,hb,(e g rfl).trans hg,r⟩
section
variable {F : Fx} {W w0 w1 : World} {M M' : Mach} {tk tk' : Tk}
theorem Bd.kept (h:Bd F W M tk) (hb:Below W.heap.size W w1):Bd F w1 M tk :=
 ⟨h.bx.kept hb,h.mr.same hb.size (λhk=>hb.block _ hk),h.ar.same hb.size (λhk=>hb.block _ hk),h.ra.same hb.size (λhk=>hb.block _ hk),h.ow.same hb.size (λhk=>hb.block _ hk),h.vi.same hb.size (λhk=>hb.block _ hk),
   λx v hx=>⟨Nat.lt_of_lt_of_le (h.env x v hx).1 hb.size,(hb.cell (p:=⟨x,0,none⟩) (h.env x v hx).1).trans (h.env x v hx).2⟩,h.nd,h.fit,Nat.le_trans h.big hb.size,zaF h.ws (λk hk=>hb.block k (h.ws.lt k hk).2),h.wd⟩
theorem Bd.over (h:Bd F W M tk) (o:Obj):Bd F (W.alloc o) M tk:=h.kept (stA (st0 W) o)
theorem Bd.drew (h:Bd F W M tk):Bd F W.drew M tk:=h.kept (st0 W).drew
theorem Bd.drewN (h:Bd F W M tk) (n:Nat):Bd F (W.drewN n) M tk:=h.kept (Bl.drewN (st0 W) n)
theorem zab {W:World} {b o x:Nat} {v:Value} (h:x≠b):(W.setCell ⟨b,o,none⟩ v).heap[x]? = W.heap[x]?:=Below.heap_setCell _ _ _ _ (λe=>h e)
theorem zas {W:World} {a:Addr} {v:Value}:(W.setCell a v).heap.size=W.heap.size:=by simp [World.setCell]
theorem Bd.put (h:Bd F W M tk) (i:Nat) (v:Value) (hi:i<209) (hc:(F.cells M tk).set i v=F.cells M' tk') (hm:M'.mrom=M.mrom/\M'.arom=M.arom/\M'.ram=M.ram/\M'.own=M.own/\M'.video=M.video) (hf:M'.fit) (hk:tk'.v=tk.v/\tk'.l=tk.l:=by exact ⟨rfl,rfl⟩):Bd F (W.setCell ⟨F.g,i,none⟩ v) M' tk':=by
 obtain ⟨m1,m2,m3,m4,m5⟩:=hm
 obtain ⟨d1,d2,d3,_⟩:=h.nd.d
 have n1:=λe=>h.nd.mr (Or.inl e)
 have n2:=λe=>h.nd.ar (Or.inl e)
 refine ⟨hc ▸ h.bx.set i v (by rw [F.len];exact hi),?_,?_,?_,?_,?_,λx u hx=>?_,h.nd,hf,by rw [zas];exact h.big,by rw [hk.1,hk.2];exact zaF h.ws (λk hk=>zab (λe=>(h.wd k hk).1 (Or.inl e))),by rw [hk.1];exact h.wd⟩
 ·rw [m1];exact h.mr.same (by rw [zas];exact Nat.le_refl _) (λ_=>zab n1)
 ·rw [m2];exact h.ar.same (by rw [zas];exact Nat.le_refl _) (λ_=>zab n2)
 ·rw [m3];exact h.ra.same (by rw [zas];exact Nat.le_refl _) (λ_=>zab (Ne.symm d1))
 ·rw [m4];exact h.ow.same (by rw [zas];exact Nat.le_refl _) (λ_=>zab (Ne.symm d2))
 ·rw [m5];exact h.vi.same (by rw [zas];exact Nat.le_refl _) (λ_=>zab (Ne.symm d3))
 ·have hn:x≠F.g:=λe=>h.nd.env x u hx (Or.inl e)
  obtain ⟨e1,e2⟩:=h.env x u hx
  exact ⟨by rw [zas];exact e1,(World.cell?_of_block (w:=W) (zab hn)).trans e2⟩
theorem zad {b x:Nat} (h:x≠b):∀ (vs:List Value) (o:Nat) (W:World),(W.setCells b o vs).heap[x]? = W.heap[x]?
 | [],o,W=>rfl
 | v::vs,o,W=>(zad h vs (o+1) _).trans (zab h)
theorem zaQ (b:Nat):∀ (vs:List Value) (o:Nat) (W:World),(W.setCells b o vs).heap.size=W.heap.size
 | [],o,W=>rfl
 | v::vs,o,W=>(zaQ b vs (o+1) _).trans zas
theorem Bd.puts (h:Bd F W M tk) (i:Nat) (vs:List Value) (hi:i+vs.length<=209) (hc:putL (F.cells M tk) i vs=F.cells M' tk') (hm:M'.mrom=M.mrom/\M'.arom=M.arom/\M'.ram=M.ram/\M'.own=M.own/\M'.video=M.video) (hf:M'.fit) (hk:tk'.v=tk.v/\tk'.l=tk.l:=by exact ⟨rfl,rfl⟩):Bd F (W.setCells F.g i vs) M' tk':=by
 obtain ⟨m1,m2,m3,m4,m5⟩:=hm
 obtain ⟨d1,d2,d3,_⟩:=h.nd.d
 have n1:=λe=>h.nd.mr (Or.inl e)
 have n2:=λe=>h.nd.ar (Or.inl e)
 have hz:W.heap.size<=(W.setCells F.g i vs).heap.size:=Nat.le_of_eq (zaQ _ _ _ _).symm
 refine ⟨hc ▸ h.bx.puts i vs (by rw [F.len];exact hi),?_,?_,?_,?_,?_,λx u hx=>?_,h.nd,hf,Nat.le_trans h.big hz,by rw [hk.1,hk.2];exact zaF h.ws (λk hk=>zad (λe=>(h.wd k hk).1 (Or.inl e)) _ _ _),by rw [hk.1];exact h.wd⟩
 ·rw [m1];exact h.mr.same hz (λ_=>zad n1 _ _ _)
 ·rw [m2];exact h.ar.same hz (λ_=>zad n2 _ _ _)
 ·rw [m3];exact h.ra.same hz (λ_=>zad (Ne.symm d1) _ _ _)
 ·rw [m4];exact h.ow.same hz (λ_=>zad (Ne.symm d2) _ _ _)
 ·rw [m5];exact h.vi.same hz (λ_=>zad (Ne.symm d3) _ _ _)
 ·have hn:x≠F.g:=λe=>h.nd.env x u hx (Or.inl e)
  obtain ⟨e1,e2⟩:=h.env x u hx
  exact ⟨Nat.lt_of_lt_of_le e1 hz,(World.cell?_of_block (w:=W) (zad hn _ _ _)).trans e2⟩
theorem Rw.put {v:Value} {k:Nat} {l:List UInt8} (h:Rw W v k l) (i x:Int) (h0:0<=i) (hi:i<l.length) (hx:0<=x/\x<=255):Rw (W.setCell ⟨k,i.toNat,none⟩ (.int .u8 x)) v k (bput l i x):=by
 obtain ⟨cap,h1,h2,h3⟩:=h.some (by omega)
 refine Or.inr ⟨cap,by rw [zch];exact h1,by rw [zch];exact h2,?_⟩
 rw [<- zqr l i x hx]
 exact h3.set _ _ (by rw [zly];omega)
theorem Bd.far (h:Bd F W M tk) {b o:Nat} {v:Value} (hg:b≠F.g) (hT:F.T b):Bx (W.setCell ⟨b,o,none⟩ v) F.g (F.cells M tk)/\Rw (W.setCell ⟨b,o,none⟩ v) F.S.mr F.mr M.mrom/\Rw (W.setCell ⟨b,o,none⟩ v) F.S.ar F.ar M.arom /\
 (∀ x u,F.has x u->x<(W.setCell ⟨b,o,none⟩ v).heap.size/\(W.setCell ⟨b,o,none⟩ v).cell? ⟨x,0,none⟩=some u)/\F.B<=(W.setCell ⟨b,o,none⟩ v).heap.size/\(W.setCell ⟨b,o,none⟩ v).ownsRow F.B 66 3 tk.v tk.l.length (wcs tk.l):=by
 refine ⟨h.bx.far hg v,h.mr.same (by rw [zas];exact Nat.le_refl _) (λ_=>zab (λe=>h.nd.mr (by rw [e];exact hT))),h.ar.same (by rw [zas];exact Nat.le_refl _) (λ_=>zab (λe=>h.nd.ar (by rw [e];exact hT))),λx u hx=>?_,by rw [zas];exact h.big,zaF h.ws (λk hk=>zab (λe=>(h.wd k hk).1 (by rw [e];exact hT)))⟩
 have hn:x≠b:=λe=>h.nd.env x u hx (by rw [e];exact hT)
 obtain ⟨e1,e2⟩:=h.env x u hx
 exact ⟨by rw [zas];exact e1,(World.cell?_of_block (w:=W) (zab hn)).trans e2⟩
theorem Bd.putRam (h:Bd F W M tk) (i x:Int) (h0:0<=i) (hi:i<128) (hx:0<=x/\x<=255):Bd F (W.setCell ⟨F.ra,i.toNat,none⟩ (.int .u8 x)) { M with ram:=bput M.ram i x } tk:=by
 obtain ⟨d1,d2,d3,d4,d5,d6⟩:=h.nd.d
 obtain ⟨a1,a2,a3,a4,a5,a6⟩:=h.far (b:=F.ra) (o:=i.toNat) (v:=.int .u8 x) (Ne.symm d1) (Or.inr (Or.inl rfl))
 exact ⟨a1,a2,a3,h.ra.put i x h0 (by rw [h.fit.ram];exact hi) hx,h.ow.same (by rw [zas];exact Nat.le_refl _) (λ_=>zab (Ne.symm d4)),h.vi.same (by rw [zas];exact Nat.le_refl _) (λ_=>zab (Ne.symm d5)),a4,h.nd,
  { h.fit with ram:=by rw [zch];exact h.fit.ram,main:=h.fit.main,aux:=h.fit.aux,p0:=h.fit.p0,p1:=h.fit.p1,tr:=h.fit.tr,tc:=h.fit.tc,s:=h.fit.s,fr:=h.fit.fr,«to»:=h.fit.to,m0:=h.fit.m0,m1:=h.fit.m1 },a5,a6,h.wd⟩
theorem Bd.putOwn (h:Bd F W M tk) (i x:Int) (h0:0<=i) (hi:i<64) (hx:0<=x/\x<=255):Bd F (W.setCell ⟨F.ow,i.toNat,none⟩ (.int .u8 x)) { M with own:=bput M.own i x } tk:=by
 obtain ⟨d1,d2,d3,d4,d5,d6⟩:=h.nd.d
 obtain ⟨a1,a2,a3,a4,a5,a6⟩:=h.far (b:=F.ow) (o:=i.toNat) (v:=.int .u8 x) (Ne.symm d2) (Or.inr (Or.inr (Or.inl rfl)))
 exact ⟨a1,a2,a3,h.ra.same (by rw [zas];exact Nat.le_refl _) (λ_=>zab d4),h.ow.put i x h0 (by rw [h.fit.own];exact hi) hx,h.vi.same (by rw [zas];exact Nat.le_refl _) (λ_=>zab (Ne.symm d6)),a4,h.nd,
  { h.fit with own:=by rw [zch];exact h.fit.own,main:=h.fit.main,aux:=h.fit.aux,p0:=h.fit.p0,p1:=h.fit.p1,tr:=h.fit.tr,tc:=h.fit.tc,s:=h.fit.s,fr:=h.fit.fr,«to»:=h.fit.to,m0:=h.fit.m0,m1:=h.fit.m1 },a5,a6,h.wd⟩
theorem Bd.putVideo (h:Bd F W M tk) (i x:Int) (h0:0<=i) (hi:i<256) (hx:0<=x/\x<=255):Bd F (W.setCell ⟨F.vi,i.toNat,none⟩ (.int .u8 x)) { M with video:=bput M.video i x } tk:=by
 obtain ⟨d1,d2,d3,d4,d5,d6⟩:=h.nd.d
 obtain ⟨a1,a2,a3,a4,a5,a6⟩:=h.far (b:=F.vi) (o:=i.toNat) (v:=.int .u8 x) (Ne.symm d3) (Or.inr (Or.inr (Or.inr rfl)))
 exact ⟨a1,a2,a3,h.ra.same (by rw [zas];exact Nat.le_refl _) (λ_=>zab d5),h.ow.same (by rw [zas];exact Nat.le_refl _) (λ_=>zab d6),h.vi.put i x h0 (by rw [h.fit.video];exact hi) hx,a4,h.nd,
  { h.fit with video:=by rw [zch];exact h.fit.video,main:=h.fit.main,aux:=h.fit.aux,p0:=h.fit.p0,p1:=h.fit.p1,tr:=h.fit.tr,tc:=h.fit.tc,s:=h.fit.s,fr:=h.fit.fr,«to»:=h.fit.to,m0:=h.fit.m0,m1:=h.fit.m1 },a5,a6,h.wd⟩
abbrev Bt (F:Fx) (W w1:World):Prop:=Mv F.B F.T F.T W w1
theorem Bt.kept (h:Bt F W w0) (hz:F.B<=w0.heap.size) (hb:Below w0.heap.size w0 w1):Bt F W w1:=Mv.trans h (Mv.of_below hz hb)
theorem Bt.set (hn:F.nd) (h:Bt F W w0) (i:Nat) (v:Value):Bt F W (w0.setCell ⟨F.g,i,none⟩ v):=Mv.setCell h hn.lo.1 (Or.inl (Or.inl rfl)) v
theorem Bt.setR (hn:F.nd) (h:Bt F W w0) (i:Nat) (v:Value):Bt F W (w0.setCell ⟨F.ra,i,none⟩ v):=Mv.setCell h hn.lo.2.1 (Or.inl (Or.inr (Or.inl rfl))) v
theorem Bt.setO (hn:F.nd) (h:Bt F W w0) (i:Nat) (v:Value):Bt F W (w0.setCell ⟨F.ow,i,none⟩ v):=Mv.setCell h hn.lo.2.2.1 (Or.inl (Or.inr (Or.inr (Or.inl rfl)))) v
theorem Bt.setV (hn:F.nd) (h:Bt F W w0) (i:Nat) (v:Value):Bt F W (w0.setCell ⟨F.vi,i,none⟩ v):=Mv.setCell h hn.lo.2.2.2 (Or.inl (Or.inr (Or.inr (Or.inr rfl)))) v
theorem Bt.sets (hn:F.nd):∀ (vs:List Value) (i:Nat) (w0:World),Bt F W w0->Bt F W (w0.setCells F.g i vs)
 | [],i,w0,h=>h
 | v::vs,i,w0,h=>Bt.sets hn vs (i+1) _ (Bt.set hn h i v)
theorem Bt.refl (F:Fx) (W:World):Bt F W W:=Mv.refl _ _ _
def Fx.Tw (F:Fx) (W:World) (k:Nat):Prop:=F.T k \/ ∃ cs fr,W.heap[k]? = some (.cells cs 66 fr)
theorem zlz {k:Nat} (e:w1.heap[k]? = W.heap[k]?) (h:F.Tw w1 k):F.Tw W k:=h.imp id (λ⟨cs,fr,x⟩=>⟨cs,fr,e ▸ x⟩)
def Bw (F:Fx) (W w1:World):Prop:=Mv F.B (F.Tw W) (F.Tw w1) W w1
theorem Bt.w (h:Bt F W w1):Bw F W w1:=⟨h.below,λk hk ht=>h.block k hk (λx=>ht (Or.inl x)),λk ht=>by
 rcases Nat.lt_or_ge k W.heap.size with hk|hk
 ·by_cases hT:F.T k
  ·exact Or.inl (Or.inl hT)
  ·exact Or.inl (zlz (h.block k hk hT) ht)
 ·exact Or.inr hk⟩
theorem Bw.trans {w2:World} (h:Bw F W w1) (k:Bw F w1 w2):Bw F W w2:=Mv.trans h k
theorem Bw.of_below (hB:F.B<=W.heap.size) (hb:Below W.heap.size W w1):Bw F W w1:=Bt.w (Mv.of_below hB hb)
theorem Bw.grown (h:Bd F W M tk) (hg:W.grownBy w1 tk.v.ownBlock):Bw F W w1 :=
 have hne:∀ k,k<W.heap.size->¬ F.Tw W k->some k≠tk.v.ownBlock:=λk hk ht e=>ht (Or.inr (by
  rcases h.ws.2 with ⟨e0,_⟩|⟨g,cap,cur,e0,_,hx,_⟩
  ·rw [e0] at e;cases e
  ·rw [e0] at e;cases e;exact ⟨_,_,hx⟩))
 ⟨(Below.refl F.B W).grown hg h.big (λk hk=>(h.ws.lt k hk).1),λk hk ht=>hg.block k hk (hne k hk ht),λk ht=>by
   rcases Nat.lt_or_ge k W.heap.size with hk|hk
   ·by_cases hT:F.Tw W k
    ·exact Or.inl hT
    ·exact Or.inl (zlz (hg.block k hk (hne k hk hT)) ht)
   ·exact Or.inr hk⟩
theorem endA {l:List Wt} (h:Bd F w1 M tk) (hl:l=[]) (ht:Bt F W w1):(∃ v,Bd F w1 M (tk.app l v))/\Bw F W w1:=⟨⟨tk.v,by rw [hl,Tk.app_nil];exact h⟩,ht.w⟩
theorem Bd.at (h:Bd F W M tk) (i:Nat) (v:Value) (e:(F.cells M tk)[i]? = some v):W.cell? ⟨F.g,i,none⟩=some v:=h.bx.at i v e
end
theorem zbv (k n cap:Nat) (a:Int) (w:World) (hn:0<n) (hN:n<=1000) (ha:0<=a/\a<=65535) :
 Calls Tryz.prog 161 #[.slice (some ⟨k,0,none⟩) n cap,.int .u16 a] w λe w'=>e = .returned (pt k (a%n).toNat)/\w=w':=by
 have hm:Int.tmod a n=a%n:=Int.tmod_eq_emod_of_nonneg ha.1
 have h0:0<=a%n:=Int.emod_nonneg _ (by omega)
 have h1:a%n<n:=Int.emod_lt_of_pos _ (by omega)
 have hz:((n:Int) == 0)=false:=by simp;omega
 go_enter Tryz.func161,Tryz.ntmps161
 go_wp2
 go_ret
 exact ⟨rfl,rfl⟩
theorem zal (a:Int) (w:World) (ha:0<=a/\a<=65535) :
 Calls Tryz.prog 182 #[.int .u16 a] w λe w'=>e = .returned (.bool (isPort a))/\w=w':=by
 unfold isPort
 by_cases h:53248<=a
 ·by_cases h2:a<=57343
  ·rw [decide_eq_true ⟨h,h2⟩]
   go_enter Tryz.func182,Tryz.ntmps182
   go_wp2
   go_ret
   exact ⟨rfl,rfl⟩
  ·rw [decide_eq_false (λx=>h2 x.2)]
   go_enter Tryz.func182,Tryz.ntmps182
   go_wp2
   go_ret
   exact ⟨rfl,rfl⟩
 ·rw [decide_eq_false (λx=>h x.1)]
  go_enter Tryz.func182,Tryz.ntmps182
  go_wp2
  go_ret
  exact ⟨rfl,rfl⟩
theorem zaG (n m:Int) (w:World) :
 Calls Tryz.prog 29 #[.int .i64 n,.int .i64 m] w λe w'=>e = .returned (.bool (decide (0<=n/\n<=m)))/\w=w':=by
 by_cases h:0<=n
 ·by_cases h2:n<=m
  ·rw [decide_eq_true ⟨h,h2⟩]
   go_enter Tryz.func29,Tryz.ntmps29
   go_wp2
   go_ret
   exact ⟨rfl,rfl⟩
  ·rw [decide_eq_false (λx=>h2 x.2)]
   go_enter Tryz.func29,Tryz.ntmps29
   go_wp2
   go_ret
   exact ⟨rfl,rfl⟩
 ·rw [decide_eq_false (λx=>h x.1)]
  go_enter Tryz.func29,Tryz.ntmps29
  go_wp2
  go_ret
  exact ⟨rfl,rfl⟩
theorem zcw (b:Bool) (n:Int) (w:World) :
 Calls Tryz.prog 220 #[.bool b,.int .u8 n] w λe w'=>e = .returned (.int .u8 (sel b n 0))/\w=w':=by
 cases b
 all_goals
  go_enter Tryz.func220,Tryz.ntmps220
  go_wp2
  go_ret
  exact ⟨rfl,rfl⟩
def Fx.memM (F:Fx) (a:Int):Value:=if a<32768 then .pointer none else if a<49152 then pt F.ra ((a-32768)%128).toNat else if a<53248 then pt F.vi ((a-49152)%256).toNat else .pointer none
def Fx.memA (F:Fx) (M:Mach) (a:Int):Value:=if a<32768 then .pointer none else if a<49152 then pt F.ow ((a-32768)%64).toNat else if a<53248 then (if M.granted then pt F.ra ((a-49152)%128).toNat else .pointer none) else .pointer none
section
variable {F : Fx} {W : World} {M : Mach} {tk : Tk}
theorem Bd.ramV (h:Bd F W M tk):∃ cap,F.S.ra = .slice (some ⟨F.ra,0,none⟩) 128 cap/\W.cell? ⟨F.g,32,none⟩=some (.slice (some ⟨F.ra,0,none⟩) 128 cap)/\Bx W F.ra (bcs M.ram):=by
 obtain ⟨cap,h1,_,h3⟩:=h.ra.some (by rw [h.fit.ram];omega)
 rw [h.fit.ram] at h1
 exact ⟨cap,h1,by rw [<- h1];exact h.at 32 _ rfl,h3⟩
theorem Bd.ownV (h:Bd F W M tk):∃ cap,F.S.ow = .slice (some ⟨F.ow,0,none⟩) 64 cap/\W.cell? ⟨F.g,33,none⟩=some (.slice (some ⟨F.ow,0,none⟩) 64 cap)/\Bx W F.ow (bcs M.own):=by
 obtain ⟨cap,h1,_,h3⟩:=h.ow.some (by rw [h.fit.own];omega)
 rw [h.fit.own] at h1
 exact ⟨cap,h1,by rw [<- h1];exact h.at 33 _ rfl,h3⟩
theorem Bd.viV (h:Bd F W M tk):∃ cap,F.S.vi = .slice (some ⟨F.vi,0,none⟩) 256 cap/\W.cell? ⟨F.g,34,none⟩=some (.slice (some ⟨F.vi,0,none⟩) 256 cap)/\Bx W F.vi (bcs M.video):=by
 obtain ⟨cap,h1,_,h3⟩:=h.vi.some (by rw [h.fit.video];omega)
 rw [h.fit.video] at h1
 exact ⟨cap,h1,by rw [<- h1];exact h.at 34 _ rfl,h3⟩
theorem zi9 (h:Bd F W M tk) (a:Int) (ha:0<=a/\a<=65535) :
 Calls Tryz.prog 87 #[pt F.g 0,.int .u16 a] W λe w'=>e = .returned (F.memM a)/\W=w':=by
 obtain ⟨c1,_,e1,_⟩:=h.ramV
 obtain ⟨c2,_,e2,_⟩:=h.viV
 have hg:=h.bx.z
 clear h
 unfold Fx.memM
 by_cases h1:a<32768
 ·rw [if_pos h1]
  have k1:¬ 32768<=a:=by omega
  have k2:¬ 49152<=a:=by omega
  go_enter Tryz.func87,Tryz.ntmps87
  go_wp2
  go_ret
  exact ⟨rfl,rfl⟩
 ·rw [if_neg h1]
  have k1:32768<=a:=by omega
  by_cases h2:a<49152
  ·rw [if_pos h2]
   go_enter Tryz.func87,Tryz.ntmps87
   go_wp2_with (go_at_call 161;refine (zbv F.ra 128 c1 (a-32768) _ (by omega) (by omega) (by omega)).mono ?_;rintro e w1 ⟨rfl,rfl⟩)
   go_ret
   exact ⟨rfl,rfl⟩
  ·rw [if_neg h2]
   have k2:49152<=a:=by omega
   by_cases h3:a<53248
   ·rw [if_pos h3]
    go_enter Tryz.func87,Tryz.ntmps87
    go_wp2_with (go_at_call 161;refine (zbv F.vi 256 c2 (a-49152) _ (by omega) (by omega) (by omega)).mono ?_;rintro e w1 ⟨rfl,rfl⟩)
    go_ret
    exact ⟨rfl,rfl⟩
   ·rw [if_neg h3]
    go_enter Tryz.func87,Tryz.ntmps87
    go_wp2
    go_ret
    exact ⟨rfl,rfl⟩
theorem zja (h:Bd F W M tk) (a:Int) (ha:0<=a/\a<=65535) :
 Calls Tryz.prog 89 #[pt F.g 0,.int .u16 a] W λe w'=>e = .returned (F.memA M a)/\W=w':=by
 obtain ⟨c1,_,e1,_⟩:=h.ramV
 obtain ⟨c2,_,e2,_⟩:=h.ownV
 have hg:=h.bx.z
 have e3:=h.at 67 (.bool M.granted) rfl
 clear h
 unfold Fx.memA
 generalize M.granted=gr at *
 by_cases h1:a<32768
 ·rw [if_pos h1]
  have k1:¬ 32768<=a:=by omega
  have k2:¬ 49152<=a:=by omega
  go_enter Tryz.func89,Tryz.ntmps89
  go_wp2
  go_ret
  exact ⟨rfl,rfl⟩
 ·rw [if_neg h1]
  have k1:32768<=a:=by omega
  by_cases h2:a<49152
  ·rw [if_pos h2]
   go_enter Tryz.func89,Tryz.ntmps89
   go_wp2_with (go_at_call 161;refine (zbv F.ow 64 c2 (a-32768) _ (by omega) (by omega) (by omega)).mono ?_;rintro e w1 ⟨rfl,rfl⟩)
   go_ret
   exact ⟨rfl,rfl⟩
  ·rw [if_neg h2]
   have k2:49152<=a:=by omega
   by_cases h3:a<53248
   ·rw [if_pos h3]
    cases gr
    ·go_enter Tryz.func89,Tryz.ntmps89
     go_wp2
     go_ret
     exact ⟨rfl,rfl⟩
    ·go_enter Tryz.func89,Tryz.ntmps89
     go_wp2_with (go_at_call 161;refine (zbv F.ra 128 c1 (a-49152) _ (by omega) (by omega) (by omega)).mono ?_;rintro e w1 ⟨rfl,rfl⟩)
     go_ret
     exact ⟨rfl,rfl⟩
   ·rw [if_neg h3]
    go_enter Tryz.func89,Tryz.ntmps89
    go_wp2
    go_ret
    exact ⟨rfl,rfl⟩
end
section
variable {F : Fx} {W : World} {M : Mach} {tk : Tk}
theorem Bd.mrV (h:Bd F W M tk):∃ ad cap,F.S.mr = .slice ad M.mrom.length cap/\W.cell? ⟨F.g,30,none⟩=some (.slice ad M.mrom.length cap)/\(0<M.mrom.length->ad=some ⟨F.mr,0,none⟩/\Bx W F.mr (bcs M.mrom)):=by
 have hc:=h.at 30 F.S.mr rfl
 rcases h.mr with ⟨e,hl⟩|⟨cap,e,_,hb⟩
 ·exact ⟨none,0,by rw [e,hl];rfl,by rw [hc,e,hl];rfl,by rw [hl];simp⟩
 ·exact ⟨_,cap,e,by rw [hc,e],λ_=>⟨rfl,hb⟩⟩
theorem Bd.arV (h:Bd F W M tk):∃ ad cap,F.S.ar = .slice ad M.arom.length cap/\W.cell? ⟨F.g,31,none⟩=some (.slice ad M.arom.length cap)/\(0<M.arom.length->ad=some ⟨F.ar,0,none⟩/\Bx W F.ar (bcs M.arom)):=by
 have hc:=h.at 31 F.S.ar rfl
 rcases h.ar with ⟨e,hl⟩|⟨cap,e,_,hb⟩
 ·exact ⟨none,0,by rw [e,hl];rfl,by rw [hc,e,hl];rfl,by rw [hl];simp⟩
 ·exact ⟨_,cap,e,by rw [hc,e],λ_=>⟨rfl,hb⟩⟩
theorem Bd.ramAt (h:Bd F W M tk) (i:Int) (h0:0<=i) (hi:i<128):W.cell? ⟨F.ra,i.toNat,none⟩=some (.int .u8 (bget M.ram i))/\F.ra<W.heap.size/\W.frozen? ⟨F.ra,i.toNat,none⟩=false:=by
 obtain ⟨_,_,_,hb⟩:=h.ramV
 exact ⟨hb.at _ _ (zhD _ i h0 (by rw [h.fit.ram];exact hi)),hb.z,hb.f _⟩
theorem Bd.ownAt (h:Bd F W M tk) (i:Int) (h0:0<=i) (hi:i<64):W.cell? ⟨F.ow,i.toNat,none⟩=some (.int .u8 (bget M.own i))/\F.ow<W.heap.size/\W.frozen? ⟨F.ow,i.toNat,none⟩=false:=by
 obtain ⟨_,_,_,hb⟩:=h.ownV
 exact ⟨hb.at _ _ (zhD _ i h0 (by rw [h.fit.own];exact hi)),hb.z,hb.f _⟩
theorem Bd.viAt (h:Bd F W M tk) (i:Int) (h0:0<=i) (hi:i<256):W.cell? ⟨F.vi,i.toNat,none⟩=some (.int .u8 (bget M.video i))/\F.vi<W.heap.size/\W.frozen? ⟨F.vi,i.toNat,none⟩=false:=by
 obtain ⟨_,_,_,hb⟩:=h.viV
 exact ⟨hb.at _ _ (zhD _ i h0 (by rw [h.fit.video];exact hi)),hb.z,hb.f _⟩
theorem zdU (h:Bd F W M tk) (a:Int) (ha:0<=a/\a<=65535) :
 Calls Tryz.prog 184 #[pt F.g 77,.int .u16 a] W λe w'=>e = .returned (.int .u8 (M.lookM a))/\W=w':=by
 obtain ⟨ad,cap,_,e30,hr⟩:=h.mrV
 have hg:=h.bx.z
 have e76:=h.at 77 (pt F.g 30) rfl
 have e77:=h.at 78 (mval 87 F.g 0) rfl
 have hmr:=h.fit.mrom
 have hm:=hid (zi9 h a ha)
 have H:=hid h
 clear h
 unfold Mach.lookM romAt
 unfold Fx.memM at hm
 by_cases h1:a<32768
 ·rw [if_pos h1]
  rw [if_pos h1] at hm
  by_cases h2:a<M.mrom.length
  ·rw [if_pos h2]
   obtain ⟨rfl,hb⟩:=hr (by omega)
   have ec:=hb.at _ _ (zhD _ a ha.1 h2)
   have ez:=hb.z
   clear hr
   go_enter Tryz.func184,Tryz.ntmps184
   go_wp2
   go_ret
   exact ⟨rfl,rfl⟩
  ·rw [if_neg h2]
   clear hr
   go_enter Tryz.func184,Tryz.ntmps184
   go_wp2_with (go_at_call 87;refine hm.out.mono ?_;rintro e w1 ⟨rfl,rfl⟩)
   go_ret
   exact ⟨rfl,rfl⟩
 ·rw [if_neg h1]
  rw [if_neg h1] at hm
  by_cases h2:a<49152
  ·rw [if_pos h2]
   rw [if_pos h2] at hm
   obtain ⟨ec,ez,_⟩:=H.out.ramAt ((a-32768)%128) (by omega) (by omega)
   clear hr
   go_enter Tryz.func184,Tryz.ntmps184
   go_wp2_with (go_at_call 87;refine hm.out.mono ?_;rintro e w1 ⟨rfl,rfl⟩)
   go_ret
   exact ⟨rfl,rfl⟩
  ·rw [if_neg h2]
   rw [if_neg h2] at hm
   by_cases h3:a<53248
   ·rw [if_pos h3]
    rw [if_pos h3] at hm
    obtain ⟨ec,ez,_⟩:=H.out.viAt ((a-49152)%256) (by omega) (by omega)
    clear hr
    go_enter Tryz.func184,Tryz.ntmps184
    go_wp2_with (go_at_call 87;refine hm.out.mono ?_;rintro e w1 ⟨rfl,rfl⟩)
    go_ret
    exact ⟨rfl,rfl⟩
   ·rw [if_neg h3]
    rw [if_neg h3] at hm
    clear hr
    go_enter Tryz.func184,Tryz.ntmps184
    go_wp2_with (go_at_call 87;refine hm.out.mono ?_;rintro e w1 ⟨rfl,rfl⟩)
    go_ret
    exact ⟨rfl,rfl⟩
end
section
variable {F : Fx} {W : World} {M : Mach} {tk : Tk}
theorem Bd.at2 (h:Bd F W M tk) (n:Nat) (v:Value) (e:F.sideA[n]? = some v):W.cell? ⟨F.g,143+n,none⟩=some v:=by
 have hs:F.sideM.length=66:=by unfold Fx.sideM;rw [List.length_append,zaD];rfl
 exact h.at _ _ (zip (machL M F.S) [.int .i64 tk.n,tk.v] [] F.sideA F.sideM 75 2 0 66 n v (zae M F.S) rfl hs rfl e)
theorem zhE (h:Bd F W M tk) (a:Int) (ha:0<=a/\a<=65535) :
 Calls Tryz.prog 184 #[pt F.g 143,.int .u16 a] W λe w'=>e = .returned (.int .u8 (M.lookA a))/\W=w':=by
 obtain ⟨ad,cap,_,e31,hr⟩:=h.arV
 have hg:=h.bx.z
 have e76:=h.at2 0 (pt F.g 31) rfl
 have e77:=h.at2 1 (mval 89 F.g 0) rfl
 have hmr:=h.fit.arom
 have hm:=hid (zja h a ha)
 have H:=hid h
 clear h
 unfold Mach.lookA romAt
 unfold Fx.memA at hm
 by_cases h1:a<32768
 ·rw [if_pos h1]
  rw [if_pos h1] at hm
  by_cases h2:a<M.arom.length
  ·rw [if_pos h2]
   obtain ⟨rfl,hb⟩:=hr (by omega)
   have ec:=hb.at _ _ (zhD _ a ha.1 h2)
   have ez:=hb.z
   clear hr
   go_enter Tryz.func184,Tryz.ntmps184
   go_wp2
   go_ret
   exact ⟨rfl,rfl⟩
  ·rw [if_neg h2]
   clear hr
   go_enter Tryz.func184,Tryz.ntmps184
   go_wp2_with (go_at_call 89;refine hm.out.mono ?_;rintro e w1 ⟨rfl,rfl⟩)
   go_ret
   exact ⟨rfl,rfl⟩
 ·rw [if_neg h1]
  rw [if_neg h1] at hm
  by_cases h2:a<49152
  ·rw [if_pos h2]
   rw [if_pos h2] at hm
   obtain ⟨ec,ez,_⟩:=H.out.ownAt ((a-32768)%64) (by omega) (by omega)
   clear hr
   go_enter Tryz.func184,Tryz.ntmps184
   go_wp2_with (go_at_call 89;refine hm.out.mono ?_;rintro e w1 ⟨rfl,rfl⟩)
   go_ret
   exact ⟨rfl,rfl⟩
  ·rw [if_neg h2]
   rw [if_neg h2] at hm
   by_cases h3:a<53248
   ·rw [if_pos h3]
    rw [if_pos h3] at hm
    obtain ⟨ec,ez,_⟩:=H.out.ramAt ((a-49152)%128) (by omega) (by omega)
    clear hr
    cases hgr:M.granted
    ·rw [hgr] at hm
     go_enter Tryz.func184,Tryz.ntmps184
     go_wp2_with (go_at_call 89;refine hm.out.mono ?_;rintro e w1 ⟨rfl,rfl⟩)
     go_ret
     exact ⟨rfl,rfl⟩
    ·rw [hgr] at hm
     go_enter Tryz.func184,Tryz.ntmps184
     go_wp2_with (go_at_call 89;refine hm.out.mono ?_;rintro e w1 ⟨rfl,rfl⟩)
     go_ret
     exact ⟨rfl,rfl⟩
   ·rw [if_neg h3]
    rw [if_neg h3] at hm
    clear hr
    go_enter Tryz.func184,Tryz.ntmps184
    go_wp2_with (go_at_call 89;refine hm.out.mono ?_;rintro e w1 ⟨rfl,rfl⟩)
    go_ret
    exact ⟨rfl,rfl⟩
def GetM (F:Fx) (M:Mach) (tk:Tk) (i:Nat):Prop:=∀ W,Bd F W M tk->Calls Tryz.prog 183 #[.agg #[F.rdM i,F.wrM i]] W λe w'=>e = .returned (.int .u8 (M.portM i).1)/\Bd F w' (M.portM i).2 tk/\Bt F W w'
def GetA (F:Fx) (M:Mach) (tk:Tk) (i:Nat):Prop:=∀ W,Bd F W M tk->Calls Tryz.prog 183 #[.agg #[F.rdA i,F.wrA i]] W λe w'=>e = .returned (.int .u8 (M.portA i).1)/\Bd F w' (M.portA i).2 tk/\Bt F W w'
def PutM (F:Fx) (M:Mach) (tk:Tk) (i:Nat) (n:Int):Prop:=∀ W,Bd F W M tk->Calls Tryz.prog 185 #[.agg #[F.rdM i,F.wrM i],.int .u8 n] W λe w'=>e = .returned (.tuple #[])/\Bd F w' (M.putM i n) (tk.add (takes i n))/\Bt F W w'
def PutA (F:Fx) (M:Mach) (tk:Tk) (i:Nat) (n:Int):Prop:=∀ W,Bd F W M tk->Calls Tryz.prog 185 #[.agg #[F.rdA i,F.wrA i],.int .u8 n] W λe w'=>e = .returned (.tuple #[])/\(∃ v,Bd F w' (M.putA i n) (tk.app (shown M.clock i n) v))/\Bw F W w'
theorem Bd.pM (h:Bd F W M tk) (i:Nat) (hi:i<32):W.cell? ⟨F.g,79+i*2,none⟩=some (F.rdM i)/\W.cell? ⟨F.g,79+i*2+1,none⟩=some (F.wrM i):=by
 obtain ⟨h1,h2⟩:=F.portM M tk i hi
 rw [Nat.mul_comm i 2]
 exact ⟨h.at _ _ h1,h.at _ _ h2⟩
theorem Bd.pA (h:Bd F W M tk) (i:Nat) (hi:i<32):W.cell? ⟨F.g,145+i*2,none⟩=some (F.rdA i)/\W.cell? ⟨F.g,145+i*2+1,none⟩=some (F.wrA i):=by
 obtain ⟨h1,h2⟩:=F.portA M tk i hi
 rw [Nat.mul_comm i 2]
 exact ⟨h.at _ _ h1,h.at _ _ h2⟩
theorem zlA (h:Bd F W M tk) (a:Int) (ha:0<=a/\a<=65535) (hp:∀ i,i<32->GetM F M tk i) :
 Calls Tryz.prog 92 #[pt F.g 77,.int .u16 a] W λe w'=>e = .returned (.int .u8 (M.rdM a).1)/\Bd F w' (M.rdM a).2 tk/\Bt F W w':=by
 unfold Mach.rdM
 cases hP:isPort a
 ·have hl:=hid (zdU h a ha)
  have hP':=hid hP
  have H:=hid h
  clear h hP hp
  go_enter Tryz.func92,Tryz.ntmps92
  go_wp2_with (first
   | (go_at_call 182;refine (zal a _ ha).mono ?_;rw [hP'.out];rintro e w1 ⟨rfl,rfl⟩)
   | (go_at_call 184;refine hl.out.mono ?_;rintro e w1 ⟨rfl,rfl⟩))
  go_ret
  exact ⟨rfl,H.out,Bt.refl _ _⟩
 ·obtain ⟨n,hn⟩:∃ n:Nat,a%32=n:=⟨(a%32).toNat,by omega⟩
  have hn2:n<32:=by omega
  have hm:Int.tmod a 32=n:=by rw [Int.tmod_eq_emod_of_nonneg ha.1,hn]
  have hq:=hid (hp n hn2 W h)
  have hP':=hid hP
  have e0:portNo a=n:=by unfold portNo;omega
  rw [e0]
  obtain ⟨c0,c1⟩:=h.pM n hn2
  have hg:=h.bx.z
  have hn3:(n:Int)<32:=by omega
  clear h hP hp e0
  generalize F.rdM n=vr at *
  generalize F.wrM n=vw at *
  go_enter Tryz.func92,Tryz.ntmps92
  go_wp2_with (first
   | (go_at_call 182;refine (zal a _ ha).mono ?_;rw [hP'.out];rintro e w1 ⟨rfl,rfl⟩)
   | (go_at_call 183;refine hq.out.mono ?_;rintro e w1 ⟨rfl,hB1,hB2⟩))
  go_ret
  exact ⟨rfl,hB1,hB2⟩
end
section
variable {F : Fx} {W : World} {M : Mach} {tk : Tk}
theorem zpB (a b:Bool):bits .or .u8 (sel a 1 0) (sel b 2 0)=two a b:=by cases a <;> cases b <;> rfl
theorem zjO (h:Bd F W M tk):Calls Tryz.prog 166 #[pt F.g 0] W λe w'=>e = .returned (.int .u8 (two M.t.on M.t.g))/\Bd F w' M tk/\Bt F W w':=by
 have c1:=h.at 43 (.bool M.t.on) rfl
 have c2:=h.at 44 (.bool M.t.g) rfl
 have hg:=h.bx.z
 have H:=hid h
 clear h
 rw [<- zpB]
 generalize M.t.on=x at *
 generalize M.t.g=y at *
 go_enter Tryz.func166,Tryz.ntmps166
 go_wp2
 go_region_held3 (λw'=>w'.cell? ⟨F.g,43,none⟩=some (.bool x)/\w'.cell? ⟨F.g,44,none⟩=some (.bool y))
  ((go_keep;done))
  ((go_at_call 220;refine (zcw _ _ _).mono ?_;rintro e w1 ⟨rfl,rfl⟩))
 go_wp2
 go_ret
 exact ⟨rfl,H.out.drew,(Bt.refl _ _).drew⟩
theorem zn8 (h:Bd F W M tk):Calls Tryz.prog 173 #[pt F.g 0] W λe w'=>e = .returned (.int .u8 (two M.granted M.held))/\Bd F w' M tk/\Bt F W w':=by
 have c1:=h.at 67 (.bool M.granted) rfl
 have c2:=h.at 68 (.bool M.held) rfl
 have hg:=h.bx.z
 have H:=hid h
 clear h
 rw [<- zpB]
 generalize M.granted=x at *
 generalize M.held=y at *
 go_enter Tryz.func173,Tryz.ntmps173
 go_wp2
 go_region_with (go_at_call 220;refine (zcw _ _ _).mono ?_;rintro e w1 ⟨rfl,rfl⟩)
 all_goals
  go_wp2
  go_ret
  exact ⟨rfl,H.out.drew,(Bt.refl _ _).drew⟩
theorem zlB (h:Bd F W M tk):Calls Tryz.prog 170 #[pt F.g 0] W λe w'=>e = .returned (.int .u8 (two M.b.g false))/\Bd F w' M tk/\Bt F W w':=by
 have c1:=h.at 63 (.bool M.b.g) rfl
 have hg:=h.bx.z
 have H:=hid h
 clear h
 rw [show two M.b.g false=sel M.b.g 1 0 by cases M.b.g <;> rfl]
 generalize M.b.g=x at *
 go_enter Tryz.func170,Tryz.ntmps170
 go_wp2_with (go_at_call 220;refine (zcw _ _ _).mono ?_;rintro e w1 ⟨rfl,rfl⟩)
 go_ret
 exact ⟨rfl,H.out,Bt.refl _ _⟩
theorem zlC (h:Bd F W M tk):Calls Tryz.prog 168 #[pt F.E.mb 0] W λe w'=>e = .returned (.int .u8 M.b.l)/\Bd F w' M tk/\Bt F W w':=by
 have c1:=h.at 61 (.int .i64 M.b.l) rfl
 have hg:=h.bx.z
 obtain ⟨z1,e1⟩:=h.env _ _ .mb
 have b0:=h.fit.b.l0
 have b1:=h.fit.b.l1
 have H:=hid h
 clear h
 go_enter Tryz.func168,Tryz.ntmps168
 go_wp2
 go_ret
 exact ⟨rfl,H.out,Bt.refl _ _⟩
theorem zqs (h:Bd F W M tk):Calls Tryz.prog 169 #[pt F.E.mb 0] W λe w'=>e = .returned (.int .u8 M.b.a)/\Bd F w' M tk/\Bt F W w':=by
 have c1:=h.at 62 (.int .i64 M.b.a) rfl
 have hg:=h.bx.z
 obtain ⟨z1,e1⟩:=h.env _ _ .mb
 have b0:=h.fit.b.a0
 have b1:=h.fit.b.a1
 have H:=hid h
 clear h
 go_enter Tryz.func169,Tryz.ntmps169
 go_wp2
 go_ret
 exact ⟨rfl,H.out,Bt.refl _ _⟩
theorem zlD (h:Bd F W M tk):Calls Tryz.prog 175 #[pt F.E.mb 0] W λe w'=>e = .returned (.int .u8 M.m1)/\Bd F w' M tk/\Bt F W w':=by
 have c1:=h.at 70 (.int .u8 M.m1) rfl
 have hg:=h.bx.z
 obtain ⟨z1,e1⟩:=h.env _ _ .mb
 have H:=hid h
 clear h
 go_enter Tryz.func175,Tryz.ntmps175
 go_wp2
 go_ret
 exact ⟨rfl,H.out,Bt.refl _ _⟩
theorem zlE (h:Bd F W M tk):Calls Tryz.prog 177 #[pt F.g 0] W λe w'=>e = .returned (.int .u8 M.m0)/\Bd F w' { M with rung:=false } tk/\Bt F W w':=by
 have c1:=h.at 69 (.int .u8 M.m0) rfl
 have c2:=h.at 71 (.bool M.rung) rfl
 have c3:=h.bx.f 71
 have hg:=h.bx.z
 have H:=hid h
 clear h
 go_enter Tryz.func177,Tryz.ntmps177
 go_wp2
 go_ret
 exact ⟨rfl,H.out.put 71 _ (by omega) rfl ⟨rfl,rfl,rfl,rfl,rfl⟩ { H.out.fit with main:=H.out.fit.main },(Bt.refl _ _).set H.out.nd _ _⟩
end
end Go.Proofs.YtbennamieealbaaGreatDoor
