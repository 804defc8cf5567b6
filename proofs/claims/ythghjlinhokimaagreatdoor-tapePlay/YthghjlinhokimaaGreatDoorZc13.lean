/-
  Parts of a proof, joined.
-/
import Derived.Test.YthghjlinhokimaaGreatDoorZcA
import Derived.Test.YthghjlinhokimaaGreatDoorZc12
import Derived.Test.YthghjlinhokimaaGreatDoorZc11
set_option linter.all false
set_option maxRecDepth 100000
set_option maxHeartbeats 1600000
namespace Go.Proofs.YthghjlinhokimaaGreatDoor
open Go.ChangeShapes Go.WideShapes Go.ChangeAt Go.RowKit Go.Proofs.Tryz
section
variable {σ : Type} {m : C.Mem σ} {B nr nw : Nat} {cr cw : Array Value × Array Value} {I : World -> σ -> Prop} {T : σ -> Nat -> Prop}
theorem tH(R:RS m B nr nw cr cw I T)(g:Nat)(Y:g=307 \/ g=308 \/ g=309 \/ g=310 \/ g=321)(t:Bool)(k d s:Nat)(n v:Int)(hv:0<=v)(E:v<=65535)(b:Nat)(w:World)(p:Nat)(x:C.St σ)(hx0:0<=x.n)(hx1:x.n<=100)(j:PI B nr nw cr cw I T w p x)(z:C.St σ)(F:z=if t then C.jump x v else x)(hb:w.cell? ⟨b,0,none⟩=some (fv g #[]))(H:∀ W:World,Calls prog g #[gx x.c] W λe w'=>e=.returned (.bool t)/\Below W.heap.size W w'):Calls prog 357 #[.pointer (some ⟨p,0,none⟩),iI k d s n v,.pointer (some ⟨b,0,none⟩)] w (AP B nr nw cr cw I T w p x z):=by
 have hlt:=j.lt;have hne:p≠w.heap.size:=by omega
 have L:p<w.heap.size+1:=by omega
 have hbl:b<w.heap.size:=aG w _ hb;have M:b≠w.heap.size:=by omega
 have P:b<w.heap.size+1:=by omega
 have hw:IntKind.u16.wrap v=v:=by rw[eh];omega
 have l:=hid j;have o:=hid R;obtain⟨c8,c9,c10,c11,c12,c13,c14,c15,c16,c17⟩:=j.cells;obtain⟨c0,c1,c2,c3,c4,c5,c6,c7⟩:=j.regs;have q:=hid H;have X:=hid F;clear j R H F;rcases Y with rfl|rfl|rfl|rfl|rfl
 all_goals
  go_enter func357,ntmps357;go_wp2;first
   | (go_region_held3 (λw'=>w'.cell? ⟨b,0,none⟩=some (fv 307 #[])/\w'.cell? ⟨p,0,none⟩=some (.int .u16 (x.c.r 0))/\w'.cell? ⟨p,1,none⟩=some (.int .u16 (x.c.r 1))/\w'.cell? ⟨p,2,none⟩=some (.int .u16 (x.c.r 2))/\w'.cell? ⟨p,3,none⟩=some (.int .u16 (x.c.r 3))/\w'.cell? ⟨p,4,none⟩=some (.int .u16 (x.c.r 4))/\w'.cell? ⟨p,5,none⟩=some (.int .u16 (x.c.r 5))/\w'.cell? ⟨p,6,none⟩=some (.int .u16 (x.c.r 6))/\w'.cell? ⟨p,7,none⟩=some (.int .u16 (x.c.r 7))/\w'.cell? ⟨p,8,none⟩=some (.int .u16 x.c.PC)/\w'.cell? ⟨p,9,none⟩=some (.bool x.c.Z)/\w'.cell? ⟨p,10,none⟩=some (.bool x.c.N)/\w'.cell? ⟨p,11,none⟩=some (.bool x.c.C)/\w'.cell? ⟨p,12,none⟩=some (.bool x.c.V)/\w'.cell? ⟨p,13,none⟩=some (.bool x.c.May)/\w'.cell? ⟨p,14,none⟩=some (.bool x.c.Waits)) ((go_keep;done)) ((refine(q.out _).mono ?_;rintro e w2 ⟨rfl,a⟩;obtain⟨i,f2⟩:=bQ a)))
   | (go_region_held3 (λw'=>w'.cell? ⟨b,0,none⟩=some (fv 308 #[])/\w'.cell? ⟨p,0,none⟩=some (.int .u16 (x.c.r 0))/\w'.cell? ⟨p,1,none⟩=some (.int .u16 (x.c.r 1))/\w'.cell? ⟨p,2,none⟩=some (.int .u16 (x.c.r 2))/\w'.cell? ⟨p,3,none⟩=some (.int .u16 (x.c.r 3))/\w'.cell? ⟨p,4,none⟩=some (.int .u16 (x.c.r 4))/\w'.cell? ⟨p,5,none⟩=some (.int .u16 (x.c.r 5))/\w'.cell? ⟨p,6,none⟩=some (.int .u16 (x.c.r 6))/\w'.cell? ⟨p,7,none⟩=some (.int .u16 (x.c.r 7))/\w'.cell? ⟨p,8,none⟩=some (.int .u16 x.c.PC)/\w'.cell? ⟨p,9,none⟩=some (.bool x.c.Z)/\w'.cell? ⟨p,10,none⟩=some (.bool x.c.N)/\w'.cell? ⟨p,11,none⟩=some (.bool x.c.C)/\w'.cell? ⟨p,12,none⟩=some (.bool x.c.V)/\w'.cell? ⟨p,13,none⟩=some (.bool x.c.May)/\w'.cell? ⟨p,14,none⟩=some (.bool x.c.Waits)) ((go_keep;done)) ((refine(q.out _).mono ?_;rintro e w2 ⟨rfl,a⟩;obtain⟨i,f2⟩:=bQ a)))
   | (go_region_held3 (λw'=>w'.cell? ⟨b,0,none⟩=some (fv 309 #[])/\w'.cell? ⟨p,0,none⟩=some (.int .u16 (x.c.r 0))/\w'.cell? ⟨p,1,none⟩=some (.int .u16 (x.c.r 1))/\w'.cell? ⟨p,2,none⟩=some (.int .u16 (x.c.r 2))/\w'.cell? ⟨p,3,none⟩=some (.int .u16 (x.c.r 3))/\w'.cell? ⟨p,4,none⟩=some (.int .u16 (x.c.r 4))/\w'.cell? ⟨p,5,none⟩=some (.int .u16 (x.c.r 5))/\w'.cell? ⟨p,6,none⟩=some (.int .u16 (x.c.r 6))/\w'.cell? ⟨p,7,none⟩=some (.int .u16 (x.c.r 7))/\w'.cell? ⟨p,8,none⟩=some (.int .u16 x.c.PC)/\w'.cell? ⟨p,9,none⟩=some (.bool x.c.Z)/\w'.cell? ⟨p,10,none⟩=some (.bool x.c.N)/\w'.cell? ⟨p,11,none⟩=some (.bool x.c.C)/\w'.cell? ⟨p,12,none⟩=some (.bool x.c.V)/\w'.cell? ⟨p,13,none⟩=some (.bool x.c.May)/\w'.cell? ⟨p,14,none⟩=some (.bool x.c.Waits)) ((go_keep;done)) ((refine(q.out _).mono ?_;rintro e w2 ⟨rfl,a⟩;obtain⟨i,f2⟩:=bQ a)))
   | (go_region_held3 (λw'=>w'.cell? ⟨b,0,none⟩=some (fv 310 #[])/\w'.cell? ⟨p,0,none⟩=some (.int .u16 (x.c.r 0))/\w'.cell? ⟨p,1,none⟩=some (.int .u16 (x.c.r 1))/\w'.cell? ⟨p,2,none⟩=some (.int .u16 (x.c.r 2))/\w'.cell? ⟨p,3,none⟩=some (.int .u16 (x.c.r 3))/\w'.cell? ⟨p,4,none⟩=some (.int .u16 (x.c.r 4))/\w'.cell? ⟨p,5,none⟩=some (.int .u16 (x.c.r 5))/\w'.cell? ⟨p,6,none⟩=some (.int .u16 (x.c.r 6))/\w'.cell? ⟨p,7,none⟩=some (.int .u16 (x.c.r 7))/\w'.cell? ⟨p,8,none⟩=some (.int .u16 x.c.PC)/\w'.cell? ⟨p,9,none⟩=some (.bool x.c.Z)/\w'.cell? ⟨p,10,none⟩=some (.bool x.c.N)/\w'.cell? ⟨p,11,none⟩=some (.bool x.c.C)/\w'.cell? ⟨p,12,none⟩=some (.bool x.c.V)/\w'.cell? ⟨p,13,none⟩=some (.bool x.c.May)/\w'.cell? ⟨p,14,none⟩=some (.bool x.c.Waits)) ((go_keep;done)) ((refine(q.out _).mono ?_;rintro e w2 ⟨rfl,a⟩;obtain⟨i,f2⟩:=bQ a)))
   | (go_region_held3 (λw'=>w'.cell? ⟨b,0,none⟩=some (fv 321 #[])/\w'.cell? ⟨p,0,none⟩=some (.int .u16 (x.c.r 0))/\w'.cell? ⟨p,1,none⟩=some (.int .u16 (x.c.r 1))/\w'.cell? ⟨p,2,none⟩=some (.int .u16 (x.c.r 2))/\w'.cell? ⟨p,3,none⟩=some (.int .u16 (x.c.r 3))/\w'.cell? ⟨p,4,none⟩=some (.int .u16 (x.c.r 4))/\w'.cell? ⟨p,5,none⟩=some (.int .u16 (x.c.r 5))/\w'.cell? ⟨p,6,none⟩=some (.int .u16 (x.c.r 6))/\w'.cell? ⟨p,7,none⟩=some (.int .u16 (x.c.r 7))/\w'.cell? ⟨p,8,none⟩=some (.int .u16 x.c.PC)/\w'.cell? ⟨p,9,none⟩=some (.bool x.c.Z)/\w'.cell? ⟨p,10,none⟩=some (.bool x.c.N)/\w'.cell? ⟨p,11,none⟩=some (.bool x.c.C)/\w'.cell? ⟨p,12,none⟩=some (.bool x.c.V)/\w'.cell? ⟨p,13,none⟩=some (.bool x.c.May)/\w'.cell? ⟨p,14,none⟩=some (.bool x.c.Waits)) ((go_keep;done)) ((refine(q.out _).mono ?_;rintro e w2 ⟨rfl,a⟩;obtain⟨i,f2⟩:=bQ a)))
  have h:=bn (stA (J w) (.cells #[.int .i64 k,.int .i64 d,.int .i64 s,.int .i64 n,.int .i64 v] 191)).drew a;have f:=l.out.kept o.out h;obtain⟨e8,e9,e10,e11,e12,e13,e14,e15,e16,e17⟩:=f.cells;have ef:=f.frozen;have el:=f.lt;have q4:w2.cell? ⟨w.heap.size,4,none⟩=some (.int .i64 v):=(i _ 4 (by simp)).trans (by simp);have ql:w.heap.size<w2.heap.size:=by have:=a.size;simp at this;omega
  have u:=hid f;have y:=hid h;clear f h i f2;cases t
  ·go_wp2
   go_end0;rw[X.out];exact⟨U,u.out,(PM.refl B T p x.s w).kept (l.out.hB o.out) y.out⟩
  ·go_wp2
   go_end0;rw[X.out];exact⟨U,(u.out.putPC o.out v hv E).putCyc o.out _,(((PM.refl B T p x.s w).kept (l.out.hB o.out) y.out).set l.out.big 8 _).set l.out.big 17 _⟩
end
abbrev cU(a b c d e f g:Nat):Array Value :=
 #[fv 289 #[],fv 290 #[],fv 291 #[],fv 292 #[],fv 294 #[],fv 296 #[],fv 297 #[],fv 299 #[],fv 299 #[],fv 299 #[],fv 299 #[],fv 299 #[],
   fv 353 #[.pointer (some ⟨a,0,none⟩)],fv 353 #[.pointer (some ⟨b,0,none⟩)],fv 303 #[],fv 305 #[],
   fv 357 #[.pointer (some ⟨c,0,none⟩)],fv 357 #[.pointer (some ⟨d,0,none⟩)],fv 357 #[.pointer (some ⟨e,0,none⟩)],fv 357 #[.pointer (some ⟨f,0,none⟩)],
   fv 311 #[],fv 312 #[],fv 314 #[],fv 315 #[],fv 316 #[],fv 317 #[],fv 318 #[],fv 320 #[],fv 299 #[],
   fv 357 #[.pointer (some ⟨g,0,none⟩)],.nilFunc,fv 322 #[]]
theorem zoA(g:Nat)(w:World):Calls prog 300 #[fv g #[]] w λe w'=>e=.returned (fv 353 #[.pointer (some ⟨w.heap.size,0,none⟩)])/\w'=w.alloc (.cells #[fv g #[]] 363):=by
 go_enter func300,ntmps300;go_wp2;go_ret;exact⟨U,U⟩
theorem zqr(g:Nat)(w:World):Calls prog 306 #[fv g #[]] w λe w'=>e=.returned (fv 357 #[.pointer (some ⟨w.heap.size,0,none⟩)])/\w'=w.alloc (.cells #[fv g #[]] 366):=by
 go_enter func306,ntmps306;go_wp2;go_ret;exact⟨U,U⟩
theorem zfz(w:World)(cs:Array Value)(t:TypeId)(n:Nat)(h:cs.size=n):(w.alloc (.cells cs t)).there w.heap.size 0 n:=λj a=>by
 refine⟨?_,Lib.frozen_of_heap (aJ w _) _⟩;rw[jb _ _ _ _ U,fm (by omega)];rfl
theorem below_setCells{n:Nat}{a:World}{b:Nat}(hb:n<=b):∀(vs:List Value) (o:Nat) (w:World),Below n a w->Below n a (w.setCells b o vs)
 | [],o,w,h=>h
 | v::vs,o,w,h=>below_setCells hb vs (o+1) _ (h.setCell hb v)
theorem cutL{P:Program}{ops:Array Oper}{rest:List Oper}{aj:Exit->Act->World->Prop}{a:Act}{w:World}(K:World->Prop)(h:K w)(k:∀ w',K w'->wpList P ops aj rest a w'):wpList P ops aj rest a w:=k w h
theorem zqs(a b c d e f g:Nat):(cU a b c d e f g).all (·.oneCell')=true:=by simp[cU,Value.oneCell']
theorem zjH:(Tryz.prog.info? 325).map (·.size)=some 32:=by kernel_rfl
theorem zoB:Tryz.prog.underlying 325=some (.array 32 324):=by kernel_rfl
def boxes(W:World)(a b c d e f g:Nat):Prop :=
 W.cell? ⟨a,0,none⟩=some (fv 301 #[])/\W.cell? ⟨b,0,none⟩=some (fv 302 #[])/\W.cell? ⟨c,0,none⟩=some (fv 307 #[])/\W.cell? ⟨d,0,none⟩=some (fv 308 #[])/\W.cell? ⟨e,0,none⟩=some (fv 309 #[])/\W.cell? ⟨f,0,none⟩=some (fv 310 #[])/\W.cell? ⟨g,0,none⟩=some (fv 321 #[])
theorem zte(w:World)(L:List Value)(z:Obj)(t a:TypeId):boxes (((((((((w.alloc z).alloc (.cells #[fv 301 #[]] t)).alloc (.cells #[fv 302 #[]] t)).alloc (.cells #[fv 307 #[]] a)).alloc (.cells #[fv 308 #[]] a)).alloc (.cells #[fv 309 #[]] a)).alloc (.cells #[fv 310 #[]] a)).alloc (.cells #[fv 321 #[]] a)).setCells w.heap.size 0 L)
 (w.heap.size+1) (w.heap.size+1+1) (w.heap.size+1+1+1) (w.heap.size+1+1+1+1) (w.heap.size+1+1+1+1+1) (w.heap.size+1+1+1+1+1+1) (w.heap.size+1+1+1+1+1+1+1):=by
 have b:∀(X:World) (b':Nat),b'≠w.heap.size->(X.setCells w.heap.size 0 L).cell? ⟨b',0,none⟩=X.cell? ⟨b',0,none⟩:=λX b' h=>iZ _ L 0 X _ (λe=>absurd e h)
 unfold boxes;refine⟨?_,?_,?_,?_,?_,?_,?_⟩ <;> rw[b _ _ (by omega)]
 ·rw[aK _ _ _ (by simp <;> omega),aK _ _ _ (by simp <;> omega),aK _ _ _ (by simp <;> omega),aK _ _ _ (by simp <;> omega),aK _ _ _ (by simp <;> omega),aK _ _ _ (by simp <;> omega),jb _ _ _ _ (by simp)];rfl
 ·rw[aK _ _ _ (by simp <;> omega),aK _ _ _ (by simp <;> omega),aK _ _ _ (by simp <;> omega),aK _ _ _ (by simp <;> omega),aK _ _ _ (by simp <;> omega),jb _ _ _ _ (by simp)];rfl
 ·rw[aK _ _ _ (by simp <;> omega),aK _ _ _ (by simp <;> omega),aK _ _ _ (by simp <;> omega),aK _ _ _ (by simp <;> omega),jb _ _ _ _ (by simp)];rfl
 ·rw[aK _ _ _ (by simp <;> omega),aK _ _ _ (by simp <;> omega),aK _ _ _ (by simp <;> omega),jb _ _ _ _ (by simp)];rfl
 ·rw[aK _ _ _ (by simp <;> omega),aK _ _ _ (by simp <;> omega),jb _ _ _ _ (by simp)];rfl
 ·rw[aK _ _ _ (by simp <;> omega),jb _ _ _ _ (by simp)];rfl
 ·rw[jb _ _ _ _ (by simp)];rfl
theorem zns(w:World):Calls prog 255 #[] w λe w'=>∃ b c d f g i j,e=.returned (.agg (cU b c d f g i j))/\boxes w' b c d f g i j/\Below w.heap.size w w':=by
 have a:∀ W:World,W.rangeAt w.heap.size 0 (cU (w.heap.size+1) (w.heap.size+1+1) (w.heap.size+1+1+1) (w.heap.size+1+1+1+1) (w.heap.size+1+1+1+1+1) (w.heap.size+1+1+1+1+1+1) (w.heap.size+1+1+1+1+1+1+1)).toList->(loadVar 325 ⟨w.heap.size,0,none⟩).run prog W=.ok (.agg (cU (w.heap.size+1) (w.heap.size+1+1) (w.heap.size+1+1+1) (w.heap.size+1+1+1+1) (w.heap.size+1+1+1+1+1) (w.heap.size+1+1+1+1+1+1) (w.heap.size+1+1+1+1+1+1+1))) W:=λW h =>
  run_loadVar_mid W w.heap.size 0 325 _ (.array 32 324) h zoB U zjH
 have n:=hid a;clear a;go_enter func255,ntmps255;go_wp2_with (first
  | (go_at_call 300;refine(zoA _ _).mono ?_;rintro e w' ⟨rfl,rfl⟩)
  | (go_at_call 306;refine(zqr _ _).mono ?_;rintro e w' ⟨rfl,rfl⟩)
  | (refine wpList_store_mid U 325 (.tmp 0) (.tmp 8) U w.heap.size 0 _ U U ?_ ?_ ?_ ?_
     ·exact World.there_alloc (World.there_alloc (World.there_alloc (World.there_alloc (World.there_alloc (World.there_alloc (World.there_alloc (zfz w _ _ 32 U) _) _) _) _) _) _) _
     ·exact zjH
     ·exact zqs (w.heap.size+1) (w.heap.size+1+1) (w.heap.size+1+1+1) (w.heap.size+1+1+1+1) (w.heap.size+1+1+1+1+1) (w.heap.size+1+1+1+1+1+1) (w.heap.size+1+1+1+1+1+1+1)
     refine cutL (λW=>W.rangeAt w.heap.size 0 (cU (w.heap.size+1) (w.heap.size+1+1) (w.heap.size+1+1+1) (w.heap.size+1+1+1+1) (w.heap.size+1+1+1+1+1) (w.heap.size+1+1+1+1+1+1) (w.heap.size+1+1+1+1+1+1+1)).toList/\boxes W (w.heap.size+1) (w.heap.size+1+1) (w.heap.size+1+1+1) (w.heap.size+1+1+1+1) (w.heap.size+1+1+1+1+1) (w.heap.size+1+1+1+1+1+1) (w.heap.size+1+1+1+1+1+1+1)/\Below w.heap.size w W) ⟨?_,?_,?_⟩ ?_
     ·exact World.rangeAt_setCells_same _ _ _ _ (World.there_alloc (World.there_alloc (World.there_alloc (World.there_alloc (World.there_alloc (World.there_alloc (World.there_alloc (zfz w _ _ 32 U) _) _) _) _) _) _) _)
     ·exact zte w _ _ _ _
     ·exact below_setCells (ak _) _ _ _ (stA (stA (stA (stA (stA (stA (stA (stA (J w) _) _) _) _) _) _) _) _)
     rintro W ⟨l,m,hB⟩;have k:=hid l;have o:=hid m;have p:=hid hB;clear l m hB))
 have q:=n.out W k.out;exact ao (v:=.agg (cU (w.heap.size+1) (w.heap.size+1+1) (w.heap.size+1+1+1) (w.heap.size+1+1+1+1) (w.heap.size+1+1+1+1+1) (w.heap.size+1+1+1+1+1+1) (w.heap.size+1+1+1+1+1+1+1))) (by simp only[results,results255];simp;exact q) U ⟨_,_,_,_,_,_,_,U,o.out,p.out⟩
section
variable {σ : Type} {m : C.Mem σ} {B nr nw : Nat} {cr cw : Array Value × Array Value} {I : World -> σ -> Prop} {T : σ -> Nat -> Prop}
theorem PI.boxF(R:RS m B nr nw cr cw I T){w w0 w1:World}{p:Nat}{x:C.St σ}{s':σ}{cs:Array Value}{t:TypeId}(h:PI B nr nw cr cw I T w p x)(b:PM B T p x.s s' w0 w1)(e:w0.heap=(w.alloc (.cells cs t)).heap)(c:t≠104:=by decide):∀ o,w1.frozen? ⟨w.heap.size,o,none⟩=false:=λo=>by
 have a:w.heap.size<w0.heap.size:=by rw[e];simp
 rw[PM.froz b a (by have:=h.lt;omega) (R.outN h.inv e c) o];exact(dC (w:=w.alloc (.cells cs t)) (by rw[e])).trans (Lib.frozen_of_heap (aJ w _) o)
theorem PI.apart(R:RS m B nr nw cr cw I T){w w0 w1:World}{p:Nat}{x:C.St σ}{s':σ}{cs:Array Value}{t:TypeId}(h:PI B nr nw cr cw I T w p x)(c:PM B T p x.s s' w0 w1)(e:w0.heap=(w.alloc (.cells cs t)).heap)(a:t≠104:=by decide):¬ Tw T w1 s' w.heap.size/\w.heap.size≠p:=by
 have d:w.heap.size<w0.heap.size:=by rw[e];simp
 have hp:=h.lt;refine⟨λf=>?_,by omega⟩;rcases c.fresh _ (Or.inr f) with(b|b)|b
 ·omega
 ·exact R.outN h.inv e a b
 ·omega
theorem PI.other(R:RS m B nr nw cr cw I T){w:World}{p:Nat}{x:C.St σ}(h:PI B nr nw cr cw I T w p x){k:Nat}(a:k≠p)(b:¬ Tw T w x.s k)(i:Nat)(v:Value):PI B nr nw cr cw I T (w.setCell ⟨k,i,none⟩ v) p x :=
 ⟨R.keep h.inv (by rw[pQ];exact ak _) (λj c=>bL _ _ _ _ (λe=>b (by have d:j=k:=e;rw[<- d];exact c))),h.own,h.big,(bL _ _ _ _ (λe=>a (show p=k from e).symm)).trans h.blk,h.ok⟩
theorem PI.five(R:RS m B nr nw cr cw I T){w:World}{p:Nat}{x:C.St σ}(h:PI B nr nw cr cw I T w p x){k:Nat}(b:k≠p)(d:¬ Tw T w x.s k)(v0 c v2 v3 v4:Value):PI B nr nw cr cw I T (((((w.setCell ⟨k,0,none⟩ v0).setCell ⟨k,1,none⟩ c).setCell ⟨k,2,none⟩ v2).setCell ⟨k,3,none⟩ v3).setCell ⟨k,4,none⟩ v4) p x /\ ∀ j,¬ Tw T w x.s j->¬ Tw T (((((w.setCell ⟨k,0,none⟩ v0).setCell ⟨k,1,none⟩ c).setCell ⟨k,2,none⟩ v2).setCell ⟨k,3,none⟩ v3).setCell ⟨k,4,none⟩ v4) x.s j :=
 have e:=λy=>d (Tw.set (T:=T) (a:=⟨k,0,none⟩) (v:=v0) y)
 have t2:=λy=>e (Tw.set (T:=T) (a:=⟨k,1,none⟩) (v:=c) y)
 have t3:=λy=>t2 (Tw.set (T:=T) (a:=⟨k,2,none⟩) (v:=v2) y)
 have t4:=λy=>t3 (Tw.set (T:=T) (a:=⟨k,3,none⟩) (v:=v3) y)
 ⟨((((h.other R b d 0 v0).other R b e 1 c).other R b t2 2 v2).other R b t3 3 v3).other R b t4 4 v4,λj f y=>f (Tw.set (Tw.set (Tw.set (Tw.set (Tw.set y)))))⟩
theorem PM.setNew{w w':World}{p:Nat}{s s':σ}(h:PM B T p s s' w w')(hB:B<=w.heap.size){k:Nat}(a:w.heap.size<=k)(i:Nat)(v:Value):PM B T p s s' w (w'.setCell ⟨k,i,none⟩ v):=(Mv.setCell h (ax hB a) (Or.inr a) v).weak (λk a=>Or.inl (a.imp id Tw.set))
theorem rLen_or(a:Int):O.rLen a=1 \/ O.rLen a=2:=by unfold O.rLen;split <;> simp
theorem zqt(R:RS m B nr nw cr cw I T)(w:World)(p:Nat)(x:C.St σ)(k:PI B nr nw cr cw I T w p x)(a:Int)(o:(m.rdw x.s x.c.PC).1=a)(u:O.rLen a=1):Calls prog 253 #[.pointer (some ⟨p,0,none⟩)] w λe w'=>e=.returned (gR a 0)/\PI B nr nw cr cw I T w' p ⟨{ x.c with PC:=(x.c.PC+2)%65536 },(m.rdw x.s x.c.PC).2,x.n⟩/\PM B T p x.s (m.rdw x.s x.c.PC).2 w w':=by
 have hb:=R.word x.s x.c.PC;rw[o] at hb;have P:=hid o;have z:=hid (λW (h:PI B nr nw cr cw I T W p x)=>zia R W p x h);rw[o] at z;have E:=k.lt;have f:=hid k;have b:=hid R;have F:=hid (k.box R (.cells #[.int .i64 0,.int .i64 0,.int .i64 0,.int .i64 0,.int .i64 0] 191));have H:=hid (PM.box R k (.cells #[.int .i64 0,.int .i64 0,.int .i64 0,.int .i64 0,.int .i64 0] 191));have V:=hid u;have L:¬ (1:Int)<O.rLen a:=by omega
 unfold gR;clear k R o u;go_enter func253,ntmps253;go_wp2_with (first
  | (go_at_call 287;refine(z.out _ ?_).mono ?_;(exact F.out);rintro e w1 ⟨rfl,l,g⟩;obtain⟨i,q⟩:=f.out.boxS b.out g U;have M:=f.out.boxF b.out g U;have j:=hid l;clear l)
  | (go_at_call 271;refine(ze6 a 0 hb (by omega) _ (b.out.shapes j.out.inv)).mono ?_;unfold gR;rintro e w2 ⟨rfl,d⟩;obtain⟨N,X⟩:=bQ d;have z2:w.heap.size<w2.heap.size:=ap i d.size))
 obtain⟨r,t⟩:=f.out.apart b.out g U;refine ao (v:=.agg #[.int .i64 (O.rOp a),.int .i64 (O.rD a),.int .i64 (O.rS a),.int .i64 (O.rN a),.int .i64 (O.rW a 0)]) (by simp[results,results253,go_sem,z2,N,i,q]) U ⟨U,?_,?_⟩
 ·exact(((j.out.kept b.out d).five b.out t (λy=>r (y.same (d.block _ i))) _ _ _ _ _).1.box b.out _).same b.out U
 ·exact((((((((H.out.trans g).kept (j.out.hB b.out) d).setNew (f.out.hB b.out) (ak _) 0 _).setNew (f.out.hB b.out) (ak _) 1 _).setNew (f.out.hB b.out) (ak _) 2 _).setNew (f.out.hB b.out) (ak _) 3 _).setNew (f.out.hB b.out) (ak _) 4 _).alloc (f.out.hB b.out) _)
theorem zqu(R:RS m B nr nw cr cw I T)(w:World)(p:Nat)(x:C.St σ)(N:PI B nr nw cr cw I T w p x)(a b:Int)(f:C.St σ)(z:f=⟨{ x.c with PC:=(x.c.PC+2)%65536 },(m.rdw x.s x.c.PC).2,x.n⟩)(ha:(m.rdw x.s x.c.PC).1=a)(hl:O.rLen a=2)(E:(m.rdw f.s f.c.PC).1=b):Calls prog 253 #[.pointer (some ⟨p,0,none⟩)] w λe w'=>e=.returned (gR a b)/\PI B nr nw cr cw I T w' p ⟨{ f.c with PC:=(f.c.PC+2)%65536 },(m.rdw f.s f.c.PC).2,f.n⟩/\PM B T p x.s (m.rdw f.s f.c.PC).2 w w':=by
 have hb:=R.word x.s x.c.PC;rw[ha] at hb;have P:=R.word f.s f.c.PC;rw[E] at P;have HN:=hid (λW (h:PI B nr nw cr cw I T W p x)=>zia R W p x h);rw[ha,<- z] at HN;have V:=hid (λW (h:PI B nr nw cr cw I T W p f)=>zia R W p f h);rw[E] at V;have es:f.s=(m.rdw x.s x.c.PC).2:=by rw[z]
 rw[<- es] at HN;have hlt:=N.lt;have HP:=hid N;have g:=hid R;have HB:=hid (N.box R (.cells #[.int .i64 0,.int .i64 0,.int .i64 0,.int .i64 0,.int .i64 0] 191));have HM:=hid (PM.box R N (.cells #[.int .i64 0,.int .i64 0,.int .i64 0,.int .i64 0,.int .i64 0] 191));have hl1:(1:Int)<O.rLen a:=by omega
 unfold gR;clear N R ha hl E z es;go_enter func253,ntmps253;go_wp2_with (first
  | (go_at_call 287;first
      | (refine(V.out _ ?_).mono ?_;(exact HB2.out);rintro e u ⟨rfl,X,d⟩;obtain⟨z3,q3⟩:=F.out.boxS g.out d U;have hf3:=F.out.boxF g.out d U;have H:=hKP.out u d;have L:=hid X;clear X)
      | (refine(HN.out _ ?_).mono ?_;(exact HB.out);rintro e w1 ⟨rfl,Y,q⟩;obtain⟨k,hq1⟩:=HP.out.boxS g.out q U;have hf1:=HP.out.boxF g.out q U;obtain⟨M,r⟩:=HP.out.apart g.out q U;have t:=hid Y;clear Y))
  | (go_at_call 271;first
      | (refine(ze6 a b hb P _ (g.out.shapes L.out.inv)).mono ?_;unfold gR;rintro e w4 ⟨rfl,j⟩;obtain⟨k4,g4⟩:=bQ j;have z4:=ap z3 j.size;have z4':=ap H.1 j.size)
      | (refine(ze6 a 0 hb (by omega) _ (g.out.shapes t.out.inv)).mono ?_;unfold gR;rintro e w2 ⟨rfl,i⟩;obtain⟨k2,g2⟩:=bQ i;have z2:w.heap.size<w2.heap.size:=ap k i.size;have F:=hid (t.out.kept g.out i);have HB2:=hid ((t.out.kept g.out i).box g.out (.cells #[.int .i64 (O.rOp a),.int .i64 (O.rD a),.int .i64 (O.rS a),.int .i64 (O.rN a),.int .i64 (O.rW a 0)] 191));have hKP:Hid (∀ u,PM B T p f.s (m.rdw f.s f.c.PC).2 (w2.alloc (.cells #[.int .i64 (O.rOp a),.int .i64 (O.rD a),.int .i64 (O.rS a),.int .i64 (O.rN a),.int .i64 (O.rW a 0)] 191)) u->w.heap.size<u.heap.size/\(∀ o,u.cell? ⟨w.heap.size,o,none⟩=w2.cell? ⟨w.heap.size,o,none⟩) /\ ∀ o,u.frozen? ⟨w.heap.size,o,none⟩=false):=λu d=>⟨ap (ap z2 (by simp)) d.size,λo=>(PM.cell d (by simp;omega) r (λy=>M ((y.same (bO _ _ z2)).same (i.block _ k))) o).trans (aK _ _ _ z2),λo=>(PM.froz d (by simp;omega) r (λy=>M ((y.same (bO _ _ z2)).same (i.block _ k))) o).trans ((dC (w:=w2) (bO _ _ z2)).trans ((g2 _ _ k).trans (hf1 o)))⟩)))
 have hb3:¬ Tw T u (m.rdw f.s f.c.PC).2 w.heap.size:=λht=>by
  rcases d.fresh _ (Or.inr ht) with(Z|Z)|Z
  ·exact r Z
  ·exact M ((Z.same (gJ _ _ _ z2)).same (i.block _ k))
  ·simp at Z;omega
 obtain⟨ha3,hp3⟩:=F.out.apart g.out d U;refine ao (v:=.agg #[.int .i64 (O.rOp a),.int .i64 (O.rD a),.int .i64 (O.rS a),.int .i64 (O.rN a),.int .i64 (O.rW a b)]) (by simp[results,results253,go_sem,k4,H,k2,k,hq1]) U ⟨U,?_,?_⟩
 ·have h4:=L.out.kept g.out j
  obtain⟨h5,h6⟩:=h4.five g.out hp3 (λy=>ha3 (y.same (j.block _ z3))) (.int .i64 (O.rOp a)) (.int .i64 (O.rD a)) (.int .i64 (O.rS a)) (.int .i64 (O.rN a)) (.int .i64 (O.rW a b));exact(h5.five g.out r (h6 _ (λy=>hb3 (y.same (j.block _ H.1)))) _ _ _ _ _).1
 ·have hB:=HP.out.hB g.out
  have l:w.heap.size<=w2.heap.size:=by omega
  exact((((((((((((((HM.out.trans q).kept (t.out.hB g.out) i).alloc hB _).trans d).kept (L.out.hB g.out) j).setNew hB l 0 _).setNew hB l 1 _).setNew hB l 2 _).setNew hB l 3 _).setNew hB l 4 _).setNew hB (ak _) 0 _).setNew hB (ak _) 1 _).setNew hB (ak _) 2 _).setNew hB (ak _) 3 _).setNew hB (ak _) 4 _
theorem zqv(R:RS m B nr nw cr cw I T)(w:World)(p:Nat)(x:C.St σ)(a:PI B nr nw cr cw I T w p x):Calls prog 253 #[.pointer (some ⟨p,0,none⟩)] w λe w'=>e=.returned (gR (C.word1 m x.c x.s) (C.word2 m x.c x.s))/\PI B nr nw cr cw I T w' p { C.behind m x.c x.s with n:=x.n }/\PM B T p x.s (C.behind m x.c x.s).s w w':=by
 rcases rLen_or (C.word1 m x.c x.s) with h|h
 ·have h2:¬ O.rLen (C.word1 m x.c x.s)=2:=by omega
  have e1:C.word2 m x.c x.s=0:=by unfold C.word2;rw[G h2]
  have e2:C.behind m x.c x.s=⟨{ x.c with PC:=(x.c.PC+2)%65536 },(m.rdw x.s x.c.PC).2,0⟩:=by unfold C.behind;rw[G h2,h];rfl
  rw[e1,e2];exact zqt R w p x a _ U h
 ·have e1:C.word2 m x.c x.s=(m.rdw (m.rdw x.s x.c.PC).2 ((x.c.PC+2)%65536)).1:=by unfold C.word2;rw[Q h]
  have e2:C.behind m x.c x.s=⟨{ x.c with PC:=((x.c.PC+2)%65536+2)%65536 },(m.rdw (m.rdw x.s x.c.PC).2 ((x.c.PC+2)%65536)).2,0⟩:=by
   unfold C.behind;rw[Q h,h];have:(x.c.PC+2*2)%65536=((x.c.PC+2)%65536+2)%65536:=by omega
   rw[this]
  rw[e1,e2];exact zqu R w p x a _ _ _ U U h U
end
section
variable {σ : Type} {m : C.Mem σ} {B nr nw : Nat} {cr cw : Array Value × Array Value} {I : World -> σ -> Prop} {T : σ -> Nat -> Prop}
theorem zv1(R:RS m B nr nw cr cw I T)(d s:Nat)(n v:Int)(g:0<=v)(a:v<=65535)(b:Nat)(w:World)(p:Nat)(x:C.St σ)(e:0<=x.n)(f:x.n<=100)(h:PI B nr nw cr cw I T w p x)(hb:w.cell? ⟨b,0,none⟩=some (fv 307 #[])):Calls prog 357 #[.pointer (some ⟨p,0,none⟩),iI 16 d s n v,.pointer (some ⟨b,0,none⟩)] w (AP B nr nw cr cw I T w p x (C.act m x 16 d s n v)) :=
 tH R _ (Or.inl rfl) true 16 d s n v g a b w p x e f h _ rfl hb (λW=>zvX x.c W)
theorem zv2(R:RS m B nr nw cr cw I T)(d s:Nat)(n v:Int)(g:0<=v)(a:v<=65535)(b:Nat)(w:World)(p:Nat)(x:C.St σ)(e:0<=x.n)(f:x.n<=100)(h:PI B nr nw cr cw I T w p x)(hb:w.cell? ⟨b,0,none⟩=some (fv 308 #[])):Calls prog 357 #[.pointer (some ⟨p,0,none⟩),iI 17 d s n v,.pointer (some ⟨b,0,none⟩)] w (AP B nr nw cr cw I T w p x (C.act m x 17 d s n v)) :=
 tH R _ (Or.inr (Or.inl rfl)) x.c.Z 17 d s n v g a b w p x e f h _ rfl hb (λW=>zvY x.c W)
theorem zv3(R:RS m B nr nw cr cw I T)(d s:Nat)(n v:Int)(g:0<=v)(a:v<=65535)(b:Nat)(w:World)(p:Nat)(x:C.St σ)(e:0<=x.n)(f:x.n<=100)(h:PI B nr nw cr cw I T w p x)(hb:w.cell? ⟨b,0,none⟩=some (fv 309 #[])):Calls prog 357 #[.pointer (some ⟨p,0,none⟩),iI 18 d s n v,.pointer (some ⟨b,0,none⟩)] w (AP B nr nw cr cw I T w p x (C.act m x 18 d s n v)) :=
 tH R _ (Or.inr (Or.inr (Or.inl rfl))) x.c.N 18 d s n v g a b w p x e f h _ rfl hb (λW=>zvZ x.c W)
theorem zv4(R:RS m B nr nw cr cw I T)(d s:Nat)(n v:Int)(g:0<=v)(a:v<=65535)(b:Nat)(w:World)(p:Nat)(x:C.St σ)(e:0<=x.n)(f:x.n<=100)(h:PI B nr nw cr cw I T w p x)(hb:w.cell? ⟨b,0,none⟩=some (fv 310 #[])):Calls prog 357 #[.pointer (some ⟨p,0,none⟩),iI 19 d s n v,.pointer (some ⟨b,0,none⟩)] w (AP B nr nw cr cw I T w p x (C.act m x 19 d s n v)) :=
 tH R _ (Or.inr (Or.inr (Or.inr (Or.inl rfl)))) x.c.C 19 d s n v g a b w p x e f h _ rfl hb (λW=>zv0 x.c W)
theorem zv5(R:RS m B nr nw cr cw I T)(d s:Nat)(n v:Int)(g:0<=v)(a:v<=65535)(b:Nat)(w:World)(p:Nat)(x:C.St σ)(e:0<=x.n)(f:x.n<=100)(h:PI B nr nw cr cw I T w p x)(hb:w.cell? ⟨b,0,none⟩=some (fv 321 #[])):Calls prog 357 #[.pointer (some ⟨p,0,none⟩),iI 29 d s n v,.pointer (some ⟨b,0,none⟩)] w (AP B nr nw cr cw I T w p x (C.act m x 29 d s n v)) :=
 tH R _ (Or.inr (Or.inr (Or.inr (Or.inr rfl)))) (!x.c.Z) 29 d s n v g a b w p x e f h _ (by show (if x.c.Z then x else C.jump x v)=_;cases x.c.Z <;> rfl) hb (λW=>ztd x.c W)
theorem ztf(a b c d e f g:Nat)(w:World):(Instr.index 325 (.agg (cU a b c d e f g)) (.int .i64 0)).run prog w=.ok (fv 289 #[]) w:=by kernel_rfl
theorem ztg(a b c d e f g:Nat)(w:World):(Instr.index 325 (.agg (cU a b c d e f g)) (.int .i64 1)).run prog w=.ok (fv 290 #[]) w:=by kernel_rfl
theorem zth(a b c d e f g:Nat)(w:World):(Instr.index 325 (.agg (cU a b c d e f g)) (.int .i64 2)).run prog w=.ok (fv 291 #[]) w:=by kernel_rfl
theorem zti(a b c d e f g:Nat)(w:World):(Instr.index 325 (.agg (cU a b c d e f g)) (.int .i64 3)).run prog w=.ok (fv 292 #[]) w:=by kernel_rfl
theorem ztj(a b c d e f g:Nat)(w:World):(Instr.index 325 (.agg (cU a b c d e f g)) (.int .i64 4)).run prog w=.ok (fv 294 #[]) w:=by kernel_rfl
theorem ztk(a b c d e f g:Nat)(w:World):(Instr.index 325 (.agg (cU a b c d e f g)) (.int .i64 5)).run prog w=.ok (fv 296 #[]) w:=by kernel_rfl
theorem ztl(a b c d e f g:Nat)(w:World):(Instr.index 325 (.agg (cU a b c d e f g)) (.int .i64 6)).run prog w=.ok (fv 297 #[]) w:=by kernel_rfl
theorem ztm(a b c d e f g:Nat)(w:World):(Instr.index 325 (.agg (cU a b c d e f g)) (.int .i64 7)).run prog w=.ok (fv 299 #[]) w:=by kernel_rfl
theorem ztn(a b c d e f g:Nat)(w:World):(Instr.index 325 (.agg (cU a b c d e f g)) (.int .i64 8)).run prog w=.ok (fv 299 #[]) w:=by kernel_rfl
theorem zto(a b c d e f g:Nat)(w:World):(Instr.index 325 (.agg (cU a b c d e f g)) (.int .i64 9)).run prog w=.ok (fv 299 #[]) w:=by kernel_rfl
theorem zqw(a b c d e f g:Nat)(w:World):(Instr.index 325 (.agg (cU a b c d e f g)) (.int .i64 10)).run prog w=.ok (fv 299 #[]) w:=by kernel_rfl
theorem zqx(a b c d e f g:Nat)(w:World):(Instr.index 325 (.agg (cU a b c d e f g)) (.int .i64 11)).run prog w=.ok (fv 299 #[]) w:=by kernel_rfl
theorem zqy(a b c d e f g:Nat)(w:World):(Instr.index 325 (.agg (cU a b c d e f g)) (.int .i64 12)).run prog w=.ok (fv 353 #[.pointer (some ⟨a,0,none⟩)]) w:=by kernel_rfl
theorem zqz(b a c d e f g:Nat)(w:World):(Instr.index 325 (.agg (cU b a c d e f g)) (.int .i64 13)).run prog w=.ok (fv 353 #[.pointer (some ⟨a,0,none⟩)]) w:=by kernel_rfl
theorem zqA(a b c d e f g:Nat)(w:World):(Instr.index 325 (.agg (cU a b c d e f g)) (.int .i64 14)).run prog w=.ok (fv 303 #[]) w:=by kernel_rfl
theorem zqB(a b c d e f g:Nat)(w:World):(Instr.index 325 (.agg (cU a b c d e f g)) (.int .i64 15)).run prog w=.ok (fv 305 #[]) w:=by kernel_rfl
theorem zqC(b c a d e f g:Nat)(w:World):(Instr.index 325 (.agg (cU b c a d e f g)) (.int .i64 16)).run prog w=.ok (fv 357 #[.pointer (some ⟨a,0,none⟩)]) w:=by kernel_rfl
theorem zqD(b c d a e f g:Nat)(w:World):(Instr.index 325 (.agg (cU b c d a e f g)) (.int .i64 17)).run prog w=.ok (fv 357 #[.pointer (some ⟨a,0,none⟩)]) w:=by kernel_rfl
theorem zqE(b c d e a f g:Nat)(w:World):(Instr.index 325 (.agg (cU b c d e a f g)) (.int .i64 18)).run prog w=.ok (fv 357 #[.pointer (some ⟨a,0,none⟩)]) w:=by kernel_rfl
theorem zqF(b c d e f a g:Nat)(w:World):(Instr.index 325 (.agg (cU b c d e f a g)) (.int .i64 19)).run prog w=.ok (fv 357 #[.pointer (some ⟨a,0,none⟩)]) w:=by kernel_rfl
theorem zqG(a b c d e f g:Nat)(w:World):(Instr.index 325 (.agg (cU a b c d e f g)) (.int .i64 20)).run prog w=.ok (fv 311 #[]) w:=by kernel_rfl
theorem zqH(a b c d e f g:Nat)(w:World):(Instr.index 325 (.agg (cU a b c d e f g)) (.int .i64 21)).run prog w=.ok (fv 312 #[]) w:=by kernel_rfl
theorem zqI(a b c d e f g:Nat)(w:World):(Instr.index 325 (.agg (cU a b c d e f g)) (.int .i64 22)).run prog w=.ok (fv 314 #[]) w:=by kernel_rfl
theorem zqJ(a b c d e f g:Nat)(w:World):(Instr.index 325 (.agg (cU a b c d e f g)) (.int .i64 23)).run prog w=.ok (fv 315 #[]) w:=by kernel_rfl
theorem zqK(a b c d e f g:Nat)(w:World):(Instr.index 325 (.agg (cU a b c d e f g)) (.int .i64 24)).run prog w=.ok (fv 316 #[]) w:=by kernel_rfl
theorem zqL(a b c d e f g:Nat)(w:World):(Instr.index 325 (.agg (cU a b c d e f g)) (.int .i64 25)).run prog w=.ok (fv 317 #[]) w:=by kernel_rfl
theorem zqM(a b c d e f g:Nat)(w:World):(Instr.index 325 (.agg (cU a b c d e f g)) (.int .i64 26)).run prog w=.ok (fv 318 #[]) w:=by kernel_rfl
theorem zqN(a b c d e f g:Nat)(w:World):(Instr.index 325 (.agg (cU a b c d e f g)) (.int .i64 27)).run prog w=.ok (fv 320 #[]) w:=by kernel_rfl
theorem zqO(a b c d e f g:Nat)(w:World):(Instr.index 325 (.agg (cU a b c d e f g)) (.int .i64 28)).run prog w=.ok (fv 299 #[]) w:=by kernel_rfl
theorem zqP(b c d e f g a:Nat)(w:World):(Instr.index 325 (.agg (cU b c d e f g a)) (.int .i64 29)).run prog w=.ok (fv 357 #[.pointer (some ⟨a,0,none⟩)]) w:=by kernel_rfl
theorem zqQ(a b c d e f g:Nat)(w:World):(Instr.index 325 (.agg (cU a b c d e f g)) (.int .i64 31)).run prog w=.ok (fv 322 #[]) w:=by kernel_rfl
end
section
variable {σ : Type} {m : C.Mem σ} {B nr nw : Nat} {cr cw : Array Value × Array Value} {I : World -> σ -> Prop} {T : σ -> Nat -> Prop}
theorem lp(R:RS m B nr nw cr cw I T)(k:Nat)(hk:k<32)(X:k≠30)(g:Nat)(hcf:∀(a:Array Value) (w:World),(callFunc g a).run prog w=.ok (.enter g a) w)
 (hi:∀(i j l o q t z:Nat) (w:World),(Instr.index 325 (.agg (cU i j l o q t z)) (.int .i64 k)).run prog w=.ok (fv g #[]) w)
 (d s:Nat) (n v:Int) (r:Bool) (w:World) (p:Nat) (x y:C.St σ) (hP:PI B nr nw cr cw I T w p x) (hr:(r && x.c.May)=false) (hw:x.c.Waits=false)
 (hF:Calls prog 253 #[.pointer (some ⟨p,0,none⟩)] w λe w'=>e=.returned (iI k d s n v)/\PI B nr nw cr cw I T w' p y/\PM B T p x.s y.s w w')
 (hA:∀(W:World) (i j l o q t z:Nat),boxes W i j l o q t z->PI B nr nw cr cw I T W p ⟨y.c,y.s,K.cyc k⟩->Calls prog g #[.pointer (some ⟨p,0,none⟩),iI k d s n v] W (AP B nr nw cr cw I T W p ⟨y.c,y.s,K.cyc k⟩ (C.act m ⟨y.c,y.s,K.cyc k⟩ k d s n v))) :
 Calls prog 203 #[.pointer (some ⟨p,0,none⟩),.bool r] w (AP B nr nw cr cw I T w p x (C.act m ⟨y.c,y.s,K.cyc k⟩ k d s n v)):=by
 obtain⟨_,_,_,_,_,Y,Z,_,_,_⟩:=hP.cells;have hlt:=hP.lt;have HP:=hid hP;have L:=hid R;have HF:=hid hF;have HA:=hid hA;have hk32:(k:Int)<32:=by omega
 have hk0:(0:Int)<=k:=by omega
 rw[hw] at Z;clear hP R hF hw hA;cases r
 case' true =>
  simp only[ke] at hr;rw[hr] at Y;clear hr
 all_goals
  go_enter func203,ntmps203;go_wp2_with (first
   | (go_at_call 253;refine HF.out.mono ?_;rintro e w1 ⟨rfl,E,hm1⟩;have hl1:=E.lt;have f1:=E.frozen 17;obtain⟨_,_,_,_,_,_,_,_,_,e17⟩:=E.cells;have M:=hid E;clear E)
   | (go_at_call 254;refine(zg6 k hk X _ (L.out.shapes (M.out.box L.out _).inv)).mono ?_;rintro e w2 ⟨rfl,F⟩;obtain⟨P,g2⟩:=bQ F;have H:=(M.out.box L.out _).kept L.out F;have hl2:=H.lt;have f2:=H.frozen 17;obtain⟨_,_,_,_,_,_,_,_,_,h17⟩:=H.cells;have z2:w1.heap.size<w2.heap.size:=by have:=F.size;simp at this;omega
      have o0:Hid (∀ u,p≠w1.heap.size->(w2.setCell ⟨p,17,none⟩ u).cell? ⟨w1.heap.size,0,none⟩=some (.int .i64 k)):=λu h=>(az _ _ _ _ (by simp)).trans ((P _ 0 (by simp)).trans (jb _ _ _ _ U))
      have o1:Hid (∀ u,p≠w1.heap.size->(w2.setCell ⟨p,17,none⟩ u).cell? ⟨w1.heap.size,1,none⟩=some (.int .i64 d)):=λu h=>(az _ _ _ _ (by simp)).trans ((P _ 1 (by simp)).trans (jb _ _ _ _ U))
      have o2:Hid (∀ u,p≠w1.heap.size->(w2.setCell ⟨p,17,none⟩ u).cell? ⟨w1.heap.size,2,none⟩=some (.int .i64 s)):=λu h=>(az _ _ _ _ (by simp)).trans ((P _ 2 (by simp)).trans (jb _ _ _ _ U))
      have o3:Hid (∀ u,p≠w1.heap.size->(w2.setCell ⟨p,17,none⟩ u).cell? ⟨w1.heap.size,3,none⟩=some (.int .i64 n)):=λu h=>(az _ _ _ _ (by simp)).trans ((P _ 3 (by simp)).trans (jb _ _ _ _ U))
      have o4:Hid (∀ u,p≠w1.heap.size->(w2.setCell ⟨p,17,none⟩ u).cell? ⟨w1.heap.size,4,none⟩=some (.int .i64 v)):=λu h=>(az _ _ _ _ (by simp)).trans ((P _ 4 (by simp)).trans (jb _ _ _ _ U))
      have HY2:=hid (H.putCyc L.out (K.cyc k));have b:p≠w1.heap.size:=by omega
      clear H))
  refine cutW (λW=>PI B nr nw cr cw I T W p ⟨y.c,y.s,K.cyc k⟩/\PM B T p x.s y.s w W/\w1.heap.size<W.heap.size/\W.cell? ⟨w1.heap.size,0,none⟩=some (.int .i64 k)/\W.cell? ⟨w1.heap.size,1,none⟩=some (.int .i64 d)/\W.cell? ⟨w1.heap.size,2,none⟩=some (.int .i64 s)/\W.cell? ⟨w1.heap.size,3,none⟩=some (.int .i64 n)/\W.cell? ⟨w1.heap.size,4,none⟩=some (.int .i64 v)) ⟨HY2.out,((hm1.alloc (HP.out.hB L.out) _).kept ((M.out.box L.out _).hB L.out) F).set HP.out.big 17 _,by rw[pQ];exact z2,o0.out _ b,o1.out _ b,o2.out _ b,o3.out _ b,o4.out _ b⟩ ?_;clear e17 f1 f2 h17 P g2 hl2 hl1 z2 F hm1 HY2 M Y Z b;rintro W ⟨hW,hmW,f,q0,q1,q2,q3,q4⟩;have HW:=hid hW;have HMW:=hid hmW;clear hW hmW;go_region_held3 (λw'=>w'.cell? ⟨w1.heap.size,0,none⟩=some (.int .i64 k))
   ((go_keep;done))
   ((go_at_call 255;refine(zns _).mono ?_;rintro e w3 ⟨i,j,l,o,q,t,z,rfl,hX,N⟩;obtain⟨V,g3⟩:=bQ N;have z3:=ap f N.size;have r0:=(V _ 0 f).trans q0;have r1:=(V _ 1 f).trans q1;have r2:=(V _ 2 f).trans q2;have r3:=(V _ 3 f).trans q3;have r4:=(V _ 4 f).trans q4;have HX:=hid hX;clear hX V g3))
  go_wp2_with (refine(HA.out _ i j l o q t z HX.out ?_).mono ?_;(exact HW.out.kept L.out (bn (J W).drew N));rintro e w4 ⟨rfl,hP4,hm4⟩)
  go_end0;exact⟨U,hP4,(HMW.out.kept (HW.out.hB L.out) (bn (J W).drew N)).trans hm4⟩
theorem rl(R:RS m B nr nw cr cw I T)(k:Nat)(hk:k<32)(Y:k≠30)(g:Nat)(hcf:∀(a:Array Value) (w:World),(callFunc g a).run prog w=.ok (.enter g a) w)(q:Nat->Nat->Nat->Nat->Nat->Nat->Nat->Nat)
 (hi:∀(b f i j l o t:Nat) (w:World),(Instr.index 325 (.agg (cU b f i j l o t)) (.int .i64 k)).run prog w=.ok (fv g #[.pointer (some ⟨q b f i j l o t,0,none⟩)]) w)
 (d s:Nat) (n v:Int) (r:Bool) (w:World) (p:Nat) (x y:C.St σ) (hP:PI B nr nw cr cw I T w p x) (hr:(r && x.c.May)=false) (hw:x.c.Waits=false)
 (hF:Calls prog 253 #[.pointer (some ⟨p,0,none⟩)] w λe w'=>e=.returned (iI k d s n v)/\PI B nr nw cr cw I T w' p y/\PM B T p x.s y.s w w')
 (hA:∀(W:World) (b f i j l o t:Nat),boxes W b f i j l o t->PI B nr nw cr cw I T W p ⟨y.c,y.s,K.cyc k⟩->Calls prog g #[.pointer (some ⟨p,0,none⟩),iI k d s n v,.pointer (some ⟨q b f i j l o t,0,none⟩)] W (AP B nr nw cr cw I T W p ⟨y.c,y.s,K.cyc k⟩ (C.act m ⟨y.c,y.s,K.cyc k⟩ k d s n v))) :
 Calls prog 203 #[.pointer (some ⟨p,0,none⟩),.bool r] w (AP B nr nw cr cw I T w p x (C.act m ⟨y.c,y.s,K.cyc k⟩ k d s n v)):=by
 obtain⟨_,_,_,_,_,Z,c14,_,_,_⟩:=hP.cells;have hlt:=hP.lt;have HP:=hid hP;have M:=hid R;have HF:=hid hF;have HA:=hid hA;have hk32:(k:Int)<32:=by omega
 have hk0:(0:Int)<=k:=by omega
 rw[hw] at c14;clear hP R hF hw hA;cases r
 case' true =>
  simp only[ke] at hr;rw[hr] at Z;clear hr
 all_goals
  go_enter func203,ntmps203;go_wp2_with (first
   | (go_at_call 253;refine HF.out.mono ?_;rintro e w1 ⟨rfl,F,hm1⟩;have hl1:=F.lt;have f1:=F.frozen 17;obtain⟨_,_,_,_,_,_,_,_,_,e17⟩:=F.cells;have N:=hid F;clear F)
   | (go_at_call 254;refine(zg6 k hk Y _ (M.out.shapes (N.out.box M.out _).inv)).mono ?_;rintro e w2 ⟨rfl,H⟩;obtain⟨V,g2⟩:=bQ H;have L:=(N.out.box M.out _).kept M.out H;have hl2:=L.lt;have f2:=L.frozen 17;obtain⟨_,_,_,_,_,_,_,_,_,h17⟩:=L.cells;have z2:w1.heap.size<w2.heap.size:=by have:=H.size;simp at this;omega
      have o0:Hid (∀ u,p≠w1.heap.size->(w2.setCell ⟨p,17,none⟩ u).cell? ⟨w1.heap.size,0,none⟩=some (.int .i64 k)):=λu h=>(az _ _ _ _ (by simp)).trans ((V _ 0 (by simp)).trans (jb _ _ _ _ U))
      have o1:Hid (∀ u,p≠w1.heap.size->(w2.setCell ⟨p,17,none⟩ u).cell? ⟨w1.heap.size,1,none⟩=some (.int .i64 d)):=λu h=>(az _ _ _ _ (by simp)).trans ((V _ 1 (by simp)).trans (jb _ _ _ _ U))
      have o2:Hid (∀ u,p≠w1.heap.size->(w2.setCell ⟨p,17,none⟩ u).cell? ⟨w1.heap.size,2,none⟩=some (.int .i64 s)):=λu h=>(az _ _ _ _ (by simp)).trans ((V _ 2 (by simp)).trans (jb _ _ _ _ U))
      have o3:Hid (∀ u,p≠w1.heap.size->(w2.setCell ⟨p,17,none⟩ u).cell? ⟨w1.heap.size,3,none⟩=some (.int .i64 n)):=λu h=>(az _ _ _ _ (by simp)).trans ((V _ 3 (by simp)).trans (jb _ _ _ _ U))
      have o4:Hid (∀ u,p≠w1.heap.size->(w2.setCell ⟨p,17,none⟩ u).cell? ⟨w1.heap.size,4,none⟩=some (.int .i64 v)):=λu h=>(az _ _ _ _ (by simp)).trans ((V _ 4 (by simp)).trans (jb _ _ _ _ U))
      have HY2:=hid (L.putCyc M.out (K.cyc k));have z:p≠w1.heap.size:=by omega
      clear L))
  refine cutW (λW=>PI B nr nw cr cw I T W p ⟨y.c,y.s,K.cyc k⟩/\PM B T p x.s y.s w W/\w1.heap.size<W.heap.size/\W.cell? ⟨w1.heap.size,0,none⟩=some (.int .i64 k)/\W.cell? ⟨w1.heap.size,1,none⟩=some (.int .i64 d)/\W.cell? ⟨w1.heap.size,2,none⟩=some (.int .i64 s)/\W.cell? ⟨w1.heap.size,3,none⟩=some (.int .i64 n)/\W.cell? ⟨w1.heap.size,4,none⟩=some (.int .i64 v)) ⟨HY2.out,((hm1.alloc (HP.out.hB M.out) _).kept ((N.out.box M.out _).hB M.out) H).set HP.out.big 17 _,by rw[pQ];exact z2,o0.out _ z,o1.out _ z,o2.out _ z,o3.out _ z,o4.out _ z⟩ ?_;clear e17 f1 f2 h17 V g2 hl2 hl1 z2 H hm1 HY2 N Z c14 z;rintro W ⟨hW,hmW,E,q0,q1,q2,q3,q4⟩;have HW:=hid hW;have HMW:=hid hmW;clear hW hmW;go_region_held3 (λw'=>w'.cell? ⟨w1.heap.size,0,none⟩=some (.int .i64 k))
   ((go_keep;done))
   ((go_at_call 255;refine(zns _).mono ?_;rintro e w3 ⟨b,f,i,j,l,o,t,rfl,hX,P⟩;obtain⟨X,g3⟩:=bQ P;have z3:=ap E P.size;have r0:=(X _ 0 E).trans q0;have r1:=(X _ 1 E).trans q1;have r2:=(X _ 2 E).trans q2;have r3:=(X _ 3 E).trans q3;have r4:=(X _ 4 E).trans q4;have HX:=hid hX;clear hX X g3))
  go_wp2_with (refine(HA.out _ b f i j l o t HX.out ?_).mono ?_;(exact HW.out.kept M.out (bn (J W).drew P));rintro e w4 ⟨rfl,hP4,hm4⟩)
  go_end0;exact⟨U,hP4,(HMW.out.kept (HW.out.hB M.out) (bn (J W).drew P)).trans hm4⟩
end
theorem lZ(a:Int)(h:0<=a/\a<=65535):O.rk a<32/\O.rk a≠30/\O.rOp a=(O.rk a:Int):=by
 unfold O.rk O.rOp;split <;> omega
theorem qH(a:Int):0<=O.rD a/\O.rD a<=7:=by unfold O.rD;split <;> omega
theorem qI(a:Int):0<=O.rS a/\O.rS a<=7:=by unfold O.rS;split <;> omega
theorem qJ(a:Int):-16<=O.rN a/\O.rN a<=15:=by
 unfold O.rN O.nOf;split
 ·split
  ·omega
  ·split <;> omega
 ·omega
theorem vD(a:Int)(h:O.rk a=12 \/ O.rk a=13):0<=O.rN a:=by
 unfold O.rN O.nOf;split
 ·first|omega|(rw[Q h];omega)
 ·omega
theorem wH(a b:Int)(h:0<=b/\b<=65535):0<=O.rW a b/\O.rW a b<=65535:=by unfold O.rW;split <;> omega
section
variable {σ : Type} {m : C.Mem σ} {B nr nw : Nat} {cr cw : Array Value × Array Value} {I : World -> σ -> Prop} {T : σ -> Nat -> Prop}
theorem zic(R:RS m B nr nw cr cw I T)(c:C.Cpu)(s:σ):0<=C.word1 m c s/\C.word1 m c s<=65535:=R.word _ _
theorem ztp(R:RS m B nr nw cr cw I T)(c:C.Cpu)(s:σ):0<=C.word2 m c s/\C.word2 m c s<=65535:=by
 unfold C.word2;split
 ·exact R.word _ _
 ·omega
theorem RS.fbehind(R:RS m B nr nw cr cw I T)(c:C.Cpu)(s:σ):m.fuel s<=m.fuel (C.behind m c s).s:=by
 unfold C.behind;simp only;split
 ·exact ax (R.frdw _ _) (R.frdw _ _)
 ·exact R.frdw _ _
theorem zoC(R:RS m B nr nw cr cw I T)(r:Bool)(w:World)(p:Nat)(x:C.St σ)(V:4<=m.fuel x.s)(E:PI B nr nw cr cw I T w p x)(F:(r && x.c.May)=false)(H:x.c.Waits=false):Calls prog 203 #[.pointer (some ⟨p,0,none⟩),.bool r] w (AP B nr nw cr cw I T w p x (C.order m x.c x.s)):=by
 have z:=zqv R w p x E;have b1:=zic R x.c x.s;have b2:=ztp R x.c x.s;unfold C.order;generalize C.word1 m x.c x.s=a at z b1 ⊢;generalize C.word2 m x.c x.s=b at z b2 ⊢;have L:4<=m.fuel (C.behind m x.c x.s).s:=ax V (R.fbehind _ _);generalize C.behind m x.c x.s=y at z L ⊢;obtain⟨h32,h30,N⟩:=lZ a b1;have Y:=qH a;have Z:=qI a;have M:=qJ a;have u:=wH a b b2;have P:=vD a;unfold gR at z;rw[N] at z;generalize O.rk a=k at *;generalize O.rN a=n at *;generalize O.rW a b=v at *;obtain⟨d,X⟩:=aB Y.1;obtain⟨s,es⟩:=aB Z.1;rw[X,es] at z;rw[X] at Y;rw[es] at Z;rw[X,es];have q:d<8:=by omega
 have t:s<8:=by omega
 clear N;have hk:k=0 \/ k=1 \/ k=2 \/ k=3 \/ k=4 \/ k=5 \/ k=6 \/ k=7 \/ k=8 \/ k=9 \/ k=10 \/ k=11 \/ k=12 \/ k=13 \/ k=14 \/ k=15 \/ k=16 \/ k=17 \/ k=18 \/ k=19 \/ k=20 \/ k=21 \/ k=22 \/ k=23 \/ k=24 \/ k=25 \/ k=26 \/ k=27 \/ k=28 \/ k=29 \/ k=31:=by omega
 rcases hk with rfl|rfl|rfl|rfl|rfl|rfl|rfl|rfl|rfl|rfl|rfl|rfl|rfl|rfl|rfl|rfl|rfl|rfl|rfl|rfl|rfl|rfl|rfl|rfl|rfl|rfl|rfl|rfl|rfl|rfl|rfl
 ·exact lp R 0 (by decide) (by decide) 289 (λ_ _=>U) ztf d s n v r w p x ⟨y.c,y.s,x.n⟩ E F H z (λW e f g i j l o hB h=>wA R d s n v q t u.1 u.2 W p _ h)
 ·exact lp R 1 (by decide) (by decide) 290 (λ_ _=>U) ztg d s n v r w p x ⟨y.c,y.s,x.n⟩ E F H z (λW e f g i j l o hB h=>wB R d s n v q t u.1 u.2 W p _ h)
 ·exact lp R 2 (by decide) (by decide) 291 (λ_ _=>U) zth d s n v r w p x ⟨y.c,y.s,x.n⟩ E F H z (λW e f g i j l o hB h=>wC R d s n v q t u.1 u.2 W p _ h)
 ·exact lp R 3 (by decide) (by decide) 292 (λ_ _=>U) zti d s n v r w p x ⟨y.c,y.s,x.n⟩ E F H z (λW e f g i j l o hB h=>wD R d s n v q t u.1 u.2 W p _ h)
 ·exact lp R 4 (by decide) (by decide) 294 (λ_ _=>U) ztj d s n v r w p x ⟨y.c,y.s,x.n⟩ E F H z (λW e f g i j l o hB h=>wF R d s n v q t u.1 u.2 W p _ (ax (by decide) L) h)
 ·exact lp R 5 (by decide) (by decide) 296 (λ_ _=>U) ztk d s n v r w p x ⟨y.c,y.s,x.n⟩ E F H z (λW e f g i j l o hB h=>wE R d s n v q t u.1 u.2 W p _ h)
 ·exact lp R 6 (by decide) (by decide) 297 (λ_ _=>U) ztl d s n v r w p x ⟨y.c,y.s,x.n⟩ E F H z (λW e f g i j l o hB h=>wG R d s n v q t u.1 u.2 W p _ (ax (by decide) L) h)
 ·exact lp R 7 (by decide) (by decide) 299 (λ_ _=>U) ztm d s n v r w p x ⟨y.c,y.s,x.n⟩ E F H z (λW e f g i j l o hB h=>sv R 7 (by unfold li;omega) d s n v q t M W p _ h)
 ·exact lp R 8 (by decide) (by decide) 299 (λ_ _=>U) ztn d s n v r w p x ⟨y.c,y.s,x.n⟩ E F H z (λW e f g i j l o hB h=>sv R 8 (by unfold li;omega) d s n v q t M W p _ h)
 ·exact lp R 9 (by decide) (by decide) 299 (λ_ _=>U) zto d s n v r w p x ⟨y.c,y.s,x.n⟩ E F H z (λW e f g i j l o hB h=>sv R 9 (by unfold li;omega) d s n v q t M W p _ h)
 ·exact lp R 10 (by decide) (by decide) 299 (λ_ _=>U) zqw d s n v r w p x ⟨y.c,y.s,x.n⟩ E F H z (λW e f g i j l o hB h=>sv R 10 (by unfold li;omega) d s n v q t M W p _ h)
 ·exact lp R 11 (by decide) (by decide) 299 (λ_ _=>U) zqx d s n v r w p x ⟨y.c,y.s,x.n⟩ E F H z (λW e f g i j l o hB h=>sv R 11 (by unfold li;omega) d s n v q t M W p _ h)
 ·exact rl R 12 (by decide) (by decide) 353 (λ_ _=>U) (λe f g i j l o=>e) zqy d s n v r w p x ⟨y.c,y.s,x.n⟩ E F H z (λW e f g i j l o hB h=>zxK R d s n v q t (P (by decide)) M.2 e W p _ h hB.1)
 ·exact rl R 13 (by decide) (by decide) 353 (λ_ _=>U) (λe f g i j l o=>f) zqz d s n v r w p x ⟨y.c,y.s,x.n⟩ E F H z (λW e f g i j l o hB h=>zxL R d s n v q t (P (by decide)) M.2 f W p _ h hB.2.1)
 ·exact lp R 14 (by decide) (by decide) 303 (λ_ _=>U) zqA d s n v r w p x ⟨y.c,y.s,x.n⟩ E F H z (λW e f g i j l o hB h=>zxz R d s n v q t M W p _ h)
 ·exact lp R 15 (by decide) (by decide) 305 (λ_ _=>U) zqB d s n v r w p x ⟨y.c,y.s,x.n⟩ E F H z (λW e f g i j l o hB h=>zxA R d s n v q t M W p _ h)
 ·exact rl R 16 (by decide) (by decide) 357 (λ_ _=>U) (λe f g i j l o=>g) zqC d s n v r w p x ⟨y.c,y.s,x.n⟩ E F H z (λW e f g i j l o hB h=>zv1 R d s n v u.1 u.2 g W p _ (show (0:Int)<=K.cyc 16 by decide +kernel) (show K.cyc 16<=100 by decide +kernel) h hB.2.2.1)
 ·exact rl R 17 (by decide) (by decide) 357 (λ_ _=>U) (λe f g i j l o=>i) zqD d s n v r w p x ⟨y.c,y.s,x.n⟩ E F H z (λW e f g i j l o hB h=>zv2 R d s n v u.1 u.2 i W p _ (show (0:Int)<=K.cyc 17 by decide +kernel) (show K.cyc 17<=100 by decide +kernel) h hB.2.2.2.1)
 ·exact rl R 18 (by decide) (by decide) 357 (λ_ _=>U) (λe f g i j l o=>j) zqE d s n v r w p x ⟨y.c,y.s,x.n⟩ E F H z (λW e f g i j l o hB h=>zv3 R d s n v u.1 u.2 j W p _ (show (0:Int)<=K.cyc 18 by decide +kernel) (show K.cyc 18<=100 by decide +kernel) h hB.2.2.2.2.1)
 ·exact rl R 19 (by decide) (by decide) 357 (λ_ _=>U) (λe f g i j l o=>l) zqF d s n v r w p x ⟨y.c,y.s,x.n⟩ E F H z (λW e f g i j l o hB h=>zv4 R d s n v u.1 u.2 l W p _ (show (0:Int)<=K.cyc 19 by decide +kernel) (show K.cyc 19<=100 by decide +kernel) h hB.2.2.2.2.2.1)
 ·exact lp R 20 (by decide) (by decide) 311 (λ_ _=>U) zqG d s n v r w p x ⟨y.c,y.s,x.n⟩ E F H z (λW e f g i j l o hB h=>zxB R d s n v q t u.1 u.2 W p _ (ax (by decide) L) h)
 ·exact lp R 21 (by decide) (by decide) 312 (λ_ _=>U) zqH d s n v r w p x ⟨y.c,y.s,x.n⟩ E F H z (λW e f g i j l o hB h=>zxC R d s n v q t u.1 u.2 W p _ h)
 ·exact lp R 22 (by decide) (by decide) 314 (λ_ _=>U) zqI d s n v r w p x ⟨y.c,y.s,x.n⟩ E F H z (λW e f g i j l o hB h=>zxD R d s n v q t u.1 u.2 W p _ (ax (by decide) L) h)
 ·exact lp R 23 (by decide) (by decide) 315 (λ_ _=>U) zqJ d s n v r w p x ⟨y.c,y.s,x.n⟩ E F H z (λW e f g i j l o hB h=>zxE R d s n v q t u.1 u.2 W p _ h)
 ·exact lp R 24 (by decide) (by decide) 316 (λ_ _=>U) zqK d s n v r w p x ⟨y.c,y.s,x.n⟩ E F H z (λW e f g i j l o hB h=>zxF R d s n v q t u.1 u.2 W p _ h)
 ·exact lp R 25 (by decide) (by decide) 317 (λ_ _=>U) zqL d s n v r w p x ⟨y.c,y.s,x.n⟩ E F H z (λW e f g i j l o hB h=>zxG R d s n v q t u.1 u.2 W p _ h)
 ·exact lp R 26 (by decide) (by decide) 318 (λ_ _=>U) zqM d s n v r w p x ⟨y.c,y.s,x.n⟩ E F H z (λW e f g i j l o hB h=>zxI R d s n v q t u.1 u.2 W p _ h)
 ·exact lp R 27 (by decide) (by decide) 320 (λ_ _=>U) zqN d s n v r w p x ⟨y.c,y.s,x.n⟩ E F H z (λW e f g i j l o hB h=>zxH R d s n v q t u.1 u.2 W p _ h)
 ·exact lp R 28 (by decide) (by decide) 299 (λ_ _=>U) zqO d s n v r w p x ⟨y.c,y.s,x.n⟩ E F H z (λW e f g i j l o hB h=>sv R 28 (by unfold li;omega) d s n v q t M W p _ h)
 ·exact rl R 29 (by decide) (by decide) 357 (λ_ _=>U) (λe f g i j l o=>o) zqP d s n v r w p x ⟨y.c,y.s,x.n⟩ E F H z (λW e f g i j l o hB h=>zv5 R d s n v u.1 u.2 o W p _ (show (0:Int)<=K.cyc 29 by decide +kernel) (show K.cyc 29<=100 by decide +kernel) h hB.2.2.2.2.2.2)
 ·exact lp R 31 (by decide) (by decide) 322 (λ_ _=>U) zqQ d s n v r w p x ⟨y.c,y.s,x.n⟩ E F H z (λW e f g i j l o hB h=>zxJ R d s n v q t u.1 u.2 W p _ (ax (by decide) L) h)
theorem zoD(R:RS m B nr nw cr cw I T)(w:World)(p:Nat)(x:C.St σ)(b:4<=m.fuel x.s)(d:PI B nr nw cr cw I T w p x)(j:x.c.May=true):Calls prog 203 #[.pointer (some ⟨p,0,none⟩),.bool true] w (AP B nr nw cr cw I T w p x { C.leave m x 2 with n:=6 }):=by
 obtain⟨_,_,_,_,_,f,o,_,_,_⟩:=d.cells;have q:=d.lt;rw[j] at f;have k:=hid d;have l:=hid R;have g:=hid b;clear d R j b;go_enter func203,ntmps203;go_wp2_with (go_at_call 252;refine(zjF l.out 2 (by omega) (by omega) _ p x g.out k.out).mono ?_;rintro e w1 ⟨rfl,a,h⟩;have r:=a.lt;have f1:=a.frozen 17;obtain⟨_,_,_,_,_,_,_,_,_,t⟩:=a.cells;have i:=hid a;clear a)
 go_end0;exact⟨U,i.out.putCyc l.out 6,PM.set h k.out.big 17 _⟩
theorem zqR(R:RS m B nr nw cr cw I T)(r:Bool)(w:World)(p:Nat)(x:C.St σ)(a:PI B nr nw cr cw I T w p x)(d:(r && x.c.May)=false)(g:x.c.Waits=true):Calls prog 203 #[.pointer (some ⟨p,0,none⟩),.bool r] w (AP B nr nw cr cw I T w p x ⟨x.c,x.s,1⟩):=by
 obtain⟨_,_,_,_,_,e,f,_,_,i⟩:=a.cells;have j:=a.lt;have k:=a.frozen 17;rw[g] at f;have b:=hid a;have h:=hid R;clear a R g;cases r
 ·go_enter func203,ntmps203
  go_wp2;go_end0;exact⟨U,b.out.putCyc h.out 1,(PM.refl B T p x.s w).set b.out.big 17 _⟩
 ·simp only[ke] at d
  rw[d] at e;clear d;go_enter func203,ntmps203;go_wp2;go_end0;exact⟨U,b.out.putCyc h.out 1,(PM.refl B T p x.s w).set b.out.big 17 _⟩
theorem ztq(R:RS m B nr nw cr cw I T)(r:Bool)(w:World)(p:Nat)(c:C.Cpu)(s:σ)(a:4<=m.fuel s)(b:PI B nr nw cr cw I T w p ⟨c,s,0⟩):Calls prog 203 #[.pointer (some ⟨p,0,none⟩),.bool r] w (AP B nr nw cr cw I T w p ⟨c,s,0⟩ (C.step m c s r)):=by
 unfold C.step;cases d:r && c.May
 ·rw[G (by simp)]
  cases e:c.Waits
  ·rw[G (by simp)];exact zoC R r w p ⟨c,s,0⟩ a b d e
  ·rw[Q U];exact zqR R r w p ⟨c,s,0⟩ b d e
 ·rw[Q U]
  obtain⟨h1,h2⟩:=Bool.and_eq_true_iff.1 d;subst h1;exact zoD R w p ⟨c,s,0⟩ a b h2
end
end Go.Proofs.YthghjlinhokimaaGreatDoor
