/-
  Parts of a proof, joined.
-/
import Derived.Test.YthghjlinhokimaaGreatDoorZcA
import Derived.Test.YthghjlinhokimaaGreatDoorZcWatchBreak00
import Derived.Test.YthghjlinhokimaaGreatDoorZcWatchBreak01
import Derived.Test.YthghjlinhokimaaGreatDoorZc35
set_option linter.all false
set_option maxRecDepth 100000
set_option maxHeartbeats 6400000
namespace Go.Proofs.YthghjlinhokimaaGreatDoor
open Go.ChangeShapes Go.WideShapes Go.ChangeAt Go.RowKit Go.Proofs.Tryz
def oO(b:Nat):Value:=.func (.func 380) #[] #[.pointer (some ⟨b,0,none⟩),.pointer (some ⟨b+1,0,none⟩)]
theorem znZ(l u:Int)(w:World):Calls prog 370 #[.int .i64 l,.int .i64 u] w λe w'=>e=.returned (.func (.func 380) #[] #[.pointer (some ⟨w.heap.size,0,none⟩),.pointer (some ⟨w.heap.size+1,0,none⟩)])/\w'=(w.alloc (.cells #[.int .i64 l] 3)).alloc (.cells #[.int .i64 u] 3):=by
 go_enter func370,ntmps370;go_wp2;go_ret;exact⟨U,U⟩
theorem p9(l u x:Int)(b c:Nat)(w:World)(a:w.cell? ⟨b,0,none⟩=some (.int .i64 l))(d:w.cell? ⟨c,0,none⟩=some (.int .i64 u)):Calls prog 380 #[.int .i64 x,.pointer (some ⟨b,0,none⟩),.pointer (some ⟨c,0,none⟩)] w λe w'=>e=.returned (.bool (O.inR l u x))/\w'=w:=by
 have e:∀ b,(decide (l<=x) && decide (x<=u))=b->Hid (O.inR l u x=b):=λ_ h=>h
 by_cases h1:l<=x <;> by_cases h2:x<=u
 ·have e:=e true (by simp[h1,h2])
  go_enter func380,ntmps380;go_wp2;go_ret;rw[e.out];exact⟨U,U⟩
 all_goals
  have e:=e false (by simp;omega);go_enter func380,ntmps380;go_wp2;go_ret;rw[e.out];exact⟨U,U⟩
structure Lims (h : Int) (b0 b1 b2 b3 : Nat) (w : World) : Prop where
 l0:w.cell? ⟨b0,0,none⟩=some (.int .i64 (O.lo h 0))
 u0:w.cell? ⟨b0+1,0,none⟩=some (.int .i64 (O.hi h 0))
 l1:w.cell? ⟨b1,0,none⟩=some (.int .i64 (O.lo h 1))
 u1:w.cell? ⟨b1+1,0,none⟩=some (.int .i64 (O.hi h 1))
 l2:w.cell? ⟨b2,0,none⟩=some (.int .i64 (O.lo h 2))
 u2:w.cell? ⟨b2+1,0,none⟩=some (.int .i64 (O.hi h 2))
 l3:w.cell? ⟨b3,0,none⟩=some (.int .i64 (O.lo h 3))
 u3:w.cell? ⟨b3+1,0,none⟩=some (.int .i64 (O.hi h 3))
theorem zn0(a b:Value)(k:Nat)(c:k<32)(w:World):Calls prog 365 #[.agg #[a,b,.int .i64 (O.mask k)]] w λe w'=>∃ b0 b1 b2 b3,e=.returned (.agg #[oO b0,oO b1,oO b2,oO b3])/\Lims (O.mask k) b0 b1 b2 b3 w'/\Below w.heap.size w w':=by
 rcases O.mask_or k c with h|h|h|h|h|h|h|h|h <;> rw[h]
 all_goals
  clear h;go_enter func365,ntmps365;go_wp2_with (go_at_call 370;refine(znZ _ _ _).mono ?_;rintro e w' ⟨rfl,rfl⟩)
  refine ao (v:=?_) ?_ U ?_;rotate_left
  ·simp[results,results365,go_sem]
   first|done|exact U
  refine⟨_,_,_,_,U,⟨?_,?_,?_,?_,?_,?_,?_,?_⟩,?_⟩
  rotate_right 1
  ·repeat (first|exact aW _ _|refine Below.alloc ?_ (by simp <;> omega) _)
  all_goals repeat (first|(refine(jb _ _ _ _ ?_).trans ?_;(focus (simp;done));rfl)|(refine(aK _ _ _ ?_).trans ?_;(focus (simp <;> omega))))
theorem zsK(op d s n c:Int)(h:O.isOp op=false)(w:World)(b:aZ w):Calls prog 338 #[.agg #[.int .i64 op,.int .i64 d,.int .i64 s,.int .i64 n,.int .i64 c]] w λe w'=>e=.returned (.int .i64 5)/\Below w.heap.size w w':=by
 have f:=hid b;clear b;have H:=hid h;clear h;go_enter func338,ntmps338;go_wp2_with (go_at_call 256;refine(zhL op H.out _ (lq f.out _)).mono ?_;rintro e w1 ⟨rfl,a⟩)
 go_ret;exact⟨U,stA (bn (stA (J _) _) a) _⟩
def pV(h:Int)(v:Nat->Int)(j:Nat):Prop:=∀ i,i<j->O.inB h i (v i)=true
def rH(d s n w:Int)(i:Nat):Int:=if i=0 then d else if i=1 then s else if i=2 then n else w
theorem zw1(k:Nat)(a:k<32)(d s n w:Int)(h:pV (O.mask k) (rH d s n w) 4):O.okB k d s n w=true:=by
 have b:O.inB (O.mask k) 0 d=true:=h 0 (by omega);have h1:O.inB (O.mask k) 1 s=true:=h 1 (by omega);have h2:O.inB (O.mask k) 2 n=true:=h 2 (by omega);have h3:O.inB (O.mask k) 3 w=true:=h 3 (by omega);rw[<- O.inB_all k a,b,h1,h2,h3];rfl
theorem ze5(k:Nat)(b:k<32)(d s n w:Int)(i:Nat)(hi:i<4)(h:O.inB (O.mask k) i (rH d s n w i)=false):O.okB k d s n w=false:=by
 rw[<- O.inB_all k b];have hc:i=0 \/ i=1 \/ i=2 \/ i=3:=by omega
 rcases hc with rfl|rfl|rfl|rfl
 ·have a:O.inB (O.mask k) 0 d=false:=h
  rw[a];simp
 ·have a:O.inB (O.mask k) 1 s=false:=h
  rw[a];simp
 ·have a:O.inB (O.mask k) 2 n=false:=h
  rw[a];simp
 ·have a:O.inB (O.mask k) 3 w=false:=h
  rw[a];simp
theorem tp{k:Nat}(b:k<32)(a:k≠30)(d s n w:Int):O.ck k d s n w=if O.okB k d s n w then 0 else 3:=by
 unfold O.ck;rw[Q ((O.isOp_iff _).2 (by omega))];rfl
theorem zdQ{h:Int}{v:Nat->Int}{j:Nat}(a:pV h v j)(b:O.inB h j (v j)=true):pV h v (j+1):=λi hi=>by
 by_cases e:i<j
 ·exact a i e
 ·have:i=j:=by omega
  subst this;exact b
theorem zvr(a x1 x2 x3:Value)(w:World):(Instr.index 423 (.agg #[a,x1,x2,x3]) (.int .i64 0)).run prog w=.ok a w:=by kernel_rfl
theorem zvs(a x1 x2 x3:Value)(w:World):(Instr.index 423 (.agg #[a,x1,x2,x3]) (.int .i64 1)).run prog w=.ok x1 w:=by kernel_rfl
theorem zvt(a x1 x2 x3:Value)(w:World):(Instr.index 423 (.agg #[a,x1,x2,x3]) (.int .i64 2)).run prog w=.ok x2 w:=by kernel_rfl
theorem zvu(a x1 x2 x3:Value)(w:World):(Instr.index 423 (.agg #[a,x1,x2,x3]) (.int .i64 3)).run prog w=.ok x3 w:=by kernel_rfl
theorem zpP(k:Nat)(f:k<32)(c:k≠30)(d s n g:Int)(w:World)(L:aZ w):Calls prog 338 #[.agg #[.int .i64 k,.int .i64 d,.int .i64 s,.int .i64 n,.int .i64 g]] w λe w'=>e=.returned (.int .i64 (O.ck k d s n g))/\Below w.heap.size w w':=by
 have M:=hid L;clear L;go_enter func338,ntmps338;go_wp2_with (first
  | (go_at_call 256;refine(oq k f c _ (lq M.out _)).mono ?_;rintro e w1 ⟨rfl,l⟩;obtain⟨E,F⟩:=bQ l;have N:w.heap.size<w1.heap.size:=by have:=l.size;simp at this;omega)
  | (go_at_call 365;refine(zn0 _ _ k f _).mono ?_;rintro e w2 ⟨b0,b1,b2,b3,rfl,P,o⟩;unfold oO;obtain⟨h,H⟩:=bQ o))
 have hB:Below w.heap.size w w2:=bn (stA (stA (bn (stA (J _) _) l) _) _) o;have v0:w2.cell? ⟨w1.heap.size+1,0,none⟩=some (.int .i64 d):=by rw[h _ _ (by simp)];exact jb _ _ _ _ (by simp)
 have R:w2.cell? ⟨w1.heap.size+1,1,none⟩=some (.int .i64 s):=by rw[h _ _ (by simp)];exact jb _ _ _ _ (by simp)
 have v2:w2.cell? ⟨w1.heap.size+1,2,none⟩=some (.int .i64 n):=by rw[h _ _ (by simp)];exact jb _ _ _ _ (by simp)
 have v3:w2.cell? ⟨w1.heap.size+1,3,none⟩=some (.int .i64 g):=by rw[h _ _ (by simp)];exact jb _ _ _ _ (by simp)
 clear E F h H l o M;obtain⟨p,q,r,t,u,v,x,y⟩:=P
 go_loop [28] (λi=>∃ j:Nat,j<=4/\i=.int .i64 j/\pV (O.mask k) (rH d s n g) j) (λi=>4-(intOf i).toNat)
 case atStart=>exact⟨0,by omega,U,λi hi=>by omega⟩
 case round =>
  obtain⟨j,T,rfl,z⟩:=hrel;have B:=hid z;clear z;have I:j=0 \/ j=1 \/ j=2 \/ j=3 \/ j=4:=by omega
  rcases I with rfl|rfl|rfl|rfl|rfl
  ·have i0:=zvr
   by_cases a:O.inR (O.lo (O.mask k) 0) (O.hi (O.mask k) 0) d=true
   ·go_wp2_with (go_at_call 380;refine(p9 _ _ _ _ _ _ p q).mono ?_;rintro e w' ⟨rfl,rfl⟩)
    go_round
    case rel=>exact⟨1,by omega,by go_num,zdQ B.out a⟩
    case measure=>simp[intOf]
   ·have b:O.inR (O.lo (O.mask k) 0) (O.hi (O.mask k) 0) d=false:=by simpa using a
    have m:=hid (ze5 k f d s n g 0 (by omega) b);clear a;go_wp2_with (go_at_call 380;refine(p9 _ _ _ _ _ _ p q).mono ?_;rintro e w' ⟨rfl,rfl⟩)
    go_ret;rw[tp f c,m.out];exact⟨U,hB⟩
  ·have i0:=zvs
   by_cases a:O.inR (O.lo (O.mask k) 1) (O.hi (O.mask k) 1) s=true
   ·go_wp2_with (go_at_call 380;refine(p9 _ _ _ _ _ _ r t).mono ?_;rintro e w' ⟨rfl,rfl⟩)
    go_round
    case rel=>exact⟨2,by omega,by go_num,zdQ B.out a⟩
    case measure=>simp[intOf]
   ·have b:O.inR (O.lo (O.mask k) 1) (O.hi (O.mask k) 1) s=false:=by simpa using a
    have m:=hid (ze5 k f d s n g 1 (by omega) b);clear a;go_wp2_with (go_at_call 380;refine(p9 _ _ _ _ _ _ r t).mono ?_;rintro e w' ⟨rfl,rfl⟩)
    go_ret;rw[tp f c,m.out];exact⟨U,hB⟩
  ·have i0:=zvt
   by_cases a:O.inR (O.lo (O.mask k) 2) (O.hi (O.mask k) 2) n=true
   ·go_wp2_with (go_at_call 380;refine(p9 _ _ _ _ _ _ u v).mono ?_;rintro e w' ⟨rfl,rfl⟩)
    go_round
    case rel=>exact⟨3,by omega,by go_num,zdQ B.out a⟩
    case measure=>simp[intOf]
   ·have b:O.inR (O.lo (O.mask k) 2) (O.hi (O.mask k) 2) n=false:=by simpa using a
    have m:=hid (ze5 k f d s n g 2 (by omega) b);clear a;go_wp2_with (go_at_call 380;refine(p9 _ _ _ _ _ _ u v).mono ?_;rintro e w' ⟨rfl,rfl⟩)
    go_ret;rw[tp f c,m.out];exact⟨U,hB⟩
  ·have i0:=zvu
   by_cases a:O.inR (O.lo (O.mask k) 3) (O.hi (O.mask k) 3) g=true
   ·go_wp2_with (go_at_call 380;refine(p9 _ _ _ _ _ _ x y).mono ?_;rintro e w' ⟨rfl,rfl⟩)
    go_round
    case rel=>exact⟨4,by omega,by go_num,zdQ B.out a⟩
    case measure=>simp[intOf]
   ·have b:O.inR (O.lo (O.mask k) 3) (O.hi (O.mask k) 3) g=false:=by simpa using a
    have m:=hid (ze5 k f d s n g 3 (by omega) b);clear a;go_wp2_with (go_at_call 380;refine(p9 _ _ _ _ _ _ x y).mono ?_;rintro e w' ⟨rfl,rfl⟩)
    go_ret;rw[tp f c,m.out];exact⟨U,hB⟩
  ·have m:=hid (zw1 k f d s n g B.out)
   go_wp2;go_ret;rw[tp f c,m.out];exact⟨U,hB⟩
theorem tq(op d s n a:Int)(w:World)(b:aZ w):Calls prog 338 #[.agg #[.int .i64 op,.int .i64 d,.int .i64 s,.int .i64 n,.int .i64 a]] w λe w'=>e=.returned (.int .i64 (O.ck op d s n a))/\Below w.heap.size w w':=by
 cases h:O.isOp op
 ·refine(zsK op d s n a h w b).mono λe w' c=>⟨c.1.trans ?_,c.2⟩
  unfold O.ck;rw[h];rfl
 ·obtain⟨h1,h2,h3⟩:=(O.isOp_iff op).1 h
  obtain⟨k,rfl⟩:=aB h1;exact zpP k (by omega) (by omega) d s n a w b
theorem pW(g:Nat)(w:World):Calls prog 328 #[.int .i64 0,.pointer (some ⟨g,0,none⟩)] w λe w'=>e=.returned (.pointer (some ⟨g,1,none⟩))/\w'=w:=by
 go_enter func328,ntmps328;go_wp2;go_ret;exact⟨U,U⟩
theorem pX(g:Nat)(w:World):Calls prog 328 #[.int .i64 1,.pointer (some ⟨g,0,none⟩)] w λe w'=>e=.returned (.pointer (some ⟨g,2,none⟩))/\w'=w:=by
 go_enter func328,ntmps328;go_wp2;go_ret;exact⟨U,U⟩
theorem pY(g:Nat)(w:World):Calls prog 328 #[.int .i64 2,.pointer (some ⟨g,0,none⟩)] w λe w'=>e=.returned (.pointer (some ⟨g,4,none⟩))/\w'=w:=by
 go_enter func328,ntmps328;go_wp2;go_ret;exact⟨U,U⟩
theorem pZ(g:Nat)(w:World):Calls prog 328 #[.int .i64 3,.pointer (some ⟨g,0,none⟩)] w λe w'=>e=.returned (.pointer (some ⟨g,3,none⟩))/\w'=w:=by
 go_enter func328,ntmps328;go_wp2;go_ret;exact⟨U,U⟩
theorem zpQ:(Tryz.prog.info? 374).map (λi=>(i.zero,i.size,i.bytes))=some (some (.int .i64 0),1,8):=by kernel_rfl
theorem zhN:∀ k:Nat,k<32->k≠30->O.ck k 1 0 0 0=(if O.hasC k 100 then 0 else 3)/\O.ck k 0 1 0 0=(if O.hasC k 115 then 0 else 3)/\O.ck k 0 0 0 1=(if O.hasC k 119 then 0 else 3)/\O.ck k 0 0 1 0=(if O.hasC k 110 then 0 else 3):=by decide +kernel
def lR(k j:Nat):List Value:=((List.range j).filter (λp=>O.hasC k (S.sgn p))).map (λp:Nat=>Value.int .i64 p)
theorem zm5{k j:Nat}(h:O.hasC k (S.sgn j)=false):lR k (j+1)=lR k j:=by unfold lR;rw[eK,dH];simp[h]
theorem zhO{k j:Nat}(h:O.hasC k (S.sgn j)=true):lR k (j+1)=lR k j++[.int .i64 j]:=by unfold lR;rw[eK,dH];simp[h]
theorem qa(k j:Nat):(lR k j).length<=j:=by
 unfold lR;rw[ba];exact ax (eT _ _) (by simp)
theorem zm6(k:Nat)(c:k<32)(a:k≠30)(w:World)(d:aZ w):Calls prog 338 #[.agg #[.int .i64 k,.int .i64 1,.int .i64 0,.int .i64 0,.int .i64 0]] w λe w'=>e=.returned (.int .i64 (if O.hasC k 100 then 0 else 3))/\Below w.heap.size w w' :=
 (tq k 1 0 0 0 w d).mono λe w' b=>⟨by rw[b.1,(zhN k c a).1],b.2⟩
theorem zm7(k:Nat)(c:k<32)(a:k≠30)(w:World)(d:aZ w):Calls prog 338 #[.agg #[.int .i64 k,.int .i64 0,.int .i64 1,.int .i64 0,.int .i64 0]] w λe w'=>e=.returned (.int .i64 (if O.hasC k 115 then 0 else 3))/\Below w.heap.size w w' :=
 (tq k 0 1 0 0 w d).mono λe w' b=>⟨by rw[b.1,(zhN k c a).2.1],b.2⟩
theorem zm8(k:Nat)(c:k<32)(a:k≠30)(w:World)(d:aZ w):Calls prog 338 #[.agg #[.int .i64 k,.int .i64 0,.int .i64 0,.int .i64 0,.int .i64 1]] w λe w'=>e=.returned (.int .i64 (if O.hasC k 119 then 0 else 3))/\Below w.heap.size w w' :=
 (tq k 0 0 0 1 w d).mono λe w' b=>⟨by rw[b.1,(zhN k c a).2.2.1],b.2⟩
theorem zm9(k:Nat)(c:k<32)(a:k≠30)(w:World)(d:aZ w):Calls prog 338 #[.agg #[.int .i64 k,.int .i64 0,.int .i64 0,.int .i64 1,.int .i64 0]] w λe w'=>e=.returned (.int .i64 (if O.hasC k 110 then 0 else 3))/\Below w.heap.size w w' :=
 (tq k 0 0 1 0 w d).mono λe w' b=>⟨by rw[b.1,(zhN k c a).2.2.2],b.2⟩
theorem mZ(v:Value):v.ownBlock=none \/ v.ownBlock≠none:=by cases v.ownBlock with
 | none=>exact Or.inl U
 | some g=>exact Or.inr (by simp)
theorem zfl(k:Nat)(u:k<32)(n:k≠30)(w:World)(F:aZ w):Calls prog 327 #[.int .i64 k] w λe w'=>∃ v,e=.returned v/\w'.ownsRow w.heap.size 374 1 v (lR k 4).length (lR k 4)/\Below w.heap.size w w':=by
 obtain⟨i0,p,q,r,s⟩:=info_parts zpQ;have x:=hid F;clear F;go_enter func327,ntmps327;go_wp2;go_loopw [3,4] (λl i wr=>∃ j:Nat,j<=4/\i=.int .i64 j/\wr.ownsRow w.heap.size 374 1 l (lR k j).length (lR k j)/\Below w.heap.size w wr) (λ_ i _=>4-(intOf i).toNat)
 case atStart=>exact⟨0,by omega,U,⟨U,Or.inl ⟨U,U⟩⟩,aW _ _⟩
 case round =>
  obtain⟨j,y,rfl,b,c⟩:=hrel;have hc:j=0 \/ j=1 \/ j=2 \/ j=3 \/ j=4:=by omega
  have H:=c.size;rcases hc with rfl|rfl|rfl|rfl|rfl
  ·cases m:O.hasC k 100
   ·go_wp2_with (first
     | (go_at_call 328;refine(pW _ _).mono ?_;rintro e w' ⟨rfl,rfl⟩)
     | (go_at_call 338;refine(zm6 k u n _ (lq (x.out.kept c) _)).mono ?_;rw[m];rintro e w1 ⟨rfl,a⟩))
    go_roundw
    case rel=>exact⟨1,by omega,by go_num,by rw[zm5 (j:=0) m];exact(b.alloc _).kept (mX a) (mZ _),bn (stA c _) a⟩
    case measure=>simp[intOf]
   ·go_wp2_with (first
     | (go_at_call 328;refine(pW _ _).mono ?_;rintro e w' ⟨rfl,rfl⟩)
     | (go_at_call 338;refine(zm6 k u n _ (lq (x.out.kept c) _)).mono ?_;rw[m];rintro e w1 ⟨rfl,a⟩;have d:=(b.alloc (.cells #[.int .i64 k,.int .i64 1,.int .i64 0,.int .i64 0,.int .i64 0] 191)).kept (mX a) (mZ _);have f:=bn (stA c (.cells #[.int .i64 k,.int .i64 1,.int .i64 0,.int .i64 0,.int .i64 0] 191)) a)
     | (at_builtin;refine wpList_append_lies _ (by rfl) _ _ _ (by rfl) w.heap.size 374 i0 _ 1 8 underlying372 p q r s U (by omega) _ (lR k 0).length _ (by rfl) (d.alloc _) ⟨w1.heap.size,0,none⟩ 1 1 [.int .i64 0] (by rfl) (by rfl) (World.news_of_block (cs:=#[.int .i64 0]) (t:=374) (fr:=(0,0)) (aJ w1 _)) (by simp[Value.oneCell']) (by omega) (by have:=qa k 0;unfold maxLen;omega) (by have:=qa k 0;omega) (by have:=f.size;simp;omega) (w1.heap.size+1) (by simp) ?_;intro B cp E g h z o))
    go_roundw
    case rel=>exact⟨1,by omega,by go_num,by rw[zhO (j:=0) m,aC];exact g,(stA f _).grown h (stA f _).size (λj y=>(b.lt j y).1)⟩
    case measure=>simp[intOf]
  ·cases m:O.hasC k 115
   ·go_wp2_with (first
     | (go_at_call 328;refine(pX _ _).mono ?_;rintro e w' ⟨rfl,rfl⟩)
     | (go_at_call 338;refine(zm7 k u n _ (lq (x.out.kept c) _)).mono ?_;rw[m];rintro e w1 ⟨rfl,a⟩))
    go_roundw
    case rel=>exact⟨2,by omega,by go_num,by rw[zm5 (j:=1) m];exact(b.alloc _).kept (mX a) (mZ _),bn (stA c _) a⟩
    case measure=>simp[intOf]
   ·go_wp2_with (first
     | (go_at_call 328;refine(pX _ _).mono ?_;rintro e w' ⟨rfl,rfl⟩)
     | (go_at_call 338;refine(zm7 k u n _ (lq (x.out.kept c) _)).mono ?_;rw[m];rintro e w1 ⟨rfl,a⟩;have d:=(b.alloc (.cells #[.int .i64 k,.int .i64 0,.int .i64 1,.int .i64 0,.int .i64 0] 191)).kept (mX a) (mZ _);have f:=bn (stA c (.cells #[.int .i64 k,.int .i64 0,.int .i64 1,.int .i64 0,.int .i64 0] 191)) a)
     | (at_builtin;refine wpList_append_lies _ (by rfl) _ _ _ (by rfl) w.heap.size 374 i0 _ 1 8 underlying372 p q r s U (by omega) _ (lR k 1).length _ (by rfl) (d.alloc _) ⟨w1.heap.size,0,none⟩ 1 1 [.int .i64 1] (by rfl) (by rfl) (World.news_of_block (cs:=#[.int .i64 1]) (t:=374) (fr:=(0,0)) (aJ w1 _)) (by simp[Value.oneCell']) (by omega) (by have:=qa k 1;unfold maxLen;omega) (by have:=qa k 1;omega) (by have:=f.size;simp;omega) (w1.heap.size+1) (by simp) ?_;intro B cp E g h z o))
    go_roundw
    case rel=>exact⟨2,by omega,by go_num,by rw[zhO (j:=1) m,aC];exact g,(stA f _).grown h (stA f _).size (λj y=>(b.lt j y).1)⟩
    case measure=>simp[intOf]
  ·cases m:O.hasC k 119
   ·go_wp2_with (first
     | (go_at_call 328;refine(pY _ _).mono ?_;rintro e w' ⟨rfl,rfl⟩)
     | (go_at_call 338;refine(zm8 k u n _ (lq (x.out.kept c) _)).mono ?_;rw[m];rintro e w1 ⟨rfl,a⟩))
    go_roundw
    case rel=>exact⟨3,by omega,by go_num,by rw[zm5 (j:=2) m];exact(b.alloc _).kept (mX a) (mZ _),bn (stA c _) a⟩
    case measure=>simp[intOf]
   ·go_wp2_with (first
     | (go_at_call 328;refine(pY _ _).mono ?_;rintro e w' ⟨rfl,rfl⟩)
     | (go_at_call 338;refine(zm8 k u n _ (lq (x.out.kept c) _)).mono ?_;rw[m];rintro e w1 ⟨rfl,a⟩;have d:=(b.alloc (.cells #[.int .i64 k,.int .i64 0,.int .i64 0,.int .i64 0,.int .i64 1] 191)).kept (mX a) (mZ _);have f:=bn (stA c (.cells #[.int .i64 k,.int .i64 0,.int .i64 0,.int .i64 0,.int .i64 1] 191)) a)
     | (at_builtin;refine wpList_append_lies _ (by rfl) _ _ _ (by rfl) w.heap.size 374 i0 _ 1 8 underlying372 p q r s U (by omega) _ (lR k 2).length _ (by rfl) (d.alloc _) ⟨w1.heap.size,0,none⟩ 1 1 [.int .i64 2] (by rfl) (by rfl) (World.news_of_block (cs:=#[.int .i64 2]) (t:=374) (fr:=(0,0)) (aJ w1 _)) (by simp[Value.oneCell']) (by omega) (by have:=qa k 2;unfold maxLen;omega) (by have:=qa k 2;omega) (by have:=f.size;simp;omega) (w1.heap.size+1) (by simp) ?_;intro B cp E g h z o))
    go_roundw
    case rel=>exact⟨3,by omega,by go_num,by rw[zhO (j:=2) m,aC];exact g,(stA f _).grown h (stA f _).size (λj y=>(b.lt j y).1)⟩
    case measure=>simp[intOf]
  ·cases m:O.hasC k 110
   ·go_wp2_with (first
     | (go_at_call 328;refine(pZ _ _).mono ?_;rintro e w' ⟨rfl,rfl⟩)
     | (go_at_call 338;refine(zm9 k u n _ (lq (x.out.kept c) _)).mono ?_;rw[m];rintro e w1 ⟨rfl,a⟩))
    go_roundw
    case rel=>exact⟨4,by omega,by go_num,by rw[zm5 (j:=3) m];exact(b.alloc _).kept (mX a) (mZ _),bn (stA c _) a⟩
    case measure=>simp[intOf]
   ·go_wp2_with (first
     | (go_at_call 328;refine(pZ _ _).mono ?_;rintro e w' ⟨rfl,rfl⟩)
     | (go_at_call 338;refine(zm9 k u n _ (lq (x.out.kept c) _)).mono ?_;rw[m];rintro e w1 ⟨rfl,a⟩;have d:=(b.alloc (.cells #[.int .i64 k,.int .i64 0,.int .i64 0,.int .i64 1,.int .i64 0] 191)).kept (mX a) (mZ _);have f:=bn (stA c (.cells #[.int .i64 k,.int .i64 0,.int .i64 0,.int .i64 1,.int .i64 0] 191)) a)
     | (at_builtin;refine wpList_append_lies _ (by rfl) _ _ _ (by rfl) w.heap.size 374 i0 _ 1 8 underlying372 p q r s U (by omega) _ (lR k 3).length _ (by rfl) (d.alloc _) ⟨w1.heap.size,0,none⟩ 1 1 [.int .i64 3] (by rfl) (by rfl) (World.news_of_block (cs:=#[.int .i64 3]) (t:=374) (fr:=(0,0)) (aJ w1 _)) (by simp[Value.oneCell']) (by omega) (by have:=qa k 3;unfold maxLen;omega) (by have:=qa k 3;omega) (by have:=f.size;simp;omega) (w1.heap.size+1) (by simp) ?_;intro B cp E g h z o))
    go_roundw
    case rel=>exact⟨4,by omega,by go_num,by rw[zhO (j:=3) m,aC];exact g,(stA f _).grown h (stA f _).size (λj y=>(b.lt j y).1)⟩
    case measure=>simp[intOf]
  ·go_wp2
   go_ret;exact⟨_,U,b,c⟩
theorem zna(op d s n a:Int)(h1:O.isOp op=true)(h2:O.okB op.toNat d s n a=true)(w:World)(c:aZ w):Calls prog 338 #[.agg #[.int .i64 op,.int .i64 d,.int .i64 s,.int .i64 n,.int .i64 a]] w λe w'=>e=.returned (.int .i64 0)/\Below w.heap.size w w':=by
 refine(tq op d s n a w c).mono λe w' b=>⟨b.1.trans ?_,b.2⟩
 unfold O.ck;rw[h1,h2];rfl
def wordsAt(w:World)(g:Nat)(l:List Int):Prop:=∀ i,i<l.length->w.cell? ⟨g,i,none⟩=some (.int .u16 (l.getD i 0))
theorem zgV(k d s n:Int)(h1:0<=k/\k<=31)(h2:0<=d/\d<=7)(h3:0<=s/\s<=7)(h4:-16<=n/\n<=15):bits .or .u16 (bits .or .u16 (bits .or .u16 (k*2048) (d*256)) (s*32)) (bits .and .u16 (IntKind.u16.wrap n) 31)=O.first k d s n:=by
 rw[O.low5 n h4,O.first_of k d s _ h1 h2 h3 (by omega)];rfl
theorem zpR(k:Nat)(d s n m:Int)(h:k<32)(r:k≠30)(a:O.okB k d s n m=true)(o:O.hasC k 119=false)(w:World)(f:aZ w):Calls prog 272 #[.agg #[.int .i64 k,.int .i64 d,.int .i64 s,.int .i64 n,.int .i64 m]] w λe w'=>∃ g,e=.returned (.tuple #[.slice (some ⟨g,0,none⟩) 1 1,.int .i64 0])/\wordsAt w' g [O.first k d s n]/\w.heap.size<=g/\g<w'.heap.size/\Below w.heap.size w w':=by
 obtain⟨⟨t,d1⟩,⟨s0,s1⟩,⟨u,v⟩,⟨w0,x⟩⟩:=O.ok_bd a;have h1:=(O.isOp_iff k).2 (by omega);have p:lenOf (O.mask k)=1:=by have:=O.mask_w k h;rw[o] at this;unfold lenOf;rw[G (by simpa using this.symm)]
 have y:=hid p;have z:=hid a;have B:=hid h1;have E:=hid f;have j:=f.lt;have q:0<w.heap.size:=eB (aU _) j;obtain⟨c0,c1,c2⟩:=f k h;clear f a h1 o p;go_enter func272,ntmps272;go_wp2_with (first
  | (go_at_call 338;refine(zna _ _ _ _ _ B.out z.out _ (lq E.out _)).mono ?_;rintro e w1 ⟨rfl,b⟩;obtain⟨F,H⟩:=bQ b;have l:w.heap.size<w1.heap.size:=by have:=b.size;simp at this;omega)
  | (go_at_call 288;refine(nP _ _ k h _).mono ?_;rw[y.out];rintro e w2 ⟨rfl,c⟩))
 go_ret2
 refine⟨w2.heap.size,U,λi hi=>?_,ga (ap l c.size),by simp,stA (bn (bn (stA (J _) _) b) c) _⟩;obtain rfl:i=0:=by simpa using hi
 rw[zgV k d s n (by omega) ⟨t,d1⟩ ⟨s0,s1⟩ ⟨u,v⟩];exact jb _ _ _ _ U
theorem zpS(k:Nat)(d s n h:Int)(j:k<32)(t:k≠30)(a:O.okB k d s n h=true)(p:O.hasC k 119=true)(w:World)(f:aZ w):Calls prog 272 #[.agg #[.int .i64 k,.int .i64 d,.int .i64 s,.int .i64 n,.int .i64 h]] w λe w'=>∃ g,e=.returned (.tuple #[.slice (some ⟨g,0,none⟩) 2 2,.int .i64 0])/\wordsAt w' g [O.first k d s n,h]/\w.heap.size<=g/\g<w'.heap.size/\Below w.heap.size w w':=by
 obtain⟨⟨u,d1⟩,⟨s0,s1⟩,⟨v,x⟩,⟨w0,y⟩⟩:=O.ok_bd a;have h1:=(O.isOp_iff k).2 (by omega);have q:lenOf (O.mask k)=2:=by have:=O.mask_w k j;rw[p] at this;unfold lenOf;rw[Q (by simpa using this.symm)]
 have z:=hid q;have B:=hid a;have E:=hid h1;have F:=hid f;have l:=f.lt;have r:0<w.heap.size:=eB (aU _) l;obtain⟨c0,c1,c2⟩:=f k j;clear f a h1 p q;go_enter func272,ntmps272;go_wp2_with (first
  | (go_at_call 338;refine(zna _ _ _ _ _ E.out B.out _ (lq F.out _)).mono ?_;rintro e w1 ⟨rfl,b⟩;obtain⟨H,I⟩:=bQ b;have m:w.heap.size<w1.heap.size:=by have:=b.size;simp at this;omega)
  | (go_at_call 288;refine(nP _ _ k j _).mono ?_;rw[z.out];rintro e w2 ⟨rfl,c⟩;obtain⟨L,M⟩:=bQ c))
 go_ret2
 refine⟨w2.heap.size,U,λi hi=>?_,ga (ap m c.size),by simp,stA (bn (bn (stA (J _) _) b) c) _⟩;rw[zgV k d s n (by omega) ⟨u,d1⟩ ⟨s0,s1⟩ ⟨v,x⟩];have o:i=0 \/ i=1:=by simp at hi;omega
 rcases o with rfl|rfl <;> exact jb _ _ _ _ U
theorem zjc(op d s n a:Int)(h1:O.isOp op=true)(b:O.okB op.toNat d s n a=true)(w:World)(c:aZ w):Calls prog 272 #[.agg #[.int .i64 op,.int .i64 d,.int .i64 s,.int .i64 n,.int .i64 a]] w λe w' =>
  ∃ g,e=.returned (.tuple #[.slice (some ⟨g,0,none⟩) (O.words op d s n a).length (O.words op d s n a).length,.int .i64 0])/\wordsAt w' g (O.words op d s n a)/\w.heap.size<=g/\g<w'.heap.size/\Below w.heap.size w w':=by
 obtain⟨a1,a2,a3⟩:=(O.isOp_iff op).1 h1;obtain⟨k,rfl⟩:=aB a1;rw[bH] at b;unfold O.words;rw[bH];cases hc:O.hasC k 119
 ·exact zpR k d s n a (by omega) (by omega) b hc w c
 ·exact zpS k d s n a (by omega) (by omega) b hc w c
theorem zet(k:Nat)(d:k<32)(a:k≠30)(w:World)(c:aZ w):Calls prog 206 #[.int .i64 k] w λe w'=>e=.returned (.tuple #[.string (O.nameS k),.int .i64 0])/\Below w.heap.size w w':=by
 have f:=hid c;clear c;go_enter func206,ntmps206;go_wp2_with (go_at_call 256;refine(oq k d a _ f.out).mono ?_;rintro e w1 ⟨rfl,b⟩)
 go_ret2
 exact⟨U,stA b _⟩
structure AF (w : World) : Prop where
 pow:Lib.TabIs prog w "internal/strconv.uint64pow10" .u64 Lib.pow10Tab
 len:∃ m,w.cell? ⟨0,0,none⟩=some (.int .i64 m)
 shapes:aZ w
theorem g_pow:Tryz.prog.globalNamed "internal/strconv.uint64pow10" = some 6:=by kernel_rfl
theorem AF.kept{w w':World}(h:AF w)(hb:Below w.heap.size w w'):AF w':=by
 obtain⟨t,⟨m,a⟩,s⟩:=h;exact⟨Joins.tab_stays g_pow t hb (ak _),⟨m,(hb.cell (aG w _ a)).trans a⟩,s.kept hb⟩
theorem nB{w:World}(h:AF w)(o:Obj):AF (w.alloc o):=h.kept (stA (J _) _)
def aT(l:List UInt8):ByteArray:=⟨l.toArray⟩
theorem qX(a b:List UInt8):aT a++aT b=aT (a++b):=by
 unfold aT;apply ka;rw[jD];simp
theorem pL(l:List UInt8):(aT l).size=l.length:=rfl
theorem zkV(w:World)(k:Nat)(os:Array Obj):Below w.heap.size w (Sort.grow (w.drewN k) os):=by
 have h:∀ k,Below w.heap.size w (w.drewN k):=λk=>by
  induction k with
  | zero=>exact J w
  | succ k a=>exact a.drew
 refine(h k).trans ⟨U,U,U,by simp[Sort.grow],λi hi=>?_⟩;have:(w.drewN k).heap.size=w.heap.size:=by simp
 show ((w.drewN k).heap++os)[i]?=_;rw[iC (by omega)]
theorem qY(n:Int)(a:-9223372036854775808<=n)(h1:n<=9223372036854775807)(w:World)(h:AF w):Calls prog 104 #[.int .i64 n] w λe w'=>e=.returned (.string (aT (Lib.itoa n)))/\Below w.heap.size w w':=by
 refine(Tryz.strconv_Itoa n a h1 w h.pow).mono λe w' ⟨b,k,os,c⟩=>⟨b,?_⟩
 subst c;exact zkV w k os
def oP(p:Nat):Nat:=if p=0 then 1 else if p=1 then 2 else if p=2 then 4 else 3
theorem zhP(p:Nat)(hp:p<4)(g:Nat)(w:World):Calls prog 328 #[.int .i64 p,.pointer (some ⟨g,0,none⟩)] w λe w'=>e=.returned (.pointer (some ⟨g,oP p,none⟩))/\w'=w:=by
 have hc:p=0 \/ p=1 \/ p=2 \/ p=3:=by omega
 rcases hc with rfl|rfl|rfl|rfl
 ·exact pW g w
 ·exact pX g w
 ·exact pY g w
 ·exact pZ g w
def jS(k:Nat)(o:S.Ord):Array Value:=#[.int .i64 k,.int .i64 o.d,.int .i64 o.s,.int .i64 o.n,.int .i64 o.w]
theorem zn2(k:Nat)(o:S.Ord)(p:Nat)(hp:p<4):(jS k o)[oP p]?=some (.int .i64 (o.get p)):=by
 have hc:p=0 \/ p=1 \/ p=2 \/ p=3:=by omega
 rcases hc with rfl|rfl|rfl|rfl <;> rfl
theorem zxb{k j:Nat}{p:Nat}(h:(S.parts k)[j]?=some p):(lR k 4)[j]?=some (.int .i64 p):=by
 unfold lR;rw[aX];have:((List.range 4).filter (λp=>O.hasC k (S.sgn p)))[j]?=some p:=h;rw[this];rfl
theorem zkW(k:Nat):(lR k 4).length=(S.parts k).length:=by unfold lR S.parts;rw[ba]
theorem znc{k j p:Nat}(h:(S.parts k)[j]?=some p):p<4:=by
 have:=bh h;unfold S.parts at this;have:=(fI.1 this).1
 simpa using this
def se(k:Nat)(o:S.Ord)(j:Nat):List Value:=((S.parts k).take j).map (λp=>Value.string (aT (S.partText o p)))
theorem zhQ{k:Nat}{o:S.Ord}{j p:Nat}(h:(S.parts k)[j]?=some p):se k o (j+1)=se k o j++[.string (aT (S.partText o p))]:=by
 unfold se;rw[dw,h];simp
theorem zkX:(Tryz.prog.info? 9).map (λi=>(i.zero,i.size,i.bytes))=some (some (.string ⟨#[]⟩),1,16):=by kernel_rfl
theorem ze7(k:Nat):(S.parts k).length<=4:=by
 unfold S.parts;exact ax (eT _ _) (by simp)
theorem zuW{k:Nat}{o:S.Ord}(a:O.okB k o.d o.s o.n o.w=true)(p:Nat):-16<=o.get p/\o.get p<=65535:=by
 obtain⟨b1,b2,b3,b⟩:=O.ok_bd a;unfold S.Ord.get;split
 ·omega
 ·split
  ·omega
  ·split <;> omega
theorem zgW(o:S.Ord)(p:Nat)(h:p=0 \/ p=1):aT (S.partText o p)=aT [114]++aT (Lib.itoa (o.get p)):=by
 unfold S.partText;rw[Q h,qX];rfl
theorem zn3(o:S.Ord)(p:Nat)(h:¬ (p=0 \/ p=1)):aT (S.partText o p)=aT (Lib.itoa (o.get p)):=by
 unfold S.partText;rw[G h]
theorem zdv{w:World}{B:Nat}{t:TypeId}{v:Value}{n:Nat}{xs:List Value}(h:w.ownsRow B t 1 v n xs)(f:0<n):∃ g a,v=.slice (some ⟨g,0,none⟩) n a/\B<=g/\g<w.heap.size/\n<=a /\ ∀ j,j<n->w.cell? ⟨g,j,none⟩=xs[j]?:=by
 obtain⟨i,h⟩:=h;rcases h with⟨_,k⟩|⟨g,a,b,rfl,hB,hb,hc,_,d,e⟩
 ·omega
 ·refine⟨g,a,U,hB,(ay.1 hb).1,hc,λj l=>?_⟩
  simp only[World.cell?,hb];have c:j<b.size:=by rw[d];omega
  rw[<- e,cK (by omega)];simp[c]
theorem qb(n:Int)(h:n.natAbs<1000000):(Lib.itoa n).length<=7:=by
 have c:∀ u,u<1000000->(Lib.decDigits u).length<=6:=λu a=>by
  have b:∀ d u,u<10 ^ (d+1)->(Lib.decDigits u).length<=d+1:=by
   intro d;induction d with
   | zero=>intro u a;rw[S.dec_small u (by simpa using a)];simp
   | succ d e =>
    intro u a;rw[Lib.decDigits];split
    ·simp
    ·rw[aC]
     have:=e (u/10) (by rw[Nat.pow_succ] at a;omega);simp;omega
  exact b 5 u (by simpa using a)
 unfold Lib.itoa;split
 ·have:=c n.natAbs h;simp;omega
 ·have:=c n.toNat (by omega);omega
theorem znd:∀ ps:List S.By,(∀ p∈ps,p.length<=10)->(Lib.join ps S.comma).length<=12*ps.length
 | [],_=>by simp[Lib.join,List.intercalate]
 | [p],h=>by rw[S.join_one];have:=h p (by simp);simp;omega
 | p::q::ps,h=>by
  have a:=znd (q::ps) (λx b=>h x (bq _ b));have hp:=h p (by simp);rw[S.join_cons];simp only[aC,bR] at a ⊢;omega
theorem zjd{k:Nat}{o:S.Ord}(a:O.okB k o.d o.s o.n o.w=true)(p:Nat):(S.partText o p).length<=10:=by
 have h1:=zuW a p;have h2:=qb (o.get p) (by omega);unfold S.partText;split
 ·simp;omega
 ·omega
theorem zeu{k:Nat}{o:S.Ord}(a:O.okB k o.d o.s o.n o.w=true):(Lib.join ((S.parts k).map (S.partText o)) S.comma).length<=48:=by
 have h4:=ze7 k;have:=znd ((S.parts k).map (S.partText o)) (λp hp=>by obtain⟨q,_,rfl⟩:=ex.1 hp;exact zjd a q);rw[ba] at this;omega
theorem zsL(k:Nat)(o:S.Ord)(b:O.okB k o.d o.s o.n o.w=true)(g c:Nat)(w:World)(hc:(S.parts k).length<=c)(i:g<w.heap.size)(a:∀ j,j<(S.parts k).length->w.cell? ⟨g,j,none⟩=(se k o (S.parts k).length)[j]?):Calls prog 339 #[.slice (some ⟨g,0,none⟩) (S.parts k).length c,.string ⟨#[44,32]⟩] w λe w'=>e=.returned (.string (aT (Lib.join ((S.parts k).map (S.partText o)) S.comma)))/\Below w.heap.size w w':=by
 have h4:=ze7 k;have e1:(((S.parts k).map (λp=>aT (S.partText o p))).map (·.data.toList))=(S.parts k).map (S.partText o):=by
  rw[jn];rfl
 have h:=Tryz.strings_Join g 0 c ((S.parts k).map (λp=>aT (S.partText o p))) ⟨#[44,32]⟩ w (λj x f=>?_) i (by simp;omega) (by simpa using hc) ?_
 ·rw[e1,ba] at h
  exact h
 ·have l:j<(S.parts k).length:=by
   have:=(aA.1 f).1
   simpa using this
  rw[aN,a j l];unfold se;rw[gH,show (λp=>Value.string (aT (S.partText o p)))=Value.string ∘ (λp=>aT (S.partText o p)) from U,<- jn,aX,f];rfl
 ·rw[e1]
  exact ax (zeu b) (by omega)
theorem zpV{w:World}{B:Nat}{t:TypeId}{v:Value}{n:Nat}{xs:List Value}(h:w.ownsRow B t 1 v n xs)(c:n=0):∃ a b,v=.slice a 0 b:=by
 subst c;rcases h.2 with⟨h,_⟩|⟨g,b,d,h,_⟩
 ·exact⟨_,_,h⟩
 ·exact⟨_,_,h⟩
theorem zje(k:Nat)(f:k<32)(d:k≠30)(hp:S.parts k=[])(w:World)(g:aZ w):Calls prog 327 #[.int .i64 k] w λe w'=>∃ a b,e=.returned (.slice a 0 b)/\Below w.heap.size w w':=by
 refine(zfl k f d w g).mono λe w' ⟨v,h,c,hb⟩=>?_
 obtain⟨a,b,rfl⟩:=zpV c (by rw[zkW,hp];rfl);exact⟨a,b,h,hb⟩
def mt(w:World)(g k:Nat):Prop:=∀ j p:Nat,(S.parts k)[j]?=some p->w.cell? ⟨g,j,none⟩=some (.int .i64 p)
theorem zjf(k:Nat)(h:k<32)(c:k≠30)(hp:0<(S.parts k).length)(w:World)(i:aZ w):Calls prog 327 #[.int .i64 k] w λe w'=>∃ g a,e=.returned (.slice (some ⟨g,0,none⟩) (S.parts k).length a)/\mt w' g k/\w.heap.size<=g/\g<w'.heap.size/\(S.parts k).length<=a/\Below w.heap.size w w':=by
 refine(zfl k h c w i).mono λe w' ⟨v,d,b,hb⟩=>?_
 obtain⟨g,a,rfl,h1,h2,h3,h4⟩:=zdv b (by rw[zkW];exact hp);rw[zkW] at d h3 h4;refine⟨g,a,d,λj p f=>?_,h1,h2,h3,hb⟩;rw[h4 j (aA.1 f).1,zxb f]
theorem mt.kept{w w':World}{g k B:Nat}(h:mt w g k)(hb:Below B w w')(hB:g<B):mt w' g k:=λj p a=>(hb.cell hB).trans (h j p a)
theorem zjg:∀ k,k<32->(O.nameS k).size<=4:=by decide +kernel
theorem zkY(k:Nat)(a:k≠30):O.nameS k=aT (K.row k).1:=by unfold O.nameS;rw[G a];rfl
theorem zkZ(k:Nat)(c:k<32)(b:k≠30)(hp:S.parts k=[])(d s n o:Int)(w:World)(g:AF w):Calls prog 273 #[.agg #[.int .i64 k,.int .i64 d,.int .i64 s,.int .i64 n,.int .i64 o]] w λe w'=>e=.returned (.string (aT ((K.row k).1++[10])))/\Below w.heap.size w w':=by
 have h:=hid g;have p:=hid hp;have q:=zjg k c;have j:¬ 9223372036854775807<(O.nameS k).size+1:=by omega
 clear g hp;go_enter func273,ntmps273;go_wp2_with (first
  | (go_at_call 206;refine(zet k c b _ (nB h.out _).shapes).mono ?_;rintro e w1 ⟨rfl,a⟩;obtain⟨r,t⟩:=bQ a;have u:=pK a)
  | (go_at_call 327;refine(zje k c b p.out _ ((nB h.out _).kept a).shapes).mono ?_;rintro e w2 ⟨a2,m,rfl,f⟩))
 go_loop [5,19] (λl i=>l=.slice none 0 0/\i=.int .i64 0) (λ_ _=>0)
 case atStart=>exact⟨U,U⟩
 case round =>
  obtain⟨rfl,rfl⟩:=hrel;go_wp2;go_ret;rw[zkY k b,show (⟨#[10]⟩:ByteArray)=aT [10] from U,qX];exact⟨U,bn (bn (stA (J _) _) a) f⟩
theorem zk0(k:Nat)(hk:k<32)(I:k≠30)(hp:0<(S.parts k).length)(o:S.Ord)(V:O.okB k o.d o.s o.n o.w=true)(w:World)(hF:AF w):Calls prog 273 #[.agg #[.int .i64 k,.int .i64 o.d,.int .i64 o.s,.int .i64 o.n,.int .i64 o.w]] w λe w'=>e=.returned (.string (aT (S.orderText k o++[10])))/\Below w.heap.size w w':=by
 obtain⟨i0,L,M,N,P⟩:=info_parts zkX;have HF:=hid hF;have HO:=hid V;have h4:=ze7 k;clear hF V;go_enter func273,ntmps273;go_wp2_with (first
  | (go_at_call 206;refine(zet k hk I _ (nB HF.out _).shapes).mono ?_;rintro e w1 ⟨rfl,z⟩;obtain⟨hc1,hf1⟩:=bQ z;have hz1':=pK z)
  | (go_at_call 327;refine(zjf k hk I hp _ ((nB HF.out _).kept z).shapes).mono ?_;rintro e w2 ⟨g,cap,rfl,R,hg1,hg2,hcap,hb2⟩))
 have B:=bn z hb2;have T:=hid ((nB HF.out _).kept B);have F:=B.size;clear hc1 hf1;go_loopw [5,19] (λl i wr=>∃ j:Nat,j<=(S.parts k).length/\i=.int .i64 j/\wr.ownsRow w2.heap.size 9 1 l j (se k o j)/\Below w2.heap.size w2 wr) (λ_ i _=>(S.parts k).length-(intOf i).toNat)
 case atStart=>exact⟨0,by omega,U,⟨U,Or.inl ⟨U,U⟩⟩,aW _ _⟩
 case round =>
  obtain⟨j,hj,rfl,a,r⟩:=hrel;have hszr:=r.size;by_cases hlt:j<(S.parts k).length
  ·obtain⟨p,x⟩:∃ p,(S.parts k)[j]?=some p:=⟨_,au hlt⟩
   have E:=znc x;have hcp:=(R.kept r hg2) j p x;have hgr:g<wr.heap.size:=by omega
   have hfield:wr.cell? ⟨w.heap.size,oP p,none⟩=some (.int .i64 (o.get p)):=by
    have hsz:w.heap.size<w2.heap.size:=by simp at F;omega
    rw[r.cell hsz,B.cell (by simp)];exact(jb w _ _ _ U).trans (zn2 k o p E)
   have hwr:w.heap.size<wr.heap.size:=by simp at F;omega
   have hbd:=zuW HO.out p;have hlt':(j:Int)<(S.parts k).length:=by omega
   clear R;have W:=qb (o.get p) (by omega);have hi':(aT (Lib.itoa (o.get p))).size<=7:=W;have hi2:¬ 9223372036854775807<1+(aT (Lib.itoa (o.get p))).size:=by omega
   clear W hi';by_cases h0:p=0
   ·subst h0
    go_wp2_with (first
     | (go_at_call 328;refine(zhP 0 E _ _).mono ?_;rintro e w' ⟨rfl,rfl⟩)
     | (go_at_call 104;refine(qY (o.get 0) (by omega) (by omega) _ (T.out.kept r)).mono ?_;rintro e y ⟨rfl,u⟩;have b:=a.kept (mX u) (mZ _);have c:=bn r u)
     | (at_builtin;refine wpList_append_lies _ (by rfl) _ _ _ (by rfl) w2.heap.size 9 i0 _ 1 16 underlying251 L M N P U (by omega) _ j _ (by rfl) (b.alloc _) ⟨y.heap.size,0,none⟩ 1 1 [.string (⟨#[114]⟩++aT (Lib.itoa (o.get 0)))] (by rfl) (by rfl) (World.news_of_block (cs:=#[.string (⟨#[114]⟩++aT (Lib.itoa (o.get 0)))]) (t:=9) (fr:=(0,0)) (aJ y _)) (by simp[Value.oneCell']) (by omega) (by unfold maxLen;omega) (by omega) (by have:=c.size;simp;omega) (y.heap.size+1) (by simp) ?_;intro gg cp w4 f m X H))
    go_roundw
    case rel=>exact⟨j+1,by omega,by go_num,by rw[zhQ x,zgW o 0 (Or.inl U)];exact f,(stA c _).grown m (stA c _).size (λq Y=>(a.lt q Y).1)⟩
    case measure=>simp[intOf];omega
   ·by_cases h1:p=1
    ·subst h1
     go_wp2_with (first
     | (go_at_call 328;refine(zhP 1 E _ _).mono ?_;rintro e w' ⟨rfl,rfl⟩)
     | (go_at_call 104;refine(qY (o.get 1) (by omega) (by omega) _ (T.out.kept r)).mono ?_;rintro e y ⟨rfl,u⟩;have b:=a.kept (mX u) (mZ _);have c:=bn r u)
     | (at_builtin;refine wpList_append_lies _ (by rfl) _ _ _ (by rfl) w2.heap.size 9 i0 _ 1 16 underlying251 L M N P U (by omega) _ j _ (by rfl) (b.alloc _) ⟨y.heap.size,0,none⟩ 1 1 [.string (⟨#[114]⟩++aT (Lib.itoa (o.get 1)))] (by rfl) (by rfl) (World.news_of_block (cs:=#[.string (⟨#[114]⟩++aT (Lib.itoa (o.get 1)))]) (t:=9) (fr:=(0,0)) (aJ y _)) (by simp[Value.oneCell']) (by omega) (by unfold maxLen;omega) (by omega) (by have:=c.size;simp;omega) (y.heap.size+1) (by simp) ?_;intro gg cp w4 f m X H))
     go_roundw
     case rel=>exact⟨j+1,by omega,by go_num,by rw[zhQ x,zgW o 1 (Or.inr U)];exact f,(stA c _).grown m (stA c _).size (λq Y=>(a.lt q Y).1)⟩
     case measure=>simp[intOf];omega
    ·have g0:((p:Int) == 0)=false:=by rw[fA];omega
     have g1:((p:Int) == 1)=false:=by rw[fA];omega
     go_wp2_with (first
     | (go_at_call 328;refine(zhP p E _ _).mono ?_;rintro e w' ⟨rfl,rfl⟩)
     | (go_at_call 104;refine(qY (o.get p) (by omega) (by omega) _ (T.out.kept r)).mono ?_;rintro e y ⟨rfl,u⟩;have b:=a.kept (mX u) (mZ _);have c:=bn r u)
     | (at_builtin;refine wpList_append_lies _ (by rfl) _ _ _ (by rfl) w2.heap.size 9 i0 _ 1 16 underlying251 L M N P U (by omega) _ j _ (by rfl) (b.alloc _) ⟨y.heap.size,0,none⟩ 1 1 [.string (aT (Lib.itoa (o.get p)))] (by rfl) (by rfl) (World.news_of_block (cs:=#[.string (aT (Lib.itoa (o.get p)))]) (t:=9) (fr:=(0,0)) (aJ y _)) (by simp[Value.oneCell']) (by omega) (by unfold maxLen;omega) (by omega) (by have:=c.size;simp;omega) (y.heap.size+1) (by simp) ?_;intro gg cp w4 f m X H))
     go_roundw
     case rel=>exact⟨j+1,by omega,by go_num,by rw[zhQ x,zn3 o p (by omega)];exact f,(stA c _).grown m (stA c _).size (λq Y=>(a.lt q Y).1)⟩
     case measure=>simp[intOf];omega
  ·have hjn:j=(S.parts k).length:=by omega
   subst hjn;obtain⟨g',Z,rfl,hg1',hg2',hc',v⟩:=zdv a hp;have hns:=zjg k hk;have hjs:(aT (Lib.join ((S.parts k).map (S.partText o)) S.comma)).size<=48:=zeu HO.out;have q1:¬ 9223372036854775807<1+(aT (Lib.join ((S.parts k).map (S.partText o)) S.comma)).size:=by omega
   have q2:¬ 9223372036854775807<(O.nameS k).size+(1+(aT (Lib.join ((S.parts k).map (S.partText o)) S.comma)).size):=by omega
   have q3:¬ 9223372036854775807<(O.nameS k).size+(1+(aT (Lib.join ((S.parts k).map (S.partText o)) S.comma)).size)+1:=by omega
   have hp':(0:Int)<(S.parts k).length:=by omega
   have HJ:=hid (zsL k o HO.out g' Z wr hc' hg2' v);clear v R;go_wp2_with (go_at_call 339;refine HJ.out.mono ?_;rintro e w5 ⟨rfl,hb5⟩)
   go_ret;refine⟨?_,bn (bn (bn (stA (J _) _) B) r) hb5⟩;rw[zkY k I,show (⟨#[10]⟩:ByteArray)=aT [10] from U,show (⟨#[32]⟩:ByteArray)=aT [32] from U,qX,qX,qX];unfold S.orderText;rw[G (λh=>by rw[h] at hp;simp at hp)];simp
theorem zhR(k:Nat)(c:k<32)(a:k≠30)(o:S.Ord)(b:O.okB k o.d o.s o.n o.w=true)(w:World)(f:AF w):Calls prog 273 #[.agg #[.int .i64 k,.int .i64 o.d,.int .i64 o.s,.int .i64 o.n,.int .i64 o.w]] w λe w'=>e=.returned (.string (aT (S.orderText k o++[10])))/\Below w.heap.size w w':=by
 by_cases hp:S.parts k=[]
 ·have h:=zkZ k c a hp o.d o.s o.n o.w w f
  have e:S.orderText k o=(K.row k).1:=by unfold S.orderText;rw[Q hp];simp
  rw[e];exact h
 ·exact zk0 k c a (by cases h:S.parts k <;> simp_all) o b w f
theorem qZ(a b:UInt8)(w:World):Calls prog 211 #[.int .u8 a.toNat,.int .u8 b.toNat] w λe w'=>e=.returned (.int .u16 (S.word a b))/\w'=w:=by
 have d:=a.toNat_lt;have hb:=b.toNat_lt;have c:=M.joined (a.toNat:Int) (b.toNat:Int) (by omega) (by omega) (by omega) (by omega);go_enter func211,ntmps211;go_wp2;go_ret;exact⟨by rw[show S.word a b=(a.toNat:Int)*256+b.toNat from U,<- c];rfl,U⟩
def fU(w:World)(g o:Nat)(l:List UInt8):Prop:=∀(j:Nat) (c:UInt8),l[j]?=some c->w.cell? ⟨g,o+j,none⟩=some (.int .u8 c.toNat)
theorem fU.kept{w w':World}{g o B:Nat}{l:List UInt8}(h:fU w g o l)(hb:Below B w w')(hB:g<B):fU w' g o l:=λj c a=>(hb.cell hB).trans (h j c a)
theorem fU.drop{w:World}{g o:Nat}{l:List UInt8}(h:fU w g o l)(n:Nat):fU w g (o+n) (l.drop n):=λj c a=>by
 rw[fQ] at a;rw[cA];exact h (n+j) c a
theorem oH{w a:World}(h:Below w.heap.size w a)(k:Nat):Below w.heap.size w (a.drewN k):=by
 induction k with
 | zero=>exact h
 | succ k b=>exact b.drew
theorem pw{w:World}(h:AF w)(k:Nat):AF (w.drewN k):=h.kept (oH (J _) k)
theorem zk1(op d s n a:Int)(h1:O.isOp op=true)(b:O.okB op.toNat d s n a=true)(w:World)(f:aZ w):Calls prog 272 #[.agg #[.int .i64 op,.int .i64 d,.int .i64 s,.int .i64 n,.int .i64 a]] w λe w' =>
  ∃(g c:Nat),e=.returned (.tuple #[.slice (some ⟨g,0,none⟩) c c,.int .i64 0])/\0<c/\w'.cell? ⟨g,0,none⟩=some (.int .u16 (O.first op d s n))/\g<w'.heap.size/\Below w.heap.size w w':=by
 refine(zjc op d s n a h1 b w f).mono λe w' ⟨g,h,i,_,j,hb⟩=>?_
 refine⟨g,(O.words op d s n a).length,h,?_,?_,j,hb⟩
 ·unfold O.words;split <;> simp
 ·have:=i 0 (by unfold O.words;split <;> simp)
  rw[this];unfold O.words;split <;> rfl
theorem tu(a b:Int)(d:0<=a/\a<=65535)(hb:0<=b/\b<=65535)(w:World)(f:aZ w):Calls prog 272 #[.agg #[.int .i64 (O.rOp a),.int .i64 (O.rD a),.int .i64 (O.rS a),.int .i64 (O.rN a),.int .i64 (O.rW a b)]] w λe w' =>
  ∃(g c:Nat),e=.returned (.tuple #[.slice (some ⟨g,0,none⟩) c c,.int .i64 0])/\0<c/\w'.cell? ⟨g,0,none⟩=some (.int .u16 (O.first (O.rOp a) (O.rD a) (O.rS a) (O.rN a)))/\g<w'.heap.size/\Below w.heap.size w w' :=
 zk1 _ _ _ _ _ (O.rOp_isOp a d) (O.read_ok a b d hb) w f
theorem zdq(a b:Int)(c:0<=a/\a<=65535)(hb:0<=b/\b<=65535)(w:World)(d:AF w):Calls prog 273 #[.agg #[.int .i64 (O.rOp a),.int .i64 (O.rD a),.int .i64 (O.rS a),.int .i64 (O.rN a),.int .i64 (O.rW a b)]] w λe w'=>e=.returned (.string (aT (S.orderText (O.rk a) (S.rOrd a b)++[10])))/\Below w.heap.size w w':=by
 obtain⟨o1,o2,g⟩:=(O.isOp_iff _).1 (O.rOp_isOp a c);have f:((O.rk a:Nat):Int)=O.rOp a:=by show (((O.rOp a).toNat:Nat):Int)=O.rOp a;omega
 have h:=zhR (O.rk a) (by show (O.rOp a).toNat<32;omega) (by show (O.rOp a).toNat≠30;omega) (S.rOrd a b) (O.read_ok a b c hb) w d;rw[f] at h;exact h
theorem tv(a b:Int)(c:0<=a/\a<=65535)(hb:0<=b/\b<=65535)(w:World)(d:aZ w):Calls prog 271 #[.int .u16 a,.int .u16 b] w λe w'=>e=.returned (.tuple #[.agg #[.int .i64 (O.rOp a),.int .i64 (O.rD a),.int .i64 (O.rS a),.int .i64 (O.rN a),.int .i64 (O.rW a b)],.int .i64 (O.rLen a)])/\Below w.heap.size w w':=ze6 a b c hb w d
theorem zne{P:Program}{f:FuncId}{args:Array Value}{w:World}{q n:Nat}{v:Value}
 (h:Calls P f args (w.drewN (q+n)) λe w'=>e=.returned v/\w'=w.drewN (q+n)):Calls P f args (w.drewN (q+n)) λe a=>e=.returned v /\ ∃ m,a=w.drewN (q+m) :=
 h.mono λ_ _ ⟨b,c⟩=>⟨b,n,c⟩
theorem zdw(a:Int):(⟨#[46,119,111,114,100,32]⟩:ByteArray)++aT (Lib.itoa a)++(⟨#[10]⟩:ByteArray)=aT (S.wordText a++[10]):=by
 rw[show (⟨#[46,119,111,114,100,32]⟩:ByteArray)=aT [46,119,111,114,100,32] from U,show (⟨#[10]⟩:ByteArray)=aT [10] from U,qX,qX];simp[S.wordText,S.plain]
theorem zsM(g o b:Nat)(x y:UInt8)(l:2<=b)(w:World)(F:g<w.heap.size)(c0:w.cell? ⟨g,o,none⟩=some (.int .u8 x.toNat))(c1:w.cell? ⟨g,o+1,none⟩=some (.int .u8 y.toNat))(m:AF w)(q:¬ O.first (O.rOp (S.word x y)) (O.rD (S.word x y)) (O.rS (S.word x y)) (O.rN (S.word x y))=S.word x y):Calls prog 233 #[.slice (some ⟨g,o,none⟩) 2 b] w λe w'=>e=.returned (.tuple #[.string (aT (S.wordText (S.word x y)++[10])),.int .i64 2])/\Below w.heap.size w w':=by
 have n:=hid m;obtain⟨a0,a1⟩:=S.word_bd x y;obtain⟨l1,l2⟩:1<=O.rLen (S.word x y)/\O.rLen (S.word x y)<=2:=by rcases S.rLen_or (S.word x y) with h|h <;> rw[h] <;> omega
 have f:(aT (Lib.itoa (S.word x y))).size<=7:=qb (S.word x y) (by omega);have r:¬ 9223372036854775807<6+(aT (Lib.itoa (S.word x y))).size:=by omega
 have s:¬ 9223372036854775807<6+(aT (Lib.itoa (S.word x y))).size+1:=by omega
 clear m f;go_enter func233,ntmps233;go_wp2;go_quiet ((go_at_call 211;exact Calls.quiet_of_same (qZ x y _)))
 go_wp2_with (first
  | (go_at_call 271;refine(tv _ 0 ⟨a0,a1⟩ (by omega) _ (pw n.out _).shapes).mono ?_;rintro e w1 ⟨rfl,c⟩;have d:=hid (nB ((pw n.out _).kept c) (.cells #[.int .i64 (O.rOp (S.word x y)),.int .i64 (O.rD (S.word x y)),.int .i64 (O.rS (S.word x y)),.int .i64 (O.rN (S.word x y)),.int .i64 (O.rW (S.word x y) 0)] 191)))
  | (go_at_call 272;refine(tu (S.word x y) 0 ⟨a0,a1⟩ (by omega) _ d.out.shapes).mono ?_;rintro e w2 ⟨H,t,rfl,i,u,v,a⟩;have p:(0:Int)<t:=fJ.2 i;have j:=hid (d.out.kept a);obtain⟨z,B⟩:=bQ a;have E:=pK a)
  | (go_at_call 104;refine(qY (S.word x y) (by omega) (by omega) _ j.out).mono ?_;rintro e I ⟨rfl,k⟩))
 go_ret2
 exact⟨by rw[<- zdw];rfl,bn (bn (stA (bn (oH (J w) _) c) _) a) k⟩
theorem zsN(g o c:Nat)(x y:UInt8)(m:2<=c)(w:World)(I:g<w.heap.size)(c0:w.cell? ⟨g,o,none⟩=some (.int .u8 x.toNat))(c1:w.cell? ⟨g,o+1,none⟩=some (.int .u8 y.toNat))(n:AF w)(b:O.first (O.rOp (S.word x y)) (O.rD (S.word x y)) (O.rS (S.word x y)) (O.rN (S.word x y))=(S.word x y))(L:(2:Int)<2*O.rLen (S.word x y)):Calls prog 233 #[.slice (some ⟨g,o,none⟩) 2 c] w λe w'=>e=.returned (.tuple #[.string (aT (S.wordText (S.word x y)++[10])),.int .i64 2])/\Below w.heap.size w w':=by
 have p:=hid n;obtain⟨a0,a1⟩:=S.word_bd x y;obtain⟨l1,l2⟩:1<=O.rLen (S.word x y)/\O.rLen (S.word x y)<=2:=by rcases S.rLen_or (S.word x y) with h|h <;> rw[h] <;> omega
 have i:(aT (Lib.itoa (S.word x y))).size<=7:=qb (S.word x y) (by omega);have r:¬ 9223372036854775807<6+(aT (Lib.itoa (S.word x y))).size:=by omega
 have s:¬ 9223372036854775807<6+(aT (Lib.itoa (S.word x y))).size+1:=by omega
 have t:=hid b;have u:(O.first (O.rOp (S.word x y)) (O.rD (S.word x y)) (O.rS (S.word x y)) (O.rN (S.word x y)) == (S.word x y))=true:=by rw[b];simp
 clear b;clear n i;go_enter func233,ntmps233;go_wp2;go_quiet ((go_at_call 211;exact Calls.quiet_of_same (qZ x y _)))
 go_wp2_with (first
  | (go_at_call 271;refine(tv _ 0 ⟨a0,a1⟩ (by omega) _ (pw p.out _).shapes).mono ?_;rintro e w1 ⟨rfl,d⟩;have f:=hid (nB ((pw p.out _).kept d) (.cells #[.int .i64 (O.rOp (S.word x y)),.int .i64 (O.rD (S.word x y)),.int .i64 (O.rS (S.word x y)),.int .i64 (O.rN (S.word x y)),.int .i64 (O.rW (S.word x y) 0)] 191)))
  | (go_at_call 272;refine(tu (S.word x y) 0 ⟨a0,a1⟩ (by omega) _ f.out.shapes).mono ?_;rintro e w2 ⟨M,v,rfl,j,z,B,a⟩;have q:(0:Int)<v:=fJ.2 j;have k:=hid (f.out.kept a);obtain⟨E,F⟩:=bQ a;have H:=pK a)
  | (go_at_call 104;refine(qY (S.word x y) (by omega) (by omega) _ k.out).mono ?_;rintro e N ⟨rfl,l⟩))
 go_ret2
 exact⟨by rw[<- zdw];rfl,bn (bn (stA (bn (oH (J w) _) d) _) a) l⟩
theorem zsO(g o c:Nat)(x y:UInt8)(m:2<=c)(w:World)(I:g<w.heap.size)(c0:w.cell? ⟨g,o,none⟩=some (.int .u8 x.toNat))(c1:w.cell? ⟨g,o+1,none⟩=some (.int .u8 y.toNat))(n:AF w)(b:O.first (O.rOp (S.word x y)) (O.rD (S.word x y)) (O.rS (S.word x y)) (O.rN (S.word x y))=(S.word x y))(L:¬ (2:Int)<2*O.rLen (S.word x y)):Calls prog 233 #[.slice (some ⟨g,o,none⟩) 2 c] w λe w'=>e=.returned (.tuple #[.string (aT (S.orderText (O.rk (S.word x y)) (S.rOrd (S.word x y) 0)++[10])),.int .i64 (2*O.rLen (S.word x y))])/\Below w.heap.size w w':=by
 have p:=hid n;obtain⟨a0,a1⟩:=S.word_bd x y;obtain⟨l1,l2⟩:1<=O.rLen (S.word x y)/\O.rLen (S.word x y)<=2:=by rcases S.rLen_or (S.word x y) with h|h <;> rw[h] <;> omega
 have i:(aT (Lib.itoa (S.word x y))).size<=7:=qb (S.word x y) (by omega);have r:¬ 9223372036854775807<6+(aT (Lib.itoa (S.word x y))).size:=by omega
 have s:¬ 9223372036854775807<6+(aT (Lib.itoa (S.word x y))).size+1:=by omega
 have t:=hid b;have u:(O.first (O.rOp (S.word x y)) (O.rD (S.word x y)) (O.rS (S.word x y)) (O.rN (S.word x y)) == (S.word x y))=true:=by rw[b];simp
 clear b;clear n i;go_enter func233,ntmps233;go_wp2;go_quiet ((go_at_call 211;exact Calls.quiet_of_same (qZ x y _)))
 go_wp2_with (first
  | (go_at_call 271;refine(tv _ 0 ⟨a0,a1⟩ (by omega) _ (pw p.out _).shapes).mono ?_;rintro e w1 ⟨rfl,d⟩;have f:=hid (nB ((pw p.out _).kept d) (.cells #[.int .i64 (O.rOp (S.word x y)),.int .i64 (O.rD (S.word x y)),.int .i64 (O.rS (S.word x y)),.int .i64 (O.rN (S.word x y)),.int .i64 (O.rW (S.word x y) 0)] 191)))
  | (go_at_call 272;refine(tu (S.word x y) 0 ⟨a0,a1⟩ (by omega) _ f.out.shapes).mono ?_;rintro e w2 ⟨M,v,rfl,j,z,B,a⟩;have q:(0:Int)<v:=fJ.2 j;have k:=hid (f.out.kept a);obtain⟨E,F⟩:=bQ a;have H:=pK a)
  | (go_at_call 273;refine(zdq (S.word x y) 0 ⟨a0,a1⟩ (by omega) _ k.out).mono ?_;rintro e N ⟨rfl,l⟩))
 go_ret2
 exact⟨U,bn (bn (stA (bn (oH (J w) _) d) _) a) l⟩
theorem zsP(g o n c:Nat)(x y x2 b:UInt8)(N:(3:Int)<n)(m:n<=c)(w:World)(P:g<w.heap.size)(c0:w.cell? ⟨g,o,none⟩=some (.int .u8 x.toNat))(c1:w.cell? ⟨g,o+1,none⟩=some (.int .u8 y.toNat))(c2:w.cell? ⟨g,o+2,none⟩=some (.int .u8 x2.toNat))(c3:w.cell? ⟨g,o+3,none⟩=some (.int .u8 b.toNat))(p:AF w)(s:¬ O.first (O.rOp (S.word x y)) (O.rD (S.word x y)) (O.rS (S.word x y)) (O.rN (S.word x y))=S.word x y):Calls prog 233 #[.slice (some ⟨g,o,none⟩) n c] w λe w'=>e=.returned (.tuple #[.string (aT (S.wordText (S.word x y)++[10])),.int .i64 2])/\Below w.heap.size w w':=by
 have q:=hid p;obtain⟨a0,a1⟩:=S.word_bd x y;obtain⟨b0,b1⟩:=S.word_bd x2 b;have t:(0:Int)<n:=by omega
 have u:(1:Int)<n:=by omega
 have v:(2:Int)<n:=by omega
 obtain⟨l1,l2⟩:1<=O.rLen (S.word x y)/\O.rLen (S.word x y)<=2:=by rcases S.rLen_or (S.word x y) with h|h <;> rw[h] <;> omega
 have i:(aT (Lib.itoa (S.word x y))).size<=7:=qb (S.word x y) (by omega);have z:¬ 9223372036854775807<6+(aT (Lib.itoa (S.word x y))).size:=by omega
 have B:¬ 9223372036854775807<6+(aT (Lib.itoa (S.word x y))).size+1:=by omega
 clear p i;go_enter func233,ntmps233;go_wp2;go_quiet ((go_at_call 211;exact Calls.quiet_of_same (qZ x y _)))
 go_wp2;go_quiet ((go_at_call 211;exact zne (qZ x2 b _)))
 go_wp2_with (first
  | (go_at_call 271;refine(tv _ (S.word x2 b) ⟨a0,a1⟩ ⟨b0,b1⟩ _ (pw q.out _).shapes).mono ?_;rintro e w1 ⟨rfl,d⟩;have f:=hid (nB ((pw q.out _).kept d) (.cells #[.int .i64 (O.rOp (S.word x y)),.int .i64 (O.rD (S.word x y)),.int .i64 (O.rS (S.word x y)),.int .i64 (O.rN (S.word x y)),.int .i64 (O.rW (S.word x y) (S.word x2 b))] 191)))
  | (go_at_call 272;refine(tu (S.word x y) (S.word x2 b) ⟨a0,a1⟩ ⟨b0,b1⟩ _ f.out.shapes).mono ?_;rintro e w2 ⟨R,E,rfl,j,F,H,a⟩;have r:(0:Int)<E:=fJ.2 j;have k:=hid (f.out.kept a);obtain⟨I,L⟩:=bQ a;have M:=pK a)
  | (go_at_call 104;refine(qY (S.word x y) (by omega) (by omega) _ k.out).mono ?_;rintro e T ⟨rfl,l⟩))
 go_ret2
 exact⟨by rw[<- zdw];rfl,bn (bn (stA (bn (oH (J w) _) d) _) a) l⟩
theorem zsQ(g o n d:Nat)(x y x2 b:UInt8)(R:(3:Int)<n)(p:n<=d)(w:World)(T:g<w.heap.size)(c0:w.cell? ⟨g,o,none⟩=some (.int .u8 x.toNat))(c1:w.cell? ⟨g,o+1,none⟩=some (.int .u8 y.toNat))(c2:w.cell? ⟨g,o+2,none⟩=some (.int .u8 x2.toNat))(c3:w.cell? ⟨g,o+3,none⟩=some (.int .u8 b.toNat))(q:AF w)(c:O.first (O.rOp (S.word x y)) (O.rD (S.word x y)) (O.rS (S.word x y)) (O.rN (S.word x y))=(S.word x y))(V:¬ (n:Int)<2*O.rLen (S.word x y)):Calls prog 233 #[.slice (some ⟨g,o,none⟩) n d] w λe w'=>e=.returned (.tuple #[.string (aT (S.orderText (O.rk (S.word x y)) (S.rOrd (S.word x y) (S.word x2 b))++[10])),.int .i64 (2*O.rLen (S.word x y))])/\Below w.heap.size w w':=by
 have r:=hid q;obtain⟨a0,a1⟩:=S.word_bd x y;obtain⟨b0,b1⟩:=S.word_bd x2 b;have t:(0:Int)<n:=by omega
 have u:(1:Int)<n:=by omega
 have v:(2:Int)<n:=by omega
 obtain⟨l1,l2⟩:1<=O.rLen (S.word x y)/\O.rLen (S.word x y)<=2:=by rcases S.rLen_or (S.word x y) with h|h <;> rw[h] <;> omega
 have j:(aT (Lib.itoa (S.word x y))).size<=7:=qb (S.word x y) (by omega);have z:¬ 9223372036854775807<6+(aT (Lib.itoa (S.word x y))).size:=by omega
 have B:¬ 9223372036854775807<6+(aT (Lib.itoa (S.word x y))).size+1:=by omega
 have E:=hid c;have F:(O.first (O.rOp (S.word x y)) (O.rD (S.word x y)) (O.rS (S.word x y)) (O.rN (S.word x y)) == (S.word x y))=true:=by rw[c];simp
 clear c;clear q j;go_enter func233,ntmps233;go_wp2;go_quiet ((go_at_call 211;exact Calls.quiet_of_same (qZ x y _)))
 go_wp2;go_quiet ((go_at_call 211;exact zne (qZ x2 b _)))
 go_wp2_with (first
  | (go_at_call 271;refine(tv _ (S.word x2 b) ⟨a0,a1⟩ ⟨b0,b1⟩ _ (pw r.out _).shapes).mono ?_;rintro e w1 ⟨rfl,f⟩;have i:=hid (nB ((pw r.out _).kept f) (.cells #[.int .i64 (O.rOp (S.word x y)),.int .i64 (O.rD (S.word x y)),.int .i64 (O.rS (S.word x y)),.int .i64 (O.rN (S.word x y)),.int .i64 (O.rW (S.word x y) (S.word x2 b))] 191)))
  | (go_at_call 272;refine(tu (S.word x y) (S.word x2 b) ⟨a0,a1⟩ ⟨b0,b1⟩ _ i.out.shapes).mono ?_;rintro e w2 ⟨W,H,rfl,k,I,L,a⟩;have s:(0:Int)<H:=fJ.2 k;have l:=hid (i.out.kept a);obtain⟨M,N⟩:=bQ a;have P:=pK a)
  | (go_at_call 273;refine(zdq (S.word x y) (S.word x2 b) ⟨a0,a1⟩ ⟨b0,b1⟩ _ l.out).mono ?_;rintro e X ⟨rfl,m⟩))
 go_ret2
 exact⟨U,bn (bn (stA (bn (oH (J w) _) f) _) a) m⟩
theorem zfm(a:Int)(len:Nat):S.isOrder a len=true ↔ O.first (O.rOp a) (O.rD a) (O.rS a) (O.rN a)=a/\2*O.rLen a<=len:=by
 unfold S.isOrder;simp only[dZ,iz,bC]
theorem znf(a:Int)(len:Nat)(b:Int)(h:O.first (O.rOp a) (O.rD a) (O.rS a) (O.rN a)=a)(h2:¬ (len:Int)<2*O.rLen a):S.lineOf a len b=(S.orderText (O.rk a) (S.rOrd a b),2*(O.rLen a).toNat):=by
 unfold S.lineOf;rw[Q ((zfm a len).2 ⟨h,by omega⟩)]
theorem zk2(a:Int)(len:Nat)(b:Int)(h:¬ (O.first (O.rOp a) (O.rD a) (O.rS a) (O.rN a)=a/\2*O.rLen a<=len)):S.lineOf a len b=(S.wordText a,2):=by
 unfold S.lineOf;rw[G (λc=>h ((zfm a len).1 c))]
theorem zng(a:Int):((2*(O.rLen a).toNat:Nat):Int)=2*O.rLen a:=by rcases S.rLen_or a with h|h <;> rw[h] <;> rfl
theorem zhS(g o n b:Nat)(l:List UInt8)(c:l.length=n)(h2:2<=n)(s:n%2=0)(a:n<=b)(w:World)(i:g<w.heap.size)(hb:fU w g o l)(j:AF w):Calls prog 233 #[.slice (some ⟨g,o,none⟩) n b] w λe w'=>e=.returned (.tuple #[.string (aT ((S.firstLine l).1++[10])),.int .i64 ((S.firstLine l).2:Nat)])/\Below w.heap.size w w':=by
 match l,c,hb with
 | x::y::r,c,hb =>
  have c0:=hb 0 x U;have c1:=hb 1 y U;have e:S.firstLine (x::y::r)=S.lineOf (S.word x y) n (S.second r):=by rw[<- c];rfl
  rw[e]
  match r,c,hb with
  | [],c,hb =>
   have p:n=2:=by simpa using c.symm
   subst p;by_cases d:O.first (O.rOp (S.word x y)) (O.rD (S.word x y)) (O.rS (S.word x y)) (O.rN (S.word x y))=S.word x y
   ·by_cases f:((2:Nat):Int)<2*O.rLen (S.word x y)
    ·rw[zk2 _ _ _ (λh=>by omega)]
     exact zsN g o b x y a w i c0 c1 j d f
    ·rw[znf _ _ _ d f]
     have:=zsO g o b x y a w i c0 c1 j d f;rw[<- zng] at this;exact this
   ·rw[zk2 _ _ _ (λh=>d h.1)]
    exact zsM g o b x y a w i c0 c1 j d
  | [z],c,hb=>simp at c;omega
  | x2::k::q,c,hb =>
   have c2:=hb 2 x2 U;have c3:=hb 3 k U;have m:(3:Int)<n:=by simp at c;omega
   have es:S.second (x2::k::q)=S.word x2 k:=U;rw[es];by_cases d:O.first (O.rOp (S.word x y)) (O.rD (S.word x y)) (O.rS (S.word x y)) (O.rN (S.word x y))=S.word x y
   ·by_cases f:(n:Int)<2*O.rLen (S.word x y)
    ·rcases S.rLen_or (S.word x y) with h|h <;> omega
    ·rw[znf _ _ _ d f]
     have:=zsQ g o n b x y x2 k m a w i c0 c1 c2 c3 j d f;rw[<- zng] at this;exact this
   ·rw[zk2 _ _ _ (λh=>d h.1)]
    exact zsP g o n b x y x2 k m a w i c0 c1 c2 c3 j d
 | [x],c,hb=>simp at c;omega
 | [],c,hb=>simp at c;omega
theorem zpW(a:Option Addr)(n b:Nat)(c:(1024:Int)<n)(w:World):Calls prog 174 #[.slice a n b] w λe w'=>e=.returned (.tuple #[.string (aT []),.int .i64 2])/\w'=w:=by
 go_enter func174,ntmps174;go_wp2
 go_ret2
 exact⟨U,U⟩
theorem zsR(a:Option Addr)(n b:Nat)(d:¬ (1024:Int)<n)(c:(n:Int)%2=1)(w:World):Calls prog 174 #[.slice a n b] w λe w'=>e=.returned (.tuple #[.string (aT []),.int .i64 4])/\w'=w:=by
 have h1:¬ (n:Int)%2=0:=by omega
 have h2:(n:Int).tmod 2=1:=by rw[aq (by omega)];exact c
 go_enter func174,ntmps174;go_wp2
 go_ret2
 exact⟨U,U⟩
theorem znh{T e:TypeId}{B b:Nat}{bs:List Value}{w w':World}(h:Lib.IsBuilder T e B b bs w)(hb:Below w.heap.size w w'):Lib.IsBuilder T e B b bs w':=by
 have key:∀ p,Lib.BuilderAt T e B b p bs w->Lib.BuilderAt T e B b p bs w':=λp hp=>by
  have c:=hp.lt;obtain⟨hB,v,f,a,d⟩:=hp;exact⟨hB,v,(hb.block b c).trans f,a.kept (mX hb) (mZ v),d⟩
 rcases h with h|h
 ·exact Or.inl (key _ h)
 ·exact Or.inr (key _ h)
theorem zk3(l:List UInt8):Lib.strCells (aT l)=Lib.byteCells l:=by
 first|rfl|simp[Lib.strCells,Lib.byteCells,aT]
theorem byteCells_append(a b:List UInt8):Lib.byteCells a++Lib.byteCells b=Lib.byteCells (a++b):=by
 first|rfl|simp[Lib.byteCells]
theorem zcw(a:List UInt8):(Lib.byteCells a).length=a.length:=by
 first|rfl|simp[Lib.byteCells]
theorem zfn(B b:Nat)(acc:List UInt8)(s:List UInt8)(w:World)(h:Lib.IsBuilder 173 5 B b (Lib.byteCells acc) w)(c:acc.length+s.length<=1000000)(hB:B<=w.heap.size):Calls prog 82 #[.pointer (some ⟨b,0,none⟩),.string (aT s)] w λe w'=>e=.returned (.tuple #[.int .i64 (aT s).size,.nilIface])/\Lib.IsBuilder 173 5 B b (Lib.byteCells (acc++s)) w'/\Below B w w':=by
 refine(Any.Builder_WriteString (ρ := Tryz.lays156_ren) { Tryz.lays156 with } Tryz.Builder_Extra_156 B b (Lib.byteCells acc) (aT s) w h ?_ hB).mono λe w' ⟨a,h1,h2⟩=>⟨a,Or.inr ?_,h2⟩
 ·rw[zcw,pL];omega
 ·rw[zk3,byteCells_append] at h1
  exact h1
theorem zsS:∀ k,k<32->(K.row k).1.length<=4:=by decide +kernel
theorem zgX(l:List UInt8):(S.firstLine l).1.length<=60:=by
 have hb:=S.second_bd l;unfold S.firstLine S.lineOf;split
 ·have a:=O.read_ok (S.second l) (S.second (l.drop 2)) hb (S.second_bd _)
  obtain⟨o1,o2,b⟩:=(O.isOp_iff _).1 (O.rOp_isOp (S.second l) hb);have c:=zsS (O.rk (S.second l)) (by show (O.rOp _).toNat<32;omega);have d:=zeu (k:=O.rk (S.second l)) (o:=S.rOrd (S.second l) (S.second (l.drop 2))) a;show (S.orderText _ _).length<=60;unfold S.orderText;rw[aC];split
  ·simp;omega
  ·rw[bR];omega
 ·have:=qb (S.second l) (by omega)
  show (S.wordText _).length<=60;unfold S.wordText;simp[S.plain];omega
theorem zc6(f:Nat)(rom:List UInt8)(h:rom≠[]):S.listN (f+1) rom=(S.firstLine rom).1++[10]++S.listN f (rom.drop (S.firstLine rom).2):=by
 simp[S.listN,h]
theorem zgY:∀(f:Nat) (rom:List UInt8),rom.length<=f->∀ g,rom.length<=g->S.listN f rom=S.listN g rom
 | 0,rom,b,g,c=>by
  have:rom=[]:=bv.1 (by omega);subst this;cases g <;> simp[S.listN]
 | f+1,rom,b,g,c=>by
  by_cases a:rom=[]
  ·subst a;cases g <;> simp[S.listN]
  ·have d:rom.length≠0:=λh=>a (bv.1 h)
   obtain⟨g',rfl⟩:∃ g',g=g'+1:=⟨g-1,by omega⟩
   rw[zc6 f rom a,zc6 g' rom a];have e:=S.first_size rom;rw[zgY f (rom.drop (S.firstLine rom).2) (by simp;omega) g' (by simp;omega)]
theorem zpX(rom:List UInt8)(h:rom≠[]):S.list rom=(S.firstLine rom).1++[10]++S.list (rom.drop (S.firstLine rom).2):=by
 have c:rom.length≠0:=λa=>h (bv.1 a)
 obtain⟨f,b⟩:∃ f,rom.length=f+1:=⟨rom.length-1,by omega⟩
 have d:=S.first_size rom;unfold S.list;rw[b,zc6 f rom h,zgY f (rom.drop (S.firstLine rom).2) (by simp;omega) _ (ak _)]
theorem zgZ(B b:Nat)(l:List UInt8)(w:World)(h:Lib.IsBuilder 173 5 B b (Lib.byteCells l) w)(hB:B<=w.heap.size):Calls prog 85 #[.pointer (some ⟨b,0,none⟩)] w λe w'=>e=.returned (.string (aT l))/\Below B w w':=Tryz.Builder_String_any B b l w h hB
theorem zuX(a:Option Addr)(b:Nat)(w:World):Calls prog 174 #[.slice a 0 b] w λe w'=>e=.returned (.tuple #[.string (aT []),.int .i64 0])/\Below w.heap.size w w':=by
 go_enter func174,ntmps174;go_wp2
 go_loop [0] (λr=>r=.slice a 0 b) (λ_=>0)
 case atStart=>rfl
 case round =>
  subst hrel;go_wp2_with (go_at_call 85;refine(zgZ w.heap.size w.heap.size [] _ (Lib.fresh_isBuilder _ _ w) (by simp)).mono ?_;rintro e w1 ⟨rfl,c⟩)
  go_ret2
  exact⟨U,(stA (J _) _).trans c⟩
theorem zxc(g o n c:Nat)(l:List UInt8)(N:l.length=n)(h2:2<=n)(he:n%2=0)(hm:n<=1024)(H:n<=c)(w:World)(P:g<w.heap.size)(hb:fU w g o l)(I:AF w):Calls prog 174 #[.slice (some ⟨g,o,none⟩) n c] w λe w'=>e=.returned (.tuple #[.string (aT (S.list l)),.int .i64 0])/\Below w.heap.size w w':=by
 have R:=hid I;have T:=hid hb;have y:(n:Int)%2=0:=by omega
 have V:(n:Int).tmod 2=0:=by rw[aq (by omega)];exact y
 have W:¬ (1024:Int)<n:=by omega
 clear I hb;go_enter func174,ntmps174;go_wp2;go_loopw [0] (λr wr=>∃(q:Nat) (acc:List UInt8) (a:Option Addr),q<=n/\q%2=0/\r=.slice a (n-q) (c-q)/\(q<n->a=some ⟨g,o+q,none⟩)/\Lib.IsBuilder 173 5 w.heap.size w.heap.size (Lib.byteCells acc) wr/\Below w.heap.size w wr/\acc++S.list (l.drop q)=S.list l/\acc.length<=64*q) (λr _=>match r with | .slice _ k _=>k|_=>0)
 case atStart=>exact⟨0,[],_,by omega,U,U,λ_=>U,Lib.fresh_isBuilder _ _ w,stA (J _) _,U,by simp⟩
 case round =>
  obtain⟨q,acc,a,hq,X,rfl,Y,hB,d,f,L⟩:=hrel;have i:=d.size;by_cases z:q<n
  ·obtain rfl:=Y z
   have M:(0:Int)<((n-q:Nat):Int):=by omega
   have m:(l.drop q).length=n-q:=by rw[dh,N]
   have B:l.drop q≠[]:=λh=>by rw[h] at m;simp at m;omega
   have x:=hid (zhS g (o+q) (n-q) (c-q) (l.drop q) m (by omega) (by omega) (by omega) wr (by omega) ((T.out.kept d P).drop q) (R.out.kept d));have Z:=zgX (l.drop q);have j:=hid (zpX (l.drop q) B);have u:=S.first_le (l.drop q) (by omega);rcases S.first_size (l.drop q) with E|E
   ·rw[E] at x j u
    have v:(2:Int)<=((n-q:Nat):Int):=by omega
    go_wp2_with (first
     | (go_at_call 233;refine x.out.mono ?_;rintro e w1 ⟨rfl,b⟩)
     | (go_at_call 82;refine(zfn w.heap.size w.heap.size acc _ _ (znh hB b) (by simp;omega) (ax i b.size)).mono ?_;rintro e w2 ⟨rfl,p,s⟩))
    refine⟨⟨q+2,acc++((S.firstLine (l.drop q)).1++[10]),_,by omega,by omega,by rw[show n-q-2=n-(q+2) by omega,show c-q-2=c-(q+2) by omega],λh=>?_,p,(bn d b).trans s,?_,?_⟩,?_⟩
    ·rw[G (by omega)];rfl
    ·rw[<- f,j.out,jW];simp
    ·simp;omega
    ·simp only;omega
   ·rw[E] at x j u
    have v:(4:Int)<=((n-q:Nat):Int):=by omega
    go_wp2_with (first
     | (go_at_call 233;refine x.out.mono ?_;rintro e w1 ⟨rfl,b⟩)
     | (go_at_call 82;refine(zfn w.heap.size w.heap.size acc _ _ (znh hB b) (by simp;omega) (ax i b.size)).mono ?_;rintro e w2 ⟨rfl,p,s⟩))
    refine⟨⟨q+4,acc++((S.firstLine (l.drop q)).1++[10]),_,by omega,by omega,by rw[show n-q-4=n-(q+4) by omega,show c-q-4=c-(q+4) by omega],λh=>?_,p,(bn d b).trans s,?_,?_⟩,?_⟩
    ·rw[G (by omega)];rfl
    ·rw[<- f,j.out,jW];simp
    ·simp;omega
    ·simp only;omega
  ·have F:q=n:=by omega
   subst F;have h0:q-q=0:=by omega
   rw[h0];have t:acc=S.list l:=by
    rw[<- f,mB (by omega)];simp[S.list,S.listN]
   subst t;go_wp2_with (go_at_call 85;refine(zgZ w.heap.size w.heap.size (S.list l) _ hB i).mono ?_;rintro e w1 ⟨rfl,b⟩)
   go_ret2
   exact⟨U,d.trans b⟩
def ky(l:List UInt8):List UInt8 × Int:=if 1024<l.length then ([],2) else if l.length%2=1 then ([],4) else (S.list l,0)
def ip(w:World)(v:Value)(l:List UInt8):Prop:=(∃ a b,v=.slice a 0 b/\l=[]) \/ ∃ g o b,v=.slice (some ⟨g,o,none⟩) l.length b/\l.length<=b/\g<w.heap.size/\fU w g o l
theorem zsT(v:Value)(l:List UInt8)(w:World)(h:ip w v l)(i:AF w):Calls prog 174 #[v] w λe w'=>e=.returned (.tuple #[.string (aT (ky l).1),.int .i64 (ky l).2])/\Below w.heap.size w w':=by
 rcases h with⟨a,b,rfl,rfl⟩|⟨g,o,b,rfl,h2,h3,h4⟩
 ·exact zuX a b w
 ·unfold ky
  by_cases d:1024<l.length
  ·rw[Q d]
   exact(zpW _ _ b (by omega) w).mono λe w' c=>⟨c.1,c.2 ▸ J _⟩
  ·rw[G d]
   by_cases f:l.length%2=1
   ·rw[Q f]
    exact(zsR _ _ b (by omega) (by omega) w).mono λe w' c=>⟨c.1,c.2 ▸ J _⟩
   ·rw[G f]
    by_cases j:l.length=0
    ·have:l=[]:=bv.1 j
     subst this;exact zuX _ b w
    ·exact zxc g o l.length b l U (by omega) (by omega) (by omega) h2 w h3 h4 i
/-! ### the orders by their names -/
/-! ### the reader -/
def pl(l:List (S.By × Nat)):List (ByteArray × Int):=l.map (λp=>(aT p.1,(p.2:Int)))
section
variable {w w' : World} {B b mo mp : Nat} {ua ra : Option Addr} {uc rc : Nat} {st : S.St} {ln : Nat}
end
theorem zlf{W:World}{l:List (String × DataW Unit)}(h:laidMet prog l W)(b:("internal/strconv.uint64pow10",Rows.laid_internal_strconv_uint64pow10)∈l):Lib.TabIs prog W "internal/strconv.uint64pow10" .u64 Lib.pow10Tab:=by
 obtain⟨g,t,cs,fuel,p,c,d,e,a⟩:=Lib.laidMet.reads h b;have e2:(Tryz.prog.globals[6]?).map (·.type)=some 397:=by kernel_rfl
 obtain rfl:=aH (g_pow.symm.trans c);obtain rfl:=aH (e2.symm.trans d);have e3:(Rows.laid_internal_strconv_uint64pow10:DataW Unit)=Lib.tabData .u64 Lib.pow10Tab:=by kernel_rfl
 rw[e3] at a;unfold Lib.TabIs;rw[e,<- Lib.cells_of_tab underlying397 underlying350 (by kernel_rfl) (by kernel_rfl) a]
theorem qF{W:World}{l:List (String × DataW Unit)}(h:laidMet prog l W)(a:W.ShapedOpen prog)(h1:("internal/strconv.uint64pow10",Rows.laid_internal_strconv_uint64pow10)∈l)(h2:("marquee/order.shapes",Rows.laid_marquee_order_shapes)∈l):AF W :=
 ⟨zlf h h1,zfk a,zdp h h2⟩
structure CkW (w : World) (u0 u1 u2 u3 u4 : Option Addr) (n0 n1 n2 n3 n4 c0 c1 c2 c3 c4 : Nat) (x l a f k m q : Int) (g : Bool) (Y : World) : Prop where
 low:Below w.heap.size w Y
 z:w.heap.size<Y.heap.size
 r0:Y.cell? ⟨w.heap.size,30,none⟩=some (.slice u0 n0 c0)
 r1:Y.cell? ⟨w.heap.size,31,none⟩=some (.slice u1 n1 c1)
 r2:Y.cell? ⟨w.heap.size,32,none⟩=some (.slice u2 n2 c2)
 r3:Y.cell? ⟨w.heap.size,33,none⟩=some (.slice u3 n3 c3)
 r4:Y.cell? ⟨w.heap.size,34,none⟩=some (.slice u4 n4 c4)
 s:Y.cell? ⟨w.heap.size,60,none⟩=some (.int .i64 x)
 b0:Y.cell? ⟨w.heap.size,61,none⟩=some (.int .i64 l)
 b1:Y.cell? ⟨w.heap.size,62,none⟩=some (.int .i64 a)
 b2:Y.cell? ⟨w.heap.size,63,none⟩=some (.bool g)
 b3:Y.cell? ⟨w.heap.size,64,none⟩=some (.int .i64 f)
 k:Y.cell? ⟨w.heap.size,72,none⟩=some (.int .i64 k)
 m:Y.cell? ⟨w.heap.size,73,none⟩=some (.int .i64 m)
 q:Y.cell? ⟨w.heap.size,74,none⟩=some (.int .i64 q)
theorem CkW.mk0(M:Mach)(S:Sl)(w:World)(t:TypeId){u0 u1 u2 u3 u4:Option Addr}{c0 c1 c2 c3 c4:Nat}(c:S.get 0=.slice u0 M.mrom.length c0)(e1:S.get 1=.slice u1 M.arom.length c1)(e2:S.get 2=.slice u2 M.ram.length c2)(e3:S.get 3=.slice u3 M.own.length c3)(e4:S.get 4=.slice u4 M.video.length c4):CkW w u0 u1 u2 u3 u4 M.mrom.length M.arom.length M.ram.length M.own.length M.video.length c0 c1 c2 c3 c4 M.s.w M.b.l M.b.a M.b.f M.clock M.mready M.aready M.b.g (w.alloc (.cells (D M S).toArray t)):=by
 have h:=Bx.new w (D M S) t (b:=w.heap.size) U;exact⟨stA (J w) _,h.z,(h.at 30 (S.get 0) U).trans (by rw[c]),(h.at 31 (S.get 1) U).trans (by rw[e1]),(h.at 32 (S.get 2) U).trans (by rw[e2]),(h.at 33 (S.get 3) U).trans (by rw[e3]),(h.at 34 (S.get 4) U).trans (by rw[e4]),h.at 60 _ U,h.at 61 _ U,h.at 62 _ U,h.at 63 _ U,h.at 64 _ U,h.at 72 _ U,h.at 73 _ U,h.at 74 _ U⟩
theorem oC(M:Mach)(S:Sl)(w:World)(b:S.lens M):Calls prog 35 #[.agg (D M S).toArray] w λe w'=>e=.returned (.int .i64 M.chk)/\Below w.heap.size w w':=by
 obtain⟨u0,c0,d⟩:=b 0 (by omega);obtain⟨u1,c1,e1⟩:=b 1 (by omega);obtain⟨u2,c2,e2⟩:=b 2 (by omega);obtain⟨u3,c3,e3⟩:=b 3 (by omega);obtain⟨u4,c4,e4⟩:=b 4 (by omega);have f:=hid (CkW.mk0 M S w 41 d e1 e2 e3 e4);obtain⟨v,c⟩:∃ v,M.chk=v:=⟨_,U⟩
 rw[c];have h:=hid c;clear c d e1 e2 e3 e4 b;go_enter func35,ntmps35;go_upto_region 1 with fail
 refine Pl.cutW (CkW w u0 u1 u2 u3 u4 _ _ _ _ _ c0 c1 c2 c3 c4 _ _ _ _ _ _ _ _) f.out ?_;intro Y i;obtain⟨a,z,r0,r1,r2,r3,r4,s,b0,b1,b2,b3,j,k,l⟩:=i;have g:=hid a;clear a f;go_wp2;all_goals
  go_ret;refine⟨?_,by first|exact g.out|exact stA g.out _⟩;have c:=h.out;simp only[Mach.chk,na,bC] at c;try simp only[jh,ne_eq,bne_eq_false_iff_eq] at *
  refine congrArg (λz=>Ending.returned (.int .i64 z)) ?_;subst c
  repeat' split
  all_goals omega
end Go.Proofs.YthghjlinhokimaaGreatDoor
namespace Go.Proofs.YthghjlinhokimaaGreatDoor.C
section
variable {σ τ : Type} {m : Mem σ} {m' : Mem τ} {aj : σ -> τ -> Prop}
structure Sim (m : Mem σ) (m' : Mem τ) (aj : σ -> τ -> Prop) : Prop where
 rd:∀ s t a,aj s t->(m.rd s a).1=(m'.rd t a).1/\aj (m.rd s a).2 (m'.rd t a).2
 wr:∀ s t a b,aj s t->aj (m.wr s a b) (m'.wr t a b)
structure SQ (aj : σ -> τ -> Prop) (x : St σ) (y : St τ) : Prop where
 c:x.c=y.c
 n:x.n=y.n
 s:aj x.s y.s
theorem Sim.rdw(h:Sim m m' aj){s:σ}{t:τ}(b:aj s t)(a:Int):(m.rdw s a).1=(m'.rdw t a).1/\aj (m.rdw s a).2 (m'.rdw t a).2:=by
 obtain⟨e1,q1⟩:=h.rd s t a b;obtain⟨e2,c⟩:=h.rd _ _ ((a+1)%65536) q1;exact⟨by show (m.rd s a).1*256+_=(m'.rd t a).1*256+_;rw[e1,e2],c⟩
theorem Sim.wrw(h:Sim m m' aj){s:σ}{t:τ}(b:aj s t)(a n:Int):aj (m.wrw s a n) (m'.wrw t a n):=h.wr _ _ _ _ (h.wr _ _ _ _ b)
theorem Sim.push(h:Sim m m' aj){c:Cpu}{s:σ}{t:τ}{k:Int}(a:aj s t)(n:Int):SQ aj (push m ⟨c,s,k⟩ n) (push m' ⟨c,t,k⟩ n):=⟨U,U,h.wrw a _ _⟩
theorem Sim.popV(h:Sim m m' aj){c:Cpu}{s:σ}{t:τ}{k:Int}(a:aj s t):popV m ⟨c,s,k⟩=popV m' ⟨c,t,k⟩:=(h.rdw a _).1
theorem Sim.pop(h:Sim m m' aj){c:Cpu}{s:σ}{t:τ}{k:Int}(a:aj s t):SQ aj (pop m ⟨c,s,k⟩) (pop m' ⟨c,t,k⟩):=⟨U,U,(h.rdw a _).2⟩
theorem Sim.leave(h:Sim m m' aj){x:St σ}{y:St τ}(d:SQ aj x y)(a:Int):SQ aj (leave m x a) (leave m' y a):=by
 obtain⟨c,s,k⟩:=x;obtain⟨e,t,k'⟩:=y;obtain⟨rfl,rfl,b⟩:=d;dsimp only at b;have h1:=h.push (c:=c) (k:=k) b c.PC;have h2:SQ aj (C.push m (C.push m ⟨c,s,k⟩ c.PC) (sign (C.push m ⟨c,s,k⟩ c.PC).c)) (C.push m' (C.push m' ⟨c,t,k⟩ c.PC) (sign (C.push m' ⟨c,t,k⟩ c.PC).c)):=h.push (c:=(C.push m ⟨c,s,k⟩ c.PC).c) (k:=k) h1.s _;obtain⟨e1,q1⟩:=h.rdw h2.s a;refine⟨?_,U,q1⟩;unfold C.leave;dsimp only;rw[h2.c,e1]
theorem Sim.comeBack(h:Sim m m' aj){x:St σ}{y:St τ}(b:SQ aj x y):SQ aj (comeBack m x) (comeBack m' y):=by
 obtain⟨c,s,k⟩:=x;obtain⟨d,t,k'⟩:=y;obtain⟨rfl,rfl,a⟩:=b;dsimp only at a;have e1:=h.popV (c:=c) (k:=k) a;have h1:=h.pop (c:=c) (k:=k) a;have e2:C.popV m (C.pop m ⟨c,s,k⟩)=C.popV m' (C.pop m' ⟨c,t,k⟩):=h.popV (c:=(C.pop m ⟨c,s,k⟩).c) (k:=k) h1.s;have h2:SQ aj (C.pop m (C.pop m ⟨c,s,k⟩)) (C.pop m' (C.pop m' ⟨c,t,k⟩)):=h.pop (c:=(C.pop m ⟨c,s,k⟩).c) (k:=k) h1.s;refine⟨?_,U,h2.s⟩;unfold C.comeBack;dsimp only;rw[e1,e2,h2.c]
theorem Sim.act(h:Sim m m' aj){x:St σ}{y:St τ}(g:SQ aj x y)(k:Nat)(d s n w:Int):SQ aj (act m x k d s n w) (act m' y k d s n w):=by
 have r:=h.leave g 4;have i:=h.comeBack g;obtain⟨c,u,j⟩:=x;obtain⟨l,t,o⟩:=y;obtain⟨rfl,rfl,e⟩:=g;dsimp only at e;have u0:∀(l:Cpu) (o:Int),SQ aj ⟨l,u,o⟩ ⟨l,t,o⟩:=λ_ _=>⟨U,U,e⟩
 have r2:∀ a,SQ aj ⟨c.set d (m.rdw u a).1,(m.rdw u a).2,j⟩ ⟨c.set d (m'.rdw t a).1,(m'.rdw t a).2,j⟩:=λa=>⟨by dsimp only;rw[(h.rdw e a).1],U,(h.rdw e a).2⟩
 have r1:∀ a,SQ aj ⟨c.set d (m.rd u a).1,(m.rd u a).2,j⟩ ⟨c.set d (m'.rd t a).1,(m'.rd t a).2,j⟩:=λa=>⟨by dsimp only;rw[(h.rd u t a e).1],U,(h.rd u t a e).2⟩
 have w2:∀ a b,SQ aj ⟨c,m.wrw u a b,j⟩ ⟨c,m'.wrw t a b,j⟩:=λa b=>⟨U,U,h.wrw e a b⟩
 have w1:∀ a b,SQ aj ⟨c,m.wr u a b,j⟩ ⟨c,m'.wr t a b,j⟩:=λa b=>⟨U,U,h.wr _ _ a b e⟩
 have p:=λb=>h.push (c:=c) (k:=j) e b
 have f:=h.pop (c:=c) (k:=j) e;have q:=h.popV (c:=c) (k:=j) e
 match k with
 | 0=>exact u0 _ _
 | 1=>exact u0 _ _
 | 2=>exact u0 _ _
 | 3=>exact r2 _
 | 4=>exact w2 _ _
 | 5=>exact r1 _
 | 6=>exact w1 _ _
 | 7=>exact u0 _ _
 | 8=>exact u0 _ _
 | 9=>exact u0 _ _
 | 10=>exact u0 _ _
 | 11=>exact u0 _ _
 | 12=>exact u0 _ _
 | 13=>exact u0 _ _
 | 14=>exact u0 _ _
 | 15=>exact u0 _ _
 | 16=>exact u0 _ _
 | 17=>show SQ aj (if c.Z then _ else _) (if c.Z then _ else _);split <;> exact u0 _ _
 | 18=>show SQ aj (if c.N then _ else _) (if c.N then _ else _);split <;> exact u0 _ _
 | 19=>show SQ aj (if c.C then _ else _) (if c.C then _ else _);split <;> exact u0 _ _
 | 20=>exact⟨U,U,(p _).s⟩
 | 21=>exact⟨by show ({ (C.pop m ⟨c,u,j⟩).c with PC:=C.popV m ⟨c,u,j⟩ }:Cpu)={ (C.pop m' ⟨c,t,j⟩).c with PC:=C.popV m' ⟨c,t,j⟩ };rw[q,f.c],U,f.s⟩
 | 22=>exact p _
 | 23=>exact⟨by show (C.pop m ⟨c,u,j⟩).c.set d (C.popV m ⟨c,u,j⟩)=(C.pop m' ⟨c,t,j⟩).c.set d (C.popV m' ⟨c,t,j⟩);rw[q,f.c],U,f.s⟩
 | 24=>exact u0 _ _
 | 25=>exact u0 _ _
 | 26=>exact i
 | 27=>exact u0 _ _
 | 28=>exact u0 _ _
 | 29=>show SQ aj (if c.Z then _ else _) (if c.Z then _ else _);split <;> exact u0 _ _
 | 30=>exact u0 _ _
 | 31=>exact r
 | k+32=>exact u0 _ _
theorem Sim.order(h:Sim m m' aj)(c:Cpu){s:σ}{t:τ}(a:aj s t):SQ aj (order m c s) (order m' c t):=by
 obtain⟨e1,q1⟩:=h.rdw a c.PC;obtain⟨e2,b⟩:=h.rdw q1 ((c.PC+2)%65536);have h1:C.word1 m c s=C.word1 m' c t:=e1;have h2:C.word2 m c s=C.word2 m' c t:=by unfold C.word2;rw[h1,e2]
 have h3:SQ aj (C.behind m c s) (C.behind m' c t):=by
  unfold C.behind;rw[h1];refine⟨U,U,?_⟩;dsimp only;split
  ·exact b
  ·exact q1
 unfold C.order;rw[h1,h2];exact h.act (x:={ C.behind m c s with n:=K.cyc (O.rk (C.word1 m' c t)) }) (y:={ C.behind m' c t with n:=K.cyc (O.rk (C.word1 m' c t)) }) ⟨h3.c,U,h3.s⟩ _ _ _ _ _
theorem Sim.step(h:Sim m m' aj)(c:Cpu){s:σ}{t:τ}(a:aj s t)(r:Bool):SQ aj (step m c s r) (step m' c t r):=by
 unfold C.step;split
 ·have:=h.leave (x:=⟨c,s,0⟩) (y:=⟨c,t,0⟩) ⟨U,U,a⟩ 2
  exact⟨this.c,U,this.s⟩
 ·split
  ·exact⟨U,U,a⟩
  ·exact h.order c a
end
end Go.Proofs.YthghjlinhokimaaGreatDoor.C
namespace Go.Proofs.YthghjlinhokimaaGreatDoor
open Go.ChangeShapes Go.WideShapes Go.ChangeAt Go.RowKit Go.Proofs.Tryz
structure Bst.like (p : List Wt) (s t : Bst) : Prop where
 M:s.M=t.M
 l:s.l=p++t.l
theorem ziM(p:List Wt):C.Sim bD bD (Bst.like p) where
 rd s t a h:=⟨by show (s.M.rdM a).1%256=(t.M.rdM a).1%256;rw[h.M],⟨by show (s.M.rdM a).2=(t.M.rdM a).2;rw[h.M],h.l⟩⟩
 wr s t a b h:=⟨by show s.M.wrM a (b%256)=t.M.wrM a (b%256);rw[h.M],h.l⟩
theorem zwH(p:List Wt):C.Sim bY bY (Bst.like p) where
 rd s t a h:=⟨by show (s.M.rdA a).1%256=(t.M.rdA a).1%256;rw[h.M],⟨by show (s.M.rdA a).2=(t.M.rdA a).2;rw[h.M],h.l⟩⟩
 wr s t a b h:=⟨by show s.M.wrA a (b%256)=t.M.wrA a (b%256);rw[h.M],by show s.l++s.M.shA a (b%256)=p++(t.l++t.M.shA a (b%256));rw[h.M,h.l,bp]⟩
structure Bst.like2 (p : List Wt) (s t : Bst) : Prop extends Bst.like p s t where
 n:s.n=t.n
theorem zr3(p:List Wt):C.Sim bD bD (Bst.like2 p) where
 rd s t a h:=⟨((ziM p).rd s t a h.tolike).1,⟨((ziM p).rd s t a h.tolike).2,h.n⟩⟩
 wr s t a b h:=⟨(ziM p).wr s t a b h.tolike,by show s.n+_=t.n+_;rw[h.n]⟩
theorem ziN{p:List Wt}{s t:Bst}(h:Bst.like p s t):Bst.like p s.stepMain t.stepMain:=by
 unfold Bst.stepMain;rw[h.M];split
 ·exact h
 ·have a:=(zr3 p).step t.M.main (s:=⟨t.M,0,s.l⟩) (t:=⟨t.M,0,t.l⟩) ⟨⟨U,h.l⟩,U⟩ (t.M.t.g || t.M.b.g)
  refine⟨?_,a.s.l⟩;dsimp only;rw[a.c,a.n,a.s.M,a.s.n]
theorem zj4{p:List Wt}{s t:Bst}(h:Bst.like p s t):Bst.like p s.stepAux t.stepAux:=by
 unfold Bst.stepAux;rw[h.M];split
 ·exact h
 ·have a:=(zwH p).step t.M.aux (s:=s) (t:=t) h t.M.rung
  refine⟨?_,a.s.l⟩;dsimp only;rw[a.c,a.n,a.s.M]
structure Cs.like (p : List Wt) (pl : List Lin) (ps : List UInt8) (k k' : Cs) : Prop where
 s:Bst.like p k.s k'.s
 co:k.co=k'.co
 ln:k.ln=pl++k'.ln
 sm:k.sm=ps++k'.sm
theorem zpl{p:List Wt}{pl:List Lin}{ps:List UInt8}{k k':Cs}(h:Cs.like p pl ps k k'):Cs.like p pl ps k.clock k'.clock:=by
 have a:=h.s.M;have hc:=h.co;have h1:Bst.like p ⟨k.s.M.pressed k.co,k.s.n,k.s.l⟩ ⟨k'.s.M.pressed k'.co,k'.s.n,k'.s.l⟩:=⟨by dsimp only;rw[a,hc],h.s.l⟩
 have h2:=zj4 (ziN h1);refine⟨⟨?_,h2.l⟩,?_,?_,?_⟩
 ·show Mach.goOn (Bst.stepAux _).M=Mach.goOn (Bst.stepAux _).M
  rw[h2.M]
 ·show k.s.M.coming k.co=k'.s.M.coming k'.co
  rw[a,hc]
 ·show k.ln++(k.s.M.pressed k.co).line=pl++(k'.ln++(k'.s.M.pressed k'.co).line)
  rw[h.ln,a,hc,bp]
 ·show k.sm++(k.s.M.pressed k.co).sample=ps++(k'.sm++(k'.s.M.pressed k'.co).sample)
  rw[h.sm,a,hc,bp]
theorem zfT{p:List Wt}{pl:List Lin}{ps:List UInt8}{k k':Cs}(h:Cs.like p pl ps k k'):∀ j:Nat,Cs.like p pl ps (k.clocks j) (k'.clocks j)
 | 0=>h
 | j+1=>zpl (zfT h j)
theorem zho(k:Cs)(a:Nat):∀ b:Nat,k.clocks (a+b)=(k.clocks a).clocks b
 | 0=>rfl
 | b+1=>by show (k.clocks (a+b)).clock=_;rw[zho k a b];rfl
/-! ### what is still to be pressed -/
def ni(l:List Inp):Prop:=l.Pairwise (λx y=>x.c<=y.c)
theorem zem:∀(l:List Inp) (M:Mach),ni l->M.coming l=l.filter (λx=>decide (M.clock<x.c))
 | [],M,_=>rfl
 | x::l,M,h=>by
  have a:=dp.1 h;unfold Mach.coming;split
  ·rename_i b
   rw[zem l M a.2,ja (by simp;omega)]
  ·rename_i b
   rw[mh (by simp;omega),ig.2 (λy d=>by have:=a.1 y d;simp;omega)]
theorem zcX(a:Cs)(l:List Inp)(d:a.co=l)(hp:ni l)(b:∀ x∈l,a.s.M.clock<=x.c):∀ j:Nat,(a.clocks j).s.M.clock=a.s.M.clock+j/\(a.clocks j).co=l.filter (λx=>decide (a.s.M.clock+j<=x.c))
 | 0=>⟨by simp[Cs.clocks],by
  show a.co=_;rw[d,ig.2 (λy e=>by have:=b y e;simp;omega)]⟩
 | j+1=>by
  obtain⟨e1,e2⟩:=zcX a l d hp b j;have e3:(a.clocks (j+1)).co=(a.clocks j).s.M.coming (a.clocks j).co:=rfl;refine⟨?_,?_⟩
  ·show (a.clocks j).now.s.M.clock+1=_
   rw[rA,e1];push_cast;omega
  ·rw[e3,e2,zem _ _ (jZ _ hp),List.filter_filter,e1]
   refine List.filter_congr (λx f=>?_);rw[<- ju];exact cC.2 (by push_cast;omega)
theorem zr4(M:Mach)(l:List Inp)(hp:ni l)(e:∀ x∈l,M.clock<=x.c)(a b:Nat):Cs.like (Cs.clocks ⟨⟨M,0,[]⟩,l,[],[]⟩ a).s.l (Cs.clocks ⟨⟨M,0,[]⟩,l,[],[]⟩ a).ln (Cs.clocks ⟨⟨M,0,[]⟩,l,[],[]⟩ a).sm (Cs.clocks ⟨⟨M,0,[]⟩,l,[],[]⟩ (a+b))
  (Cs.clocks ⟨⟨(Cs.clocks ⟨⟨M,0,[]⟩,l,[],[]⟩ a).s.M,0,[]⟩,l.filter (λx=>decide (M.clock+a<=x.c)),[],[]⟩ b):=by
 rw[zho];have d:=(zcX ⟨⟨M,0,[]⟩,l,[],[]⟩ l U hp e a).2;generalize Cs.clocks ⟨⟨M,0,[]⟩,l,[],[]⟩ a=k at d ⊢;exact zfT (p:=k.s.l) (pl:=k.ln) (ps:=k.sm) (k:=k) (k':=⟨⟨k.s.M,0,[]⟩,l.filter (λx=>decide (M.clock+a<=x.c)),[],[]⟩) ⟨⟨U,by simp⟩,d,by simp,by simp⟩ b
theorem nE{H:Type}{enc:TypeId × Value->H}{P:Program}{w:World}{base:Nat}{spare:Nat->Bool}{held:Bool}{n i o:Nat}{ty:TypeId}{cs:List Value}{xs:List (DataW H × List MemPlace)}
 (h:DataW.trod enc P w base spare held n ty ((cs.drop o).take (P.cellsOf ty))=xs[i]?) (hi:i<xs.length) (hc:P.cellsOf ty=1) (b:P.underlying ty=some .bool) {v:Value} (c:cs[o]?=some v):∃ a:Bool,v=.bool a:=by
 obtain⟨y,d⟩:=fld h hi hc c;obtain⟨a,e,_⟩:=DataW.trod_bool b d;simp only[cN,and_true] at e;exact⟨a,e⟩
theorem zeF{H:Type}{enc:TypeId × Value->H}{w:World}{base:Nat}{spare:Nat->Bool}{held:Bool}{m:Nat}{c0 c1 c2 c3 c4:Value}{x:DataW H × List MemPlace}(h:DataW.trod enc prog w base spare held m 33 [c0,c1,c2,c3,c4]=some x):∃ v:Vc,[c0,c1,c2,c3,c4]=nQ v/\v.ok:=by
 have c:Tryz.prog.cellsOf 22=1:=by kernel_rfl
 have hB:Tryz.prog.cellsOf 4=1:=by kernel_rfl
 have d:Tryz.prog.cellsOf 5=1:=by kernel_rfl
 obtain⟨xs,n,_,_,_,b,a⟩:=cG underlying33 h;have e:xs.length=5:=b;obtain⟨a0,rfl,w0⟩:=ki (ty:=22) (o:=0) (v:=c0) (a 0 _ U) (by omega) c underlying22 U;obtain⟨a1,rfl,w1⟩:=ki (ty:=22) (o:=1) (v:=c1) (a 1 _ U) (by omega) c underlying22 U;obtain⟨a2,rfl,w2⟩:=ki (ty:=5) (o:=2) (v:=c2) (a 2 _ U) (by omega) d underlying5 U;obtain⟨b3,rfl⟩:=nE (ty:=4) (o:=3) (v:=c3) (a 3 _ U) (by omega) hB underlying4 U;obtain⟨a4,rfl,w4⟩:=ki (ty:=22) (o:=4) (v:=c4) (a 4 _ U) (by omega) c underlying22 U;exact⟨⟨a0,a1,a2,b3,a4⟩,U,cE w0,cE w1,io w2,cE w4⟩
section
variable (main aux : C.Cpu) (arom ram own video : List UInt8) (p0 p1 : Pd) (t : TM) (s : Sd) (b : Bem) (fr tt : Int) (granted held : Bool) (m0 m1 : Int) (rung : Bool) (clock mready aready : Int) (l : List Wt)
end
theorem znJ{σ:Type}{m:C.Mem σ}(c:C.Cpu)(s:σ)(r:Bool)(h1:c.Waits=false)(h2:c.May=false):C.step m c s r=C.order m c s:=by
 unfold C.step;rw[h2,lE,G (by simp),h1,G (by simp)]
theorem xt{s:List Value}(h:s.length=2):∃ c0 c1,s=[c0,c1]:=by
 match s,h with
 | [c0,c1],_=>exact⟨c0,c1,U⟩
theorem qT{s:List Value}(h:s.length=4):∃ c0 c1 c2 c3,s=[c0,c1,c2,c3]:=by
 match s,h with
 | [c0,c1,c2,c3],_=>exact⟨c0,c1,c2,c3,U⟩
theorem xu{s:List Value}(h:s.length=6):∃ c0 c1 c2 c3 c4 c5,s=[c0,c1,c2,c3,c4,c5]:=by
 match s,h with
 | [c0,c1,c2,c3,c4,c5],_=>exact⟨c0,c1,c2,c3,c4,c5,U⟩
theorem rY{s:List Value}(h:s.length=15):∃ c0 c1 c2 c3 c4 c5 f g i c9 a b c d e,s=[c0,c1,c2,c3,c4,c5,f,g,i,c9,a,b,c,d,e]:=by
 match s,h with
 | [c0,c1,c2,c3,c4,c5,f,g,i,c9,a,b,c,d,e],_=>exact⟨c0,c1,c2,c3,c4,c5,f,g,i,c9,a,b,c,d,e,U⟩
theorem rZ{s:List Value}(h:s.length=16):∃ c0 c1 c2 c3 c4 c5 g i j c9 a b c d e f,s=[c0,c1,c2,c3,c4,c5,g,i,j,c9,a,b,c,d,e,f]:=by
 match s,h with
 | [c0,c1,c2,c3,c4,c5,g,i,j,c9,a,b,c,d,e,f],_=>exact⟨c0,c1,c2,c3,c4,c5,g,i,j,c9,a,b,c,d,e,f,U⟩
section
variable {H : Type} {enc : TypeId × Value -> H} {w : World} {base : Nat} {spare : Nat -> Bool} {held : Bool} {n : Nat} {x : DataW H × List MemPlace} {s : List Value}
theorem zr5(h:DataW.trod enc prog w base spare held n 25 s=some x)(B:s.length=15):∃ c:C.Cpu,s=bG c/\c.ok:=by
 have a:Tryz.prog.cellsOf 22=1:=by kernel_rfl
 have hB:Tryz.prog.cellsOf 4=1:=by kernel_rfl
 have V:Tryz.prog.cellsOf 5=1:=by kernel_rfl
 have W:Tryz.prog.cellsOf 3=1:=by kernel_rfl
 have e:Tryz.prog.cellsOf 23=8:=by kernel_rfl
 obtain⟨c0,c1,c2,c3,c4,c5,r,t,u,c9,f,g,i,j,l,rfl⟩:=rY B;obtain⟨xs,m,_,_,_,p,b⟩:=cG underlying25 h;have E:xs.length=8:=p;have g0:DataW.trod enc prog w base spare held m 23 (([c0,c1,c2,c3,c4,c5,r,t,u,c9,f,g,i,j,l].drop 0).take (Tryz.prog.cellsOf 23))=xs[0]?:=b 0 _ U;rw[au (by omega)] at g0;obtain⟨ys,k,_,_,_,F,d⟩:=gK underlying23 g0;obtain⟨a0,rfl,w0⟩:=ki (o:=0*Tryz.prog.cellsOf 22) (v:=c0) (d 0 (by omega)) (by omega) a underlying22 (by rw[a,e];rfl);obtain⟨a1,rfl,w1⟩:=ki (o:=1*Tryz.prog.cellsOf 22) (v:=c1) (d 1 (by omega)) (by omega) a underlying22 (by rw[a,e];rfl);obtain⟨a2,rfl,w2⟩:=ki (o:=2*Tryz.prog.cellsOf 22) (v:=c2) (d 2 (by omega)) (by omega) a underlying22 (by rw[a,e];rfl);obtain⟨a3,rfl,H⟩:=ki (o:=3*Tryz.prog.cellsOf 22) (v:=c3) (d 3 (by omega)) (by omega) a underlying22 (by rw[a,e];rfl);obtain⟨a4,rfl,w4⟩:=ki (o:=4*Tryz.prog.cellsOf 22) (v:=c4) (d 4 (by omega)) (by omega) a underlying22 (by rw[a,e];rfl)
 obtain⟨a5,rfl,I⟩:=ki (o:=5*Tryz.prog.cellsOf 22) (v:=c5) (d 5 (by omega)) (by omega) a underlying22 (by rw[a,e];rfl);obtain⟨L,rfl,M⟩:=ki (o:=6*Tryz.prog.cellsOf 22) (v:=r) (d 6 (by omega)) (by omega) a underlying22 (by rw[a,e];rfl);obtain⟨N,rfl,w7⟩:=ki (o:=7*Tryz.prog.cellsOf 22) (v:=t) (d 7 (by omega)) (by omega) a underlying22 (by rw[a,e];rfl);obtain⟨P,rfl,q⟩:=ki (ty:=22) (o:=8) (v:=u) (b 1 _ U) (by omega) a underlying22 U;obtain⟨b0,rfl⟩:=nE (ty:=4) (o:=9) (v:=c9) (b 2 _ U) (by omega) hB underlying4 U;obtain⟨b1,rfl⟩:=nE (ty:=4) (o:=10) (v:=f) (b 3 _ U) (by omega) hB underlying4 U;obtain⟨b2,rfl⟩:=nE (ty:=4) (o:=11) (v:=g) (b 4 _ U) (by omega) hB underlying4 U;obtain⟨b3,rfl⟩:=nE (ty:=4) (o:=12) (v:=i) (b 5 _ U) (by omega) hB underlying4 U;obtain⟨R,rfl⟩:=nE (ty:=4) (o:=13) (v:=j) (b 6 _ U) (by omega) hB underlying4 U;obtain⟨T,rfl⟩:=nE (ty:=4) (o:=14) (v:=l) (b 7 _ U) (by omega) hB underlying4 U
 refine⟨⟨[a0,a1,a2,a3,a4,a5,L,N],P,b0,b1,b2,b3,R,T⟩,U,U,λz y=>?_,(cE q).1,(cE q).2⟩;simp only[aV,bJ,dG] at y;rcases y with rfl|rfl|rfl|rfl|rfl|rfl|rfl|rfl
 ·exact cE w0
 ·exact cE w1
 ·exact cE w2
 ·exact cE H
 ·exact cE w4
 ·exact cE I
 ·exact cE M
 ·exact cE w7
theorem zr6(h:DataW.trod enc prog w base spare held n 28 s=some x)(g:s.length=3):∃ p:Pd,s=[.int .u8 p.d,.bool p.l,.int .u8 p.s]/\p.ok:=by
 have i:Tryz.prog.cellsOf 22=1:=by kernel_rfl
 have hB:Tryz.prog.cellsOf 4=1:=by kernel_rfl
 have f:Tryz.prog.cellsOf 5=1:=by kernel_rfl
 have j:Tryz.prog.cellsOf 3=1:=by kernel_rfl
 obtain⟨c0,c1,c2,rfl⟩:=qS g;obtain⟨xs,m,_,_,_,b,a⟩:=cG underlying28 h;have k:xs.length=3:=b;obtain⟨a0,rfl,c⟩:=ki (ty:=5) (o:=0) (v:=c0) (a 0 _ U) (by omega) f underlying5 U;obtain⟨b1,rfl⟩:=nE (ty:=4) (o:=1) (v:=c1) (a 1 _ U) (by omega) hB underlying4 U;obtain⟨a2,rfl,e⟩:=ki (ty:=5) (o:=2) (v:=c2) (a 2 _ U) (by omega) f underlying5 U;exact⟨⟨a0,b1,a2⟩,U,io c,io e⟩
theorem zup(h:DataW.trod enc prog w base spare held n 29 s=some x)(e:s.length=6):∃ p q:Pd,s=[.int .u8 p.d,.bool p.l,.int .u8 p.s,.int .u8 q.d,.bool q.l,.int .u8 q.s]/\p.ok/\q.ok:=by
 have f:Tryz.prog.cellsOf 28=3:=by kernel_rfl
 obtain⟨c0,c1,c2,c3,c4,c5,rfl⟩:=xu e;obtain⟨ys,m,_,_,_,g,a⟩:=gK underlying29 h;have b:=a 0 (by omega);have c:=a 1 (by omega);rw[f,au (by omega)] at b c;obtain⟨p,ep,hp⟩:=zr6 (s:=[c0,c1,c2]) b U;obtain⟨q,eq,i⟩:=zr6 (s:=[c3,c4,c5]) c U;simp only[cN,and_true] at ep eq;obtain⟨rfl,rfl,rfl⟩:=ep;obtain⟨rfl,rfl,rfl⟩:=eq;exact⟨p,q,U,hp,i⟩
theorem zr7(h:DataW.trod enc prog w base spare held n 31 s=some x)(i:s.length=4):∃ t:TM,s=[.int .u16 t.r,.int .u16 t.c,.bool t.on,.bool t.g]/\fu t.r/\fu t.c:=by
 have f:Tryz.prog.cellsOf 22=1:=by kernel_rfl
 have hB:Tryz.prog.cellsOf 4=1:=by kernel_rfl
 have j:Tryz.prog.cellsOf 5=1:=by kernel_rfl
 have k:Tryz.prog.cellsOf 3=1:=by kernel_rfl
 obtain⟨c0,c1,c2,c3,rfl⟩:=qT i;obtain⟨xs,m,_,_,_,b,a⟩:=cG underlying31 h;have l:xs.length=4:=b;obtain⟨a0,rfl,d⟩:=ki (ty:=22) (o:=0) (v:=c0) (a 0 _ U) (by omega) f underlying22 U;obtain⟨a1,rfl,e⟩:=ki (ty:=22) (o:=1) (v:=c1) (a 1 _ U) (by omega) f underlying22 U;obtain⟨b2,rfl⟩:=nE (ty:=4) (o:=2) (v:=c2) (a 2 _ U) (by omega) hB underlying4 U;obtain⟨b3,rfl⟩:=nE (ty:=4) (o:=3) (v:=c3) (a 3 _ U) (by omega) hB underlying4 U;exact⟨⟨a0,a1,b2,b3⟩,U,cE d,cE e⟩
theorem zuq(h:DataW.trod enc prog w base spare held n 38 s=some x)(i:s.length=4):∃ b:Bem,s=[.int .i64 b.l,.int .i64 b.a,.bool b.g,.int .i64 b.f]:=by
 have q:Tryz.prog.cellsOf 22=1:=by kernel_rfl
 have hB:Tryz.prog.cellsOf 4=1:=by kernel_rfl
 have r:Tryz.prog.cellsOf 5=1:=by kernel_rfl
 have e:Tryz.prog.cellsOf 3=1:=by kernel_rfl
 obtain⟨c0,c1,c2,c3,rfl⟩:=qT i;obtain⟨xs,m,_,_,_,d,c⟩:=cG underlying38 h;have t:xs.length=4:=d;obtain⟨a0,rfl,j⟩:=ki (ty:=3) (o:=0) (v:=c0) (c 0 _ U) (by omega) e underlying3 U;obtain⟨a1,rfl,k⟩:=ki (ty:=3) (o:=1) (v:=c1) (c 1 _ U) (by omega) e underlying3 U;obtain⟨b2,rfl⟩:=nE (ty:=4) (o:=2) (v:=c2) (c 2 _ U) (by omega) hB underlying4 U;obtain⟨a3,rfl,p⟩:=ki (ty:=3) (o:=3) (v:=c3) (c 3 _ U) (by omega) e underlying3 U;exact⟨⟨a0,a1,b2,a3⟩,U⟩
theorem zur(h:DataW.trod enc prog w base spare held n 39 s=some x)(e:s.length=2):∃ a b:Int,s=[.int .u8 a,.int .u8 b]/\bd8 a/\bd8 b:=by
 have g:Tryz.prog.cellsOf 22=1:=by kernel_rfl
 have hB:Tryz.prog.cellsOf 4=1:=by kernel_rfl
 have d:Tryz.prog.cellsOf 5=1:=by kernel_rfl
 have i:Tryz.prog.cellsOf 3=1:=by kernel_rfl
 obtain⟨c0,c1,rfl⟩:=xt e;obtain⟨ys,k,_,_,_,f,c⟩:=gK underlying39 h;obtain⟨a0,rfl,w0⟩:=ki (o:=0*Tryz.prog.cellsOf 5) (v:=c0) (c 0 (by omega)) (by omega) d underlying5 (by rw[d];rfl);obtain⟨a1,rfl,w1⟩:=ki (o:=1*Tryz.prog.cellsOf 5) (v:=c1) (c 1 (by omega)) (by omega) d underlying5 (by rw[d];rfl);exact⟨a0,a1,U,io w0,io w1⟩
theorem zr8(h:DataW.trod enc prog w base spare held n 36 s=some x)(F:s.length=16):∃ d:Sd,s=dA d/\d.ok:=by
 have X:Tryz.prog.cellsOf 22=1:=by kernel_rfl
 have hB:Tryz.prog.cellsOf 4=1:=by kernel_rfl
 have Y:Tryz.prog.cellsOf 5=1:=by kernel_rfl
 have H:Tryz.prog.cellsOf 3=1:=by kernel_rfl
 have I:Tryz.prog.cellsOf 33=5:=by kernel_rfl
 have L:Tryz.prog.cellsOf 34=15:=by kernel_rfl
 obtain⟨c0,c1,c2,c3,c4,c5,q,r,t,c9,b,c,e,f,g,i,rfl⟩:=rZ F;obtain⟨xs,k,_,_,_,j,l⟩:=cG underlying36 h;have M:xs.length=2:=j;have g0:DataW.trod enc prog w base spare held k 34 (([c0,c1,c2,c3,c4,c5,q,r,t,c9,b,c,e,f,g,i].drop 0).take (Tryz.prog.cellsOf 34))=xs[0]?:=l 0 _ U;rw[au (by omega),L] at g0;obtain⟨ys,m,_,_,_,N,a⟩:=gK zdy g0;have u:=a 0 (by omega);have y:=a 1 (by omega);have z:=a 2 (by omega);rw[I,au (by omega)] at u y z;obtain⟨P,B,R⟩:=zeF (c0:=c0) (c1:=c1) (c2:=c2) (c3:=c3) (c4:=c4) u;obtain⟨T,eb,hb⟩:=zeF (c0:=c5) (c1:=q) (c2:=r) (c3:=t) (c4:=c9) y;obtain⟨V,E,hc⟩:=zeF (c0:=b) (c1:=c) (c2:=e) (c3:=f) (c4:=g) z;obtain⟨p,rfl,W⟩:=ki (ty:=3) (o:=15) (v:=i) (l 1 _ U) (by omega) H underlying3 U;simp only[cN,and_true] at B eb E;obtain⟨rfl,rfl,rfl,rfl,rfl⟩:=B;obtain⟨rfl,rfl,rfl,rfl,rfl⟩:=eb;obtain⟨rfl,rfl,rfl,rfl,rfl⟩:=E;exact⟨⟨P,T,V,p⟩,U,⟨R,hb,hc⟩⟩
end
theorem oD{H:Type}{enc:TypeId × Value->H}{P:Program}{w:World}{base:Nat}{spare:Nat->Bool}{held:Bool}{n i o k:Nat}{ty:TypeId}{cs:List Value}{xs:List (DataW H × List MemPlace)}
 (h:DataW.trod enc P w base spare held n ty ((cs.drop o).take (P.cellsOf ty))=xs[i]?) (hi:i<xs.length:=by omega) (hc:P.cellsOf ty=k:=by kernel_rfl):∃ y,DataW.trod enc P w base spare held n ty ((cs.drop o).take k)=some y:=by
 rw[hc,au hi] at h;exact⟨_,h⟩
theorem mj{l R:List Value}{n k m:Nat}(a:n+k=m)(h:l.drop m=R):l.drop n=(l.drop n).take k++R:=by
 subst a;rw[<- h,<- jW];exact(jC k _).symm
theorem zr9{l:List Value}{n k:Nat}(h:l.length<=n+k):l.drop n=(l.drop n).take k:=(cD (by rw[dh];omega)).symm
theorem nY{cs:List Value}(o:Nat)(h:o<cs.length:=by omega):∃ v,cs[o]?=some v/\(cs.drop o).take 1=[v]:=⟨cs[o],au h,by rw[kg,jz,au h];rfl⟩
theorem zj5{H:Type}{enc:TypeId × Value->H}{W:World}{base:Nat}{v:Value}{d:DataW H}{p:List MemPlace}(hv:Value.okWide prog W .any base 41 v)(h:DataW.Trod enc prog W 0 (λ_=>true) true 41 v d p):∃(M:Mach) (S:Sl),v=.agg (D M S).toArray/\M.ok/\bM W S M /\ ∀ j,j<5->(M.byt j).length<=maxLen:=by
 have hU:Tryz.prog.cellsOf 22=1:=by kernel_rfl
 have hB:Tryz.prog.cellsOf 4=1:=by kernel_rfl
 have hE:Tryz.prog.cellsOf 5=1:=by kernel_rfl
 have e:Tryz.prog.cellsOf 3=1:=by kernel_rfl
 have hM:Tryz.prog.cellsOf 41=75:=by kernel_rfl
 obtain⟨cs,rfl,f⟩:=okWide_struct underlying41 hv;obtain⟨l⟩:=cs;have b:l.length=75:=f.trans hM;obtain⟨fuel,g⟩:=h;have hf:DataW.trod enc prog W 0 (λ_=>true) true fuel 41 l=some (d,p):=g;obtain⟨xs,m,_,_,_,c,a⟩:=cG underlying41 hf;have hx:xs.length=20:=c;obtain⟨y0,g0⟩:=oD (ty:=25) (o:=0) (k:=15) (a 0 _ U);obtain⟨m0,e0,k0⟩:=zr5 g0 (by simp[b]);obtain⟨y1,g1⟩:=oD (ty:=25) (o:=15) (k:=15) (a 1 _ U);obtain⟨m1,e1,k1⟩:=zr5 g1 (by simp[b]);obtain⟨u2,r2,e2⟩:=nY (cs:=l) 30;obtain⟨y2,g2⟩:=oD (ty:=26) (o:=30) (k:=1) (a 2 _ U);rw[e2] at g2;obtain⟨m2,k2,q2⟩:=rB g2;obtain⟨u3,r3,e3⟩:=nY (cs:=l) 31;obtain⟨y3,g3⟩:=oD (ty:=26) (o:=31) (k:=1) (a 3 _ U);rw[e3] at g3;obtain⟨m3,k3,q3⟩:=rB g3;obtain⟨u4,r4,e4⟩:=nY (cs:=l) 32;obtain⟨y4,g4⟩:=oD (ty:=26) (o:=32) (k:=1) (a 4 _ U);rw[e4] at g4;obtain⟨m4,k4,q4⟩:=rB g4;obtain⟨u5,r5,e5⟩:=nY (cs:=l) 33;obtain⟨y5,g5⟩:=oD (ty:=26) (o:=33) (k:=1) (a 5 _ U);rw[e5] at g5;obtain⟨m5,k5,q5⟩:=rB g5
 obtain⟨u6,r6,e6⟩:=nY (cs:=l) 34;obtain⟨y6,g6⟩:=oD (ty:=26) (o:=34) (k:=1) (a 6 _ U);rw[e6] at g6;obtain⟨m6,k6,q6⟩:=rB g6;obtain⟨y7,g7⟩:=oD (ty:=29) (o:=35) (k:=6) (a 7 _ U);obtain⟨m7,n7,e7,k7,q7⟩:=zup g7 (by simp[b]);obtain⟨y8,g8⟩:=oD (ty:=31) (o:=41) (k:=4) (a 8 _ U);obtain⟨m8,e8,k8,q8⟩:=zr7 g8 (by simp[b]);obtain⟨y9,g9⟩:=oD (ty:=36) (o:=45) (k:=16) (a 9 _ U);obtain⟨m9,e9,k9⟩:=zr8 g9 (by simp[b]);obtain⟨y10,i⟩:=oD (ty:=38) (o:=61) (k:=4) (a 10 _ U);obtain⟨q,r⟩:=zuq i (by simp[b]);obtain⟨u11,s,t⟩:=nY (cs:=l) 65;obtain⟨u,rfl,w⟩:=ki (ty:=22) (o:=65) (a 11 _ U) (by omega) hU underlying22 s;obtain⟨u12,x,y⟩:=nY (cs:=l) 66;obtain⟨z,rfl,B⟩:=ki (ty:=22) (o:=66) (a 12 _ U) (by omega) hU underlying22 x;obtain⟨u13,E,F⟩:=nY (cs:=l) 67;obtain⟨I,rfl⟩:=nE (ty:=4) (o:=67) (a 13 _ U) (by omega) hB underlying4 E;obtain⟨u14,L,N⟩:=nY (cs:=l) 68;obtain⟨P,rfl⟩:=nE (ty:=4) (o:=68) (a 14 _ U) (by omega) hB underlying4 L
 obtain⟨y15,g15⟩:=oD (ty:=39) (o:=69) (k:=2) (a 15 _ U);obtain⟨m15,R,T,V,X⟩:=zur g15 (by simp[b]);obtain⟨u16,Y,Z⟩:=nY (cs:=l) 71;obtain⟨m16,rfl⟩:=nE (ty:=4) (o:=71) (a 16 _ U) (by omega) hB underlying4 Y;obtain⟨u17,r17,e17⟩:=nY (cs:=l) 72;obtain⟨m17,rfl,w17⟩:=ki (ty:=3) (o:=72) (a 17 _ U) (by omega) e underlying3 r17;obtain⟨u18,r18,e18⟩:=nY (cs:=l) 73;obtain⟨m18,rfl,w18⟩:=ki (ty:=3) (o:=73) (a 18 _ U) (by omega) e underlying3 r18;obtain⟨u19,r19,e19⟩:=nY (cs:=l) 74;obtain⟨m19,rfl,w19⟩:=ki (ty:=3) (o:=74) (a 19 _ U) (by omega) e underlying3 r19;have hL:l=(l.drop 0).take 15++((l.drop 15).take 15++((l.drop 30).take 1++((l.drop 31).take 1++((l.drop 32).take 1++((l.drop 33).take 1++((l.drop 34).take 1++((l.drop 35).take 6++((l.drop 41).take 4++((l.drop 45).take 16++((l.drop 61).take 4++((l.drop 65).take 1++((l.drop 66).take 1++((l.drop 67).take 1++((l.drop 68).take 1++((l.drop 69).take 2++((l.drop 71).take 1++((l.drop 72).take 1++((l.drop 73).take 1++((l.drop 74).take 1))))))))))))))))))) :=
  List.drop_zero.symm.trans (mj (n:=0) (m:=15) U (mj (n:=15) (m:=30) U (mj (n:=30) (m:=31) U (mj (n:=31) (m:=32) U (mj (n:=32) (m:=33) U (mj (n:=33) (m:=34) U (mj (n:=34) (m:=35) U (mj (n:=35) (m:=41) U (mj (n:=41) (m:=45) U (mj (n:=45) (m:=61) U (mj (n:=61) (m:=65) U (mj (n:=65) (m:=66) U (mj (n:=66) (m:=67) U (mj (n:=67) (m:=68) U (mj (n:=68) (m:=69) U (mj (n:=69) (m:=71) U (mj (n:=71) (m:=72) U (mj (n:=72) (m:=73) U (mj (n:=73) (m:=74) U (zr9 (by omega)))))))))))))))))))))
 rw[e0,e1,e2,e3,e4,e5,e6,e7,e8,e9,r,t,y,F,N,T,Z,e17,e18,e19] at hL;refine⟨⟨m0,m1,m2,m3,m4,m5,m6,m7,n7,m8,m9,q,u,z,I,P,m15,R,m16,m17,m18,m19⟩,⟨u2,u3,u4,u5,u6⟩,by rw[hL];rfl,⟨k0,k1,k7,q7,k8,q8,k9,cE w,cE B,V,X⟩,λj hj=>?_,λj hj=>?_⟩
 ·rcases five hj with rfl|rfl|rfl|rfl|rfl
  ·exact k2
  ·exact k3
  ·exact k4
  ·exact k5
  ·exact k6
 ·rcases five hj with rfl|rfl|rfl|rfl|rfl
  ·exact q2
  ·exact q3
  ·exact q4
  ·exact q5
  ·exact q6
structure LBx (w : World) (b : Nat) (M : Mach) (S : Sl) (Y : World) : Prop where
 low:Below w.heap.size w Y
 ge:w.heap.size<=b
 bx:Bx Y b (D M S)
 sl:bM Y S M
theorem LBx.mk0{w w2:World}{M:Mach}{S:Sl}(hb:Below w.heap.size w w2)(d:bM w2 S M):LBx w w2.heap.size M S ((w2.alloc (.cells (D aE aM).toArray 41)).setCells w2.heap.size 0 (D M S)):=by
 have a:=(Bx.new w2 (D aE aM) 41 (b:=w2.heap.size) U).puts 0 (D M S) (by rw[cy,cy];omega);rw[jJ _ _ (by rw[cy,cy])] at a;have c:Below w2.heap.size w2 ((w2.alloc (.cells (D aE aM).toArray 41)).setCells w2.heap.size 0 (D M S)):=Bl.puts (stA (J w2) _) (ak _) _;exact⟨bn hb c,hb.size,a,d.kept c⟩
theorem zma(B:Nat)(w:World):bE B w (.slice none 0 0) []:=Or.inl ⟨U,_,_,U⟩
theorem zvg(w:World):sliceAt w (.slice none 0 0) []:=Or.inl ⟨_,_,U,U⟩
def comes(c:Int):List Inp->List Inp
 | []=>[]
 | x::l=>if x.c<c then comes c l else x::l
theorem zc4(c:Int):∀ l:List Inp,ni l->comes c l=l.filter (λx=>decide (c<=x.c))
 | [],_=>rfl
 | x::l,h=>by
  have b:=dp.1 h;unfold comes;split
  ·rename_i d
   rw[ja (by simp;omega)];exact zc4 c l b.2
  ·rename_i d
   rw[ig.2 (λy a=>by
    rcases aV.1 a with rfl|a
    ·simp;omega
    ·have:=b.1 y a;simp;omega)]
theorem znU{c:Int}{x:Inp}{l:List Inp}(h:x.c<c):comes c (x::l)=comes c l:=Q h
theorem zuM{c:Int}{x:Inp}{l:List Inp}(h:¬ x.c<c):x::l=comes c (x::l):=(G h).symm
theorem bE.tail1{B:Nat}{w:World}{g o k:Nat}{x:Inp}{t:List Inp}(h:bE B w (.slice (some ⟨g,o,none⟩) (x::t).length k) (x::t)):bE B w (.slice (some ⟨g,o+3,none⟩) t.length (k-1)) t:=by
 rcases h with⟨e,_⟩|⟨g',o',k',e1,e2,e3,e4,e5⟩
 ·cases e
 ·cases e1
  refine Or.inr ⟨g,o+3,k-1,U,by simp at e2;omega,e3,e4,λj y a=>?_⟩;have:=e5 (j+1) y a;rw[show o+3*(j+1)=o+3+3*j by omega] at this;exact this
def pf:Value->Nat
 | .slice _ n _=>n
 | _=>0
theorem Wc.coming(l:List Inp)(v:Value)(B:Nat)(c:Int)(w:World)(h:bE B w v l):Calls prog 96 #[v,.int .i64 c] w λe w'=>(∃ v',e=.returned v'/\bE B w v' (comes c l))/\w'=w:=by
 have H:=hid h;clear h;go_enter func96,ntmps96;go_wp2;go_loopw [0] (λs wr=>∃ d:List Inp,bE B w s d/\comes c d=comes c l/\wr=w) (λs _=>pf s)
 case atStart=>exact⟨l,H.out,U,U⟩
 case round =>
  obtain⟨d,b,n,rfl⟩:=hrel;have f:=hid n;cases d with
  | nil =>
   obtain⟨a,k,p⟩:=b.len;cases p;have i:=hid b;clear b n;go_wp2;go_ret;exact⟨⟨_,U,by rw[<- f.out];exact i.out⟩,U⟩
  | cons x t =>
   obtain⟨g,o,k,p,gz,r,x1,x2⟩:=b.at' (j:=0) (x:=x) U;cases p;have E:t.length+1<=k:=by
    rcases b with⟨e,_⟩|⟨g',o',k',e1,e2,_⟩
    ·cases e
    ·cases e1;exact e2
   have i:=hid b;have u:1<=k:=by omega
   have F:wr.cell? ⟨g,o,none⟩=some (.int .i64 x.c):=by rw[<- r];simp
   clear b n x1 x2 r;by_cases q:x.c<c
   ·have m:=hid q
    by_cases y:k=1
    ·go_wp2
     have z:t=[]:=en (by omega);subst z;exact⟨⟨[],Or.inl ⟨U,_,_,U⟩,by rw[<- f.out,znU m.out],trivial⟩,by simp[pf]⟩
    ·go_wp2
     exact⟨⟨t,i.out.tail1,by rw[<- f.out,znU m.out],trivial⟩,by simp[pf]⟩
   ·have m:=hid q
    go_wp2;go_ret;exact⟨⟨_,U,by rw[<- f.out,<- zuM (Int.not_lt.2 m.out)];exact i.out⟩,U⟩
def dF(rom:List UInt8)(pc:Nat):List UInt8 :=
 if rom.length-pc<2 then [63] else (Lib.cut (S.list ((rom.drop pc).take (min ((rom.length-pc)/2*2) 4))) [10]).1
theorem Wc.cut(l:List UInt8)(f:l.length<=10000)(w:World)(a:AF w):Calls prog 53 #[.string (aT l),.string ⟨#[10]⟩] w λe w'=>e=.returned (.tuple #[.string (aT (Lib.cut l [10]).1),.string (aT (Lib.cut l [10]).2.1),.bool (Lib.cut l [10]).2.2])/\Below w.heap.size w w':=by
 obtain⟨m,b⟩:=a.len;refine(Tryz.strings_Cut (aT l) (aT [10]) m w (by rw[pL];omega) b).mono λe w' ⟨c,n,d⟩=>⟨c,?_⟩
 subst d;exact oH (J w) n
theorem zhI:∀(f:Nat) (l:List UInt8),(S.listN f l).length<=61*f
 | 0,l=>by simp[S.listN]
 | f+1,l=>by
  by_cases h:l=[]
  ·subst h;simp[S.listN]
  ·rw[zc6 f l h]
   have:=zgX l;have:=zhI f (l.drop (S.firstLine l).2);simp;omega
theorem Wc.few(a:Option Addr)(n b:Nat)(pc:Nat)(hp:pc<=65535)(hc:n<=b)(f:n<=9223372036854775807)(c:n-pc<2)(w:World):Calls prog 99 #[.slice a n b,.int .u16 pc] w λe w'=>e=.returned (.string (aT [63]))/\w'=w:=by
 obtain⟨k,d⟩:∃ k,k=min pc n:=⟨_,U⟩
 have g:min (pc:Int) (n:Int)=(k:Int):=by omega
 have h1:k<=n:=by omega
 have h2:k<=b:=by omega
 have h3:(((n-k:Nat):Int)<2):=by omega
 have h:IntKind.i64.wrap (pc:Int)=pc:=by rw[aI];omega
 clear d c;go_enter func99,ntmps99;go_wp2;all_goals go_ret
 all_goals exact⟨U,U⟩
theorem znV(c:C.Cpu)(r:Bool)(w:World):Calls prog 98 #[.agg (bG c).toArray,.bool r] w λe w'=>e=.returned (.bool (!c.Waits && !(c.May && r)))/\Below w.heap.size w w':=by
 have hB:=Bx.new w (bG c) 25 (b:=w.heap.size) U;have f:=hB.at 14 _ U;have g:=hB.at 13 _ U;have h:Below w.heap.size w (w.alloc (.cells (bG c).toArray 25)):=stA (J w) _;obtain⟨i,a⟩:∃ b,b=c.Waits:=⟨_,U⟩
 obtain⟨j,d⟩:∃ b,b=c.May:=⟨_,U⟩
 rw[<- a] at f ⊢;rw[<- d] at g ⊢;clear hB a d;cases i <;> cases j
 all_goals
  go_enter func98,ntmps98;go_wp2
 all_goals go_ret
 all_goals exact⟨U,h⟩
def Mach.next(M:Mach):Int:=max (if M.held then M.mready else min M.mready M.aready) (M.clock+1)
theorem Wc.next(M:Mach)(S:Sl)(hc:0<=M.clock/\M.clock<=200000)(w:World):Calls prog 97 #[.agg (D M S).toArray] w λe w'=>e=.returned (.int .i64 M.next)/\Below w.heap.size w w':=by
 have hB:=Bx.new w (D M S) 41 (b:=w.heap.size) U;have a:=hB.at 68 _ U;have d:=hB.at 72 _ U;have f:=hB.at 73 _ U;have g:=hB.at 74 _ U;have i:Below w.heap.size w (w.alloc (.cells (D M S).toArray 41)):=stA (J w) _;obtain⟨h,c⟩:∃ b,b=M.held:=⟨_,U⟩
 unfold Mach.next;rw[<- c] at a ⊢;obtain⟨c0,c1⟩:=hc;clear hB c;cases h;all_goals
  go_enter func97,ntmps97;go_wp2
 all_goals go_ret
 all_goals exact⟨U,i⟩
structure Dd where
 c:Int
 a:Bool
 pc:Int
 t:List UInt8
def fy(x:Dd):List Value:=[.int .i64 x.c,.bool x.a,.int .u16 x.pc,.string (aT x.t)]
def jA(l:List Dd):List Value:=(l.map fy).flatten
section
variable {w1 Y Y' : World} {X : Mach} {S' : Sl} {L : List Value}
end
theorem zcC(M:Mach)(S:Sl)(n:Int)(w:World):Calls prog 15 #[.agg (D M S).toArray,.int .i64 n] w λe w'=>e=.returned (.bool (decide (19000<M.b.f)))/\Below w.heap.size w w':=by
 have hB:=Bx.new w (D M S) 41 (b:=w.heap.size) U;have a:=hB.at 64 (.int .i64 M.b.f) U;clear hB;go_enter func15,ntmps15;go_wp2;go_ret;exact⟨U,stA (J w) _⟩
section
variable {w w1 : World} {v : Value} {n z B : Nat} {xs : List Value} {t : TypeId}
theorem pp{d:TypeId}(e:Tryz.prog.underlying d=some (.slice t))(i:TypeInfo)(hi:Tryz.prog.info? t=some i)(ty:TypeId)(b:w.ownsRow B t z v n xs)(a:Option Addr)(c:Nat):(Builtin.append_ #[d,d] ty #[v,.slice a 0 c]).run prog w=.ok v w:=by
 have h:=bT (P:=prog) e;have k:(Builtin.firstCells i.size 0 (.slice a 0 c)).run prog w=.ok #[] w:=by
  cases a with
  | none=>exact ic w i.size 0 0 c
  | some a=>exact ie w i.size 0 a 0 c [] (by simp) (λj v l=>by simp at l)
 rcases b.2 with⟨rfl,rfl⟩|⟨g,m,o,rfl,_,_,f,_⟩
 ·simp[Builtin.append_,h,sizeOf,typeInfo,hi,Builtin.lenOf,k]
 ·simp[Builtin.append_,h,sizeOf,typeInfo,hi,Builtin.lenOf,k,f,storeCells]
end
theorem zfg{M:Mach}{l:List Inp}{n:Int}(h1:M.chk=0)(h2:chkIn l M.clock=0)(h:0<=n/\n<=20000/\M.clock+n<=200000):bF M l n=0:=by
 unfold bF;rw[Q h1,Q h2,Q h]
/-! ### inputs that are right -/
theorem zfU:∀(l:List Inp) (a:Int),chkL l a=0->ni l /\ ∀ x∈l,x.c<=400000
 | [],a,_=>⟨List.Pairwise.nil,λx b=>by cases b⟩
 | y::l,a,h=>by
  unfold chkL at h;split at h
  ·cases h
  ·rename_i h1
   split at h
   ·obtain⟨d,i2⟩:=zfU l y.c h
    exact⟨dp.2 ⟨λx b=>(qx l y.c h x b).2,d⟩,λx b=>by
     rcases aV.1 b with rfl|b
     ·omega
     ·exact i2 x b⟩
   ·cases h
theorem zsa:∀(l:List Inp) (a:Int),ni l->(∀ x∈l,a<=x.c/\x.c<=400000/\(x.p=0 \/ x.p=1))->chkL l a=0
 | [],a,_,_=>rfl
 | y::l,a,hp,h=>by
  obtain⟨h1,h2,h3⟩:=h y bl;have b:=dp.1 hp;rw[chk0 (by omega) h3];exact zsa l y.c b.2 (λx d=>⟨b.1 x d,(h x (bq _ d)).2⟩)
theorem zus{l:List Inp}{a c:Int}(h:chkIn l a=0)(hc:a<=c):chkIn (l.filter (λx=>decide (c<=x.c))) c=0:=by
 obtain⟨h1,h2⟩:=qB h;obtain⟨h3,h4⟩:=zfU l a h2;unfold chkIn;rw[G (by have:=eT (λx:Inp=>decide (c<=x.c)) l;omega)];refine zsa _ _ (jZ _ h3) (λx e=>?_);obtain⟨b,d⟩:=fI.1 e;exact⟨by simpa using d,h4 x b,(qx l a h2 x b).1⟩
/-! ### what lies where -/
/-! ### a frame over one letter -/
theorem jf.ty{B:Nat}{v:Value}{l:List UInt8}{W:World}(h:jf B v l W):∀ k,v.ownBlock=some k->∃ cs,W.heap[k]?=some (.cells cs 5 (0,0)):=λj e=>by
 obtain⟨k,a,h1,h2,h3,h4,b⟩:=h;rw[h1] at e;cases e;exact b
theorem OwnS.kept{B:Nat}{S:Sl}{M:Mach}{W w1:World}(h:OwnS B S M W)(hb:Below W.heap.size W w1):OwnS B S M w1:=⟨λj a=>(h.own j a).kept hb,h.dist⟩
end Go.Proofs.YthghjlinhokimaaGreatDoor
