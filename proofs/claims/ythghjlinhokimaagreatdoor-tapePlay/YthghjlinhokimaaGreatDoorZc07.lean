/-
  Parts of a proof, joined.
-/
import Derived.Test.YthghjlinhokimaaGreatDoorZcA
import Derived.Test.YthghjlinhokimaaGreatDoorZc04
set_option linter.all false
set_option maxRecDepth 100000
set_option maxHeartbeats 1600000
namespace Go.Proofs.YthghjlinhokimaaGreatDoor
open Go.ChangeShapes Go.WideShapes Go.ChangeAt Go.RowKit Go.Proofs.Tryz
theorem or_one:∀ s:Nat,s<256->bits .or .u8 (((s:Int)*2)%256) 1=(((s:Int)*2)%256)+1:=by decide +kernel
theorem zvC(s:Int)(h:0<=s/\s<=255):bits .or .u8 (s*2%256) 1=s*2%256+1:=by
 obtain⟨k,rfl⟩:=aB h.1;exact or_one k (by omega)
theorem and_one:∀ s:Nat,s<256->bits .and .u8 (s:Int) 1=(s:Int)%2:=by decide +kernel
theorem ze8(s:Int)(h:0<=s/\s<=255):bits .and .u8 s 1=s%2:=by
 obtain⟨k,rfl⟩:=aB h.1;exact and_one k (by omega)
def cH(x:Int):Bool:=x%2 == 1
theorem pO:(Tryz.prog.info? 28).map (·.size)=some 3:=by kernel_rfl
theorem znl(W:World)(q:Nat)(d s:Int)(l:Bool)(h:W.rangeAt q 0 [.int .u8 d,.bool l,.int .u8 s]):(loadVar 28 ⟨q,0,none⟩).run prog W=.ok (.agg #[.int .u8 d,.bool l,.int .u8 s]) W :=
 run_loadVar_mid W q 0 28 _ _ h underlying28 rfl pO
theorem zg3(d s:Int)(l:Bool)(w:World):Calls prog 200 #[.agg #[.int .u8 d,.bool l,.int .u8 s]] w λe w'=>e=.returned (.agg #[.int .u8 d,.bool l,.int .u8 (et l d s)])/\Below w.heap.size w w':=by
 cases l;all_goals
  go_enter func200,ntmps200;go_wp2;refine ao (v:=.agg _) (by simp[results,results200,go_sem,et]) U ⟨U,?_⟩;exact stA (stA (J _) _) _
theorem zjw(d s x:Int)(l:Bool)(w:World):Calls prog 111 #[.agg #[.int .u8 d,.bool l,.int .u8 s],.int .u8 x] w λe w'=>e=.returned (.agg #[.int .u8 x,.bool l,.int .u8 (et l x s)])/\Below w.heap.size w w':=by
 go_enter func111,ntmps111;go_wp2_with (go_at_call 200;refine(zg3 _ _ _ _).mono ?_;rintro e w1 ⟨rfl,a⟩;obtain⟨c,f1⟩:=bQ a;have f:w.heap.size+1<w1.heap.size:=ap (by simp) a.size)
 have b:=Pl.fin [.int .u8 x,.bool l,.int .u8 (et l x s)] (qc _ _ _ 3 (w.heap.size+1) (by simp) U) (stA (stA (J w) _) _) a (by simp) (by omega);exact ao (v:=.agg _) (by simp only[results,results111];simp;exact znl _ _ _ _ _ b.2) U ⟨U,b.1⟩
theorem zjx(d s x:Int)(l:Bool)(w:World)(c:0<=x/\x<=255):Calls prog 241 #[.agg #[.int .u8 d,.bool l,.int .u8 s],.int .u8 x] w λe w'=>e=.returned (.agg #[.int .u8 d,.bool (cH x),.int .u8 (et (cH x) d s)])/\Below w.heap.size w w':=by
 have f:(bits .and .u8 x 1 == 1)=cH x:=by rw[ze8 x c];rfl
 go_enter func241,ntmps241;go_wp2_with (go_at_call 200;refine(zg3 _ _ _ _).mono ?_;rintro e w1 ⟨rfl,a⟩;obtain⟨g,f1⟩:=bQ a;have h:w.heap.size+1<w1.heap.size:=ap (by simp) a.size)
 have b:=Pl.fin [.int .u8 d,.bool (cH x),.int .u8 (et (cH x) d s)] (qc _ _ _ 3 (w.heap.size+1) (by simp) U) (stA (stA (J w) _) _) a (by simp) (by omega);exact ao (v:=.agg _) (by simp only[results,results241];simp;exact znl _ _ _ _ _ b.2) U ⟨U,b.1⟩
theorem znm(d s:Int)(l:Bool)(w:World)(b:0<=d/\d<=255)(a:0<=s/\s<=255):Calls prog 240 #[.agg #[.int .u8 d,.bool l,.int .u8 s]] w λe w'=>e=.returned (.tuple #[.int .u8 (et l d s/128),.agg #[.int .u8 d,.bool l,.int .u8 (et l s (s*2%256+1))]])/\Below w.heap.size w w':=by
 have c:=zvC s a;cases l
 ·go_enter func240,ntmps240
  go_wp2;go_region_held3 (λw'=>w'.cell? ⟨w.heap.size,0,none⟩=some (.int .u8 d)/\w'.cell? ⟨w.heap.size,1,none⟩=some (.bool false)/\w'.cell? ⟨w.heap.size,2,none⟩=some (.int .u8 (s*2%256+1)))
   ((go_keep;done))
   (fail)
  go_wp2;refine ao (v:=.tuple #[_,.agg _]) (by simp[results,results240,go_sem,et]) U ⟨U,?_⟩;exact(stA (stA (J _) _) _).drew
 ·go_enter func240,ntmps240
  go_wp2;go_region_held3 (λw'=>w'.cell? ⟨w.heap.size,0,none⟩=some (.int .u8 d)/\w'.cell? ⟨w.heap.size,1,none⟩=some (.bool true)/\w'.cell? ⟨w.heap.size,2,none⟩=some (.int .u8 s))
   ((go_keep;done))
   (fail)
  go_wp2;refine ao (v:=.tuple #[_,.agg _]) (by simp[results,results240,go_sem,et]) U ⟨U,?_⟩;exact(stA (stA (J _) _) _).drew
def shN(d:Int)(k:Nat):Int:=(d*2 ^ k+(2 ^ k-1))%256
/-! ### the reference's pads -/
theorem zp9(d s:Int)(l:Bool)(w:World)(a:0<=d/\d<=255)(b:0<=s/\s<=255):Calls prog 90 #[.agg #[.int .u8 d,.bool l,.int .u8 s]] w λe w'=>e=.returned (.tuple #[.int .u8 (et l d s/128),.agg #[.int .u8 d,.bool l,.int .u8 (et l s (s*2%256+1))]])/\Below w.heap.size w w':=by
 have c:IntKind.u8.wrap (s*2+1)=s*2%256+1:=by simp[IntKind.wrap,IntKind.bits,IntKind.signed];omega
 have f:IntKind.u8.wrap (d.tdiv 128)=d/128:=by rw[aD a.1];simp[IntKind.wrap,IntKind.bits,IntKind.signed];omega
 cases l
 ·go_enter func90,ntmps90
  go_wp2;go_region_held3 (λw'=>w'.cell? ⟨w.heap.size,0,none⟩=some (.int .u8 d)/\w'.cell? ⟨w.heap.size,1,none⟩=some (.bool false)/\w'.cell? ⟨w.heap.size,2,none⟩=some (.int .u8 (s*2%256+1)))
   ((go_keep;done))
   (fail)
  go_wp2;refine ao (v:=.tuple #[_,.agg _]) (by simp[results,results90,go_sem,et]) U ⟨U,?_⟩;exact(stA (stA (J _) _) _).drew
 ·go_enter func90,ntmps90
  go_wp2;go_region_held3 (λw'=>w'.cell? ⟨w.heap.size,0,none⟩=some (.int .u8 d)/\w'.cell? ⟨w.heap.size,1,none⟩=some (.bool true)/\w'.cell? ⟨w.heap.size,2,none⟩=some (.int .u8 s))
   ((go_keep;done))
   (fail)
  go_wp2;refine ao (v:=.tuple #[_,.agg _]) (by simp[results,results90,go_sem,et]) U ⟨U,?_⟩;exact(stA (stA (J _) _) _).drew
theorem sj(d s x:Int)(l:Bool)(w:World)(a:0<=x/\x<=255):Calls prog 95 #[.agg #[.int .u8 d,.bool l,.int .u8 s],.int .u8 x] w λe w'=>e=.returned (.agg #[.int .u8 d,.bool (cH x),.int .u8 (et (cH x) d s)])/\Below w.heap.size w w':=by
 have b:x%2=0 \/ x%2=1:=by omega
 rcases b with h|h
 all_goals
  have c:cH x=(x%2 == 1):=U;rw[c,h];have f:IntKind.u8.wrap (x.tmod 2)=x%2:=by rw[aq a.1];simp[IntKind.wrap,IntKind.bits,IntKind.signed];omega
  go_enter func95,ntmps95;go_wp2;refine ao (v:=.agg _) (by simp[results,results95,go_sem,et]) U ⟨U,?_⟩;exact stA (stA (J _) _) _
theorem znn(d s x:Int)(l:Bool)(w:World):Calls prog 70 #[.agg #[.int .u8 d,.bool l,.int .u8 s],.int .u8 x] w λe w'=>e=.returned (.agg #[.int .u8 x,.bool l,.int .u8 (et l x s)])/\Below w.heap.size w w':=by
 cases l;all_goals
  go_enter func70,ntmps70;go_wp2;refine ao (v:=.agg _) (by simp[results,results70,go_sem,et]) U ⟨U,?_⟩;exact stA (stA (J _) _) _
theorem zw8(k:Nat)(l:k<32)(g:k≠30)(h:O.mask k=7)(a b:Int)(B:0<=a)(o:a<=65535)(hb:0<=b)(p:b<=65535)(q:a/2048=k)(w:World)(m:aZ w):Calls prog 271 #[.int .u16 a,.int .u16 b] w λe w'=>e=.returned (.tuple #[.agg #[.int .i64 k,.int .i64 (a/256%8),.int .i64 (a/32%8),.int .i64 (M.low a 5),.int .i64 (0)],.int .i64 1])/\Below w.heap.size w w':=by
 have f:=nP (.string (O.nameS k)) (.int .i64 (K.cyc k)) k l;have r:=hid m;have s:=hid h;have n:=hid f;rw[h] at n;have t:=(pq (a/256) (by omega) (by omega)).1;have u:=(pq (a/32) (by omega) (by omega)).1;clear m h f;go_enter func271,ntmps271;go_wp2_with (first
  | (go_at_call 256;refine(oq k l g _ (lq r.out _)).mono ?_;rw[s.out];rintro e w1 ⟨rfl,c⟩;obtain⟨x,y⟩:=bQ c;have i:w.heap.size<w1.heap.size:=by have:=c.size;simp at this;omega)
  | (go_at_call 337;refine(zc5 _ _ _ (by omega) (by omega) (by omega) (by omega)).mono ?_;rintro e w' ⟨rfl,rfl⟩))
 clear t u;go_region_held3 (λw'=>w'.cell? ⟨w1.heap.size,0,none⟩=some (.string (O.nameS k))/\w'.cell? ⟨w1.heap.size,1,none⟩=some (.int .i64 (K.cyc k))/\w'.cell? ⟨w1.heap.size,2,none⟩=some (.int .i64 7)/\w'.cell? ⟨w1.heap.size+1,0,none⟩=some (.int .i64 (k))/\w'.cell? ⟨w1.heap.size+1,1,none⟩=some (.int .i64 (a/256%8))/\w'.cell? ⟨w1.heap.size+1,2,none⟩=some (.int .i64 (a/32%8))/\w'.cell? ⟨w1.heap.size+1,3,none⟩=some (.int .i64 (M.low a 5))/\w'.cell? ⟨w1.heap.size+1,4,none⟩=some (.int .i64 (0)))
  (first
    | with_reducible exact j7 d
    | with_reducible exact iV i (by assumption)
    | (go_keep;done))
  ((go_at_call 288;refine(n.out _).mono ?_;rintro e w2 ⟨rfl,d⟩;obtain⟨j,z⟩:=iW c d))
 go_wp2;refine ao (v:=.tuple #[.agg #[.int .i64 k,.int .i64 (a/256%8),.int .i64 (a/32%8),.int .i64 (M.low a 5),.int .i64 (0)],.int .i64 1]) (by simp[results,results271,go_sem,j,lenOf]) U ⟨U,?_⟩;exact(((((bn (stA (stA (bn (stA (J _) _) c) _) _).drew d).setCell (ak _) _).setCell (ak _) _).setCell (ak _) _).setCell (ak _) _).setCell (ak _) _
theorem zw9(k:Nat)(l:k<32)(g:k≠30)(h:O.mask k=8)(a b:Int)(y:0<=a)(o:a<=65535)(hb:0<=b)(p:b<=65535)(q:a/2048=k)(w:World)(m:aZ w):Calls prog 271 #[.int .u16 a,.int .u16 b] w λe w'=>e=.returned (.tuple #[.agg #[.int .i64 k,.int .i64 (0),.int .i64 (0),.int .i64 (0),.int .i64 (b)],.int .i64 2])/\Below w.heap.size w w':=by
 have f:=nP (.string (O.nameS k)) (.int .i64 (K.cyc k)) k l;have r:=hid m;have s:=hid h;have n:=hid f;rw[h] at n;clear m h f;go_enter func271,ntmps271;go_wp2_with (first
  | (go_at_call 256;refine(oq k l g _ (lq r.out _)).mono ?_;rw[s.out];rintro e w1 ⟨rfl,c⟩;obtain⟨t,u⟩:=bQ c;have i:w.heap.size<w1.heap.size:=by have:=c.size;simp at this;omega))
 go_region_held3 (λw'=>w'.cell? ⟨w1.heap.size,0,none⟩=some (.string (O.nameS k))/\w'.cell? ⟨w1.heap.size,1,none⟩=some (.int .i64 (K.cyc k))/\w'.cell? ⟨w1.heap.size,2,none⟩=some (.int .i64 8)/\w'.cell? ⟨w1.heap.size+1,0,none⟩=some (.int .i64 (k))/\w'.cell? ⟨w1.heap.size+1,1,none⟩=some (.int .i64 (0))/\w'.cell? ⟨w1.heap.size+1,2,none⟩=some (.int .i64 (0))/\w'.cell? ⟨w1.heap.size+1,3,none⟩=some (.int .i64 (0))/\w'.cell? ⟨w1.heap.size+1,4,none⟩=some (.int .i64 (b)))
  (first
    | with_reducible exact j7 d
    | with_reducible exact iV i (by assumption)
    | (go_keep;done))
  ((go_at_call 288;refine(n.out _).mono ?_;rintro e w2 ⟨rfl,d⟩;obtain⟨j,x⟩:=iW c d))
 go_wp2;refine ao (v:=.tuple #[.agg #[.int .i64 k,.int .i64 (0),.int .i64 (0),.int .i64 (0),.int .i64 (b)],.int .i64 2]) (by simp[results,results271,go_sem,j,lenOf]) U ⟨U,?_⟩;exact(((((bn (stA (stA (bn (stA (J _) _) c) _) _).drew d).setCell (ak _) _).setCell (ak _) _).setCell (ak _) _).setCell (ak _) _).setCell (ak _) _
theorem zxa(k:Nat)(l:k<32)(g:k≠30)(h:O.mask k=9)(a b:Int)(z:0<=a)(o:a<=65535)(hb:0<=b)(p:b<=65535)(q:a/2048=k)(w:World)(m:aZ w):Calls prog 271 #[.int .u16 a,.int .u16 b] w λe w'=>e=.returned (.tuple #[.agg #[.int .i64 k,.int .i64 (a/256%8),.int .i64 (0),.int .i64 (0),.int .i64 (b)],.int .i64 2])/\Below w.heap.size w w':=by
 have f:=nP (.string (O.nameS k)) (.int .i64 (K.cyc k)) k l;have r:=hid m;have s:=hid h;have n:=hid f;rw[h] at n;have t:=(pq (a/256) (by omega) (by omega)).1;clear m h f;go_enter func271,ntmps271;go_wp2_with (first
  | (go_at_call 256;refine(oq k l g _ (lq r.out _)).mono ?_;rw[s.out];rintro e w1 ⟨rfl,c⟩;obtain⟨u,x⟩:=bQ c;have i:w.heap.size<w1.heap.size:=by have:=c.size;simp at this;omega))
 clear t;go_region_held3 (λw'=>w'.cell? ⟨w1.heap.size,0,none⟩=some (.string (O.nameS k))/\w'.cell? ⟨w1.heap.size,1,none⟩=some (.int .i64 (K.cyc k))/\w'.cell? ⟨w1.heap.size,2,none⟩=some (.int .i64 9)/\w'.cell? ⟨w1.heap.size+1,0,none⟩=some (.int .i64 (k))/\w'.cell? ⟨w1.heap.size+1,1,none⟩=some (.int .i64 (a/256%8))/\w'.cell? ⟨w1.heap.size+1,2,none⟩=some (.int .i64 (0))/\w'.cell? ⟨w1.heap.size+1,3,none⟩=some (.int .i64 (0))/\w'.cell? ⟨w1.heap.size+1,4,none⟩=some (.int .i64 (b)))
  (first
    | with_reducible exact j7 d
    | with_reducible exact iV i (by assumption)
    | (go_keep;done))
  ((go_at_call 288;refine(n.out _).mono ?_;rintro e w2 ⟨rfl,d⟩;obtain⟨j,y⟩:=iW c d))
 go_wp2;refine ao (v:=.tuple #[.agg #[.int .i64 k,.int .i64 (a/256%8),.int .i64 (0),.int .i64 (0),.int .i64 (b)],.int .i64 2]) (by simp[results,results271,go_sem,j,lenOf]) U ⟨U,?_⟩;exact(((((bn (stA (stA (bn (stA (J _) _) c) _) _).drew d).setCell (ak _) _).setCell (ak _) _).setCell (ak _) _).setCell (ak _) _).setCell (ak _) _
theorem zvv(k:Nat)(m:k<32)(g:k≠30)(h:O.mask k=17)(a b:Int)(p:0<=a)(i:a<=65535)(hb:0<=b)(q:b<=65535)(r:a/2048=k)(w:World)(n:aZ w):Calls prog 271 #[.int .u16 a,.int .u16 b] w λe w'=>e=.returned (.tuple #[.agg #[.int .i64 k,.int .i64 (a/256%8),.int .i64 (0),.int .i64 (a%16),.int .i64 (0)],.int .i64 1])/\Below w.heap.size w w':=by
 have f:=nP (.string (O.nameS k)) (.int .i64 (K.cyc k)) k m;have s:=hid n;have t:=hid h;have o:=hid f;rw[h] at o;have u:=(pq (a/256) (by omega) (by omega)).1;have x:=(pq a p i).2;clear n h f;go_enter func271,ntmps271;go_wp2_with (first
  | (go_at_call 256;refine(oq k m g _ (lq s.out _)).mono ?_;rw[t.out];rintro e w1 ⟨rfl,c⟩;obtain⟨y,z⟩:=bQ c;have j:w.heap.size<w1.heap.size:=by have:=c.size;simp at this;omega))
 clear u x;go_region_held3 (λw'=>w'.cell? ⟨w1.heap.size,0,none⟩=some (.string (O.nameS k))/\w'.cell? ⟨w1.heap.size,1,none⟩=some (.int .i64 (K.cyc k))/\w'.cell? ⟨w1.heap.size,2,none⟩=some (.int .i64 17)/\w'.cell? ⟨w1.heap.size+1,0,none⟩=some (.int .i64 (k))/\w'.cell? ⟨w1.heap.size+1,1,none⟩=some (.int .i64 (a/256%8))/\w'.cell? ⟨w1.heap.size+1,2,none⟩=some (.int .i64 (0))/\w'.cell? ⟨w1.heap.size+1,3,none⟩=some (.int .i64 (a%16))/\w'.cell? ⟨w1.heap.size+1,4,none⟩=some (.int .i64 (0)))
  (first
    | with_reducible exact j7 d
    | with_reducible exact iV j (by assumption)
    | (go_keep;done))
  ((go_at_call 288;refine(o.out _).mono ?_;rintro e w2 ⟨rfl,d⟩;obtain⟨l,B⟩:=iW c d))
 go_wp2;refine ao (v:=.tuple #[.agg #[.int .i64 k,.int .i64 (a/256%8),.int .i64 (0),.int .i64 (a%16),.int .i64 (0)],.int .i64 1]) (by simp[results,results271,go_sem,l,lenOf]) U ⟨U,?_⟩;exact(((((bn (stA (stA (bn (stA (J _) _) c) _) _).drew d).setCell (ak _) _).setCell (ak _) _).setCell (ak _) _).setCell (ak _) _).setCell (ak _) _
section
variable {P : Program} {md : Region.Mode} {ops : Array Oper} {aj : Exit -> Act -> World -> Prop} {S : World -> Prop} {st : Nat}
theorem ee(i:Nat)(oi:Oper){v:Value}{fuel:Nat}{b:Array Bool}{a:Act}{w:World}(e:S w)(h:wpAnyH P md ops aj S fuel (b.setIfInBounds i true) (a.put oi.dst v) w)(hi:ops[i]?=some oi:=by rfl)
 (f:Region.noSelect ops=true:=by kernel_rfl) (g:Region.free md ops b i=true:=by kernel_rfl) (j:(Region.ready md ops b).contains i=true:=by kernel_rfl)
 (k:∀ c a w,aj (.panic c) (a.put oi.dst v) w->aj (.panic c) a w:=by exact λ_ _ _ h=>h) (l:Region.wanted oi (yielded ops a.tmps)=true:=by rfl) (m:∀ w',S w'->(execOp a.eval oi).run P w'=.ok (.value v) w':=by(intro w d;clear d;go_simp;try (with_reducible rfl))):wpAnyH P md ops aj S (fuel+1) b a w :=
 wpAnyH_take hi f g j k (Or.inl ⟨l,m⟩) e h
theorem zik{i:Nat}(u:List Nat){oi:Oper}{v:Value}(hi:ops[i]?=some oi)(q:∀(j:Nat) (o:Oper) cs b,ops[j]?=some o->o.op ≠ .select cs b)
 (hQ:∀ c a w,aj (.panic c) (a.put oi.dst v) w->aj (.panic c) a w) (W:∀ k∈u,∃ p∈i::u,waits md ops k p=true) (x:st∈u) (X:i ∉ u) :
 ∀(fuel:Nat) (d:Array Bool) (a:Act) (w:World),
  (∀ j oj,ops[j]?=some oj->j≠i->d.getD j true=false->(∀ e∈oj.after,Region.binds md e=true->e.on≠i)->oi.apart ops oj=true) ->
  i∈Region.ready md ops d->YieldsIf P ops S oi v a->S w->(∀ k∈u,d.getD k true=false) ->
  dg P md ops aj S st fuel (d.setIfInBounds i true) (a.put oi.dst v) w->dg P md ops aj S st (fuel+1) d a w:=by
 intro fuel;induction fuel with
 | zero =>
  intro d a w _ y T B _ H;refine⟨λh=>(by rw[h] at y;cases y),λj V=>?_⟩;by_cases f:j=i
  ·subst f;exact T.wpOp hi B ⟨λ_=>B,H⟩
  ·have:=iA V f
   rw[H.1] at this;cases this
 | succ fuel ih =>
  intro d a w l y T B g H;refine⟨λh=>(by rw[h] at y;cases y),λj V=>?_⟩;by_cases f:j=i
  ·subst f;exact T.wpOp hi B ⟨λ_=>B,H⟩
  ·have h1:=H.2 j (iA V f)
   obtain⟨r,oj,m,E⟩:=kM.1 V;have off:∀(p:Nat),d.getD p true=false->∀ e∈oj.after,Region.binds md e=true->e.on≠p:=λp h0 e he hb Y=>by
    have h1:=E e he hb;rw[Y] at h1;rcases ey p d.size with Z|Z
    ·simp[Z] at h0 h1;rw[h0] at h1;cases h1
    ·simp[gu Z] at h1
   have s:∀ e∈oj.after,Region.binds md e=true->e.on≠i:=off i (kM.1 y).1;have F:∀ k∈u,j≠k:=λk z e=>by
    subst e;obtain⟨p,hp,hw⟩:=W j z;obtain⟨os,hos,e',I,L,M⟩:=zoJ hw;rw[hos] at m;cases m;rcases aV.1 hp with rfl|hp
    ·exact s e' I L M
    ·exact off p (g p hp) e' I L M
   have h2:=wpOp_putIf m (l j oj m f r s) (λcs b=>q i oi cs b hi) (λcs b=>q j oj cs b m) hQ T h1;have N:∀ k∈u,(d.setIfInBounds j true).getD k true=false:=λk z=>by rw[fV true (F k z)];exact g k z
   have t:((d.setIfInBounds i true).setIfInBounds j true).getD st true=false:=by rw[fV true (F st x),fV true (λe:i=st=>X (e.symm ▸ x))];exact g st x
   have n:∀ k ok,ops[k]?=some ok->k≠i->(d.setIfInBounds j true).getD k true=false ->
    (∀ e∈ok.after,Region.binds md e=true->e.on≠i)->oi.apart ops ok=true:=λk ok z hki g hno=>by
    refine l k ok z hki ?_ hno;by_cases R:j=k
    ·subst R;exact r
    ·rw[fV true R] at g;exact g
   refine l8 (λa' w' h3=>⟨λ_=>h3.2.1 t,ih (d.setIfInBounds j true) a' w' n (iA y (br f)) h3.1 (h3.2.1 t) N ?_⟩) h2;rw[fE _ _ f];exact h3.2.2
theorem mJ(d:List Nat){i:Nat}{oi:Oper}{v:Value}{fuel:Nat}{b:Array Bool}{a:Act}{w:World}(hi:ops[i]?=some oi)(m:YieldsIf P ops S oi v a)(n:S w)
 (h:dg P md ops aj S st fuel (b.setIfInBounds i true) (a.put oi.dst v) w)
 (o:Region.noSelect ops=true:=by kernel_rfl) (q:Region.free md ops b i=true:=by kernel_rfl) (r:(Region.ready md ops b).contains i=true:=by kernel_rfl)
 (e:d.all (λk=>(i::d).any (λp=>waits md ops k p))=true:=by kernel_rfl) (f:st∈d:=by decide) (g:i ∉ d:=by decide) (j:d.all (λk=>b.getD k true == false)=true:=by kernel_rfl)
 (s:∀ c a w,aj (.panic c) (a.put oi.dst v) w->aj (.panic c) a w:=by exact λ_ _ _ h=>h):dg P md ops aj S st (fuel+1) b a w :=
 zik d hi (jY o) s (λk l=>by
  obtain⟨p,hp,t⟩:=i8.1 (bW.1 e k l);exact⟨p,hp,t⟩) f g fuel b a w (kP hi q) (by simpa using r) m n (λk l=>by simpa using bW.1 j k l) h
theorem bI(i:Nat){oi:Oper}{v:Value}{fuel:Nat}{b:Array Bool}{a e:Act}{w:World}(f:b.getD st true=false->S w)(h:dg P md ops aj S st fuel (b.setIfInBounds i true) e w)(hi:ops[i]?=some oi:=by(first|(simp only[bw,bi,aY];exact U)|rfl))(g:Region.noSelect ops=true:=by kernel_rfl)(j:Region.free md ops b i=true:=by kernel_rfl)(k:(Region.ready md ops b).contains i=true:=by kernel_rfl)(d:st≠i:=by decide)(l:∀ c a w,aj (.panic c) (a.put oi.dst v) w->aj (.panic c) a w:=by exact λ_ _ _ h=>h)(m:Region.wanted oi (yielded ops a.tmps)=true:=by rfl)
 (n:∀ w',True->(execOp a.eval oi).run P w'=.ok (.value v) w':=by(intro w o;go_simp;try (with_reducible rfl))) (hp:a.put oi.dst v=e:=by(simp only[dv,cX,cY,Act.put,b8,dk,dm];exact U)):dg P md ops aj S st (fuel+1) b a w:=by
 subst hp;exact kH hi g j k d l (Or.inl ⟨m,n⟩) f h
theorem nV(d:List Nat)(i:Nat)(v:Value){oi:Oper}{fuel:Nat}{b:Array Bool}{a j:Act}{w:World}(hi:ops[i]?=some oi)(y:∀ w',S w'->(execOp a.eval oi).run P w'=.ok (.value v) w')(l:S w)(h:dg P md ops aj S st fuel (b.setIfInBounds i true) j w)(m:Region.noSelect ops=true:=by kernel_rfl)(n:Region.free md ops b i=true:=by kernel_rfl)(o:(Region.ready md ops b).contains i=true:=by kernel_rfl)
 (e:(st::d).all (λk=>(i::st::d).any (λp=>waits md ops k p))=true:=by kernel_rfl) (f:i ∉ st::d:=by decide) (g:(st::d).all (λk=>b.getD k true == false)=true:=by kernel_rfl) (q:∀ c a w,aj (.panic c) (a.put oi.dst v) w->aj (.panic c) a w:=by exact λ_ _ _ h=>h) (r:Region.wanted oi (yielded ops a.tmps)=true:=by rfl) (hp:a.put oi.dst v=j:=by(simp only[dv,cX,cY,Act.put,b8,dk,dm];exact U)):dg P md ops aj S st (fuel+1) b a w:=by
 subst hp;exact mJ (st::d) hi (Or.inl ⟨r,y⟩) l h m n o e (bl ..) f g q
theorem j1(d:List Nat)(i:Nat){p:Addr}{u v:Value}{oi:Oper}{fuel:Nat}{b:Array Bool}{a l:Act}{w:World}(hc:∀ w',S w'->w'.cell? p=some u)(m:S w)(h:dg P md ops aj S st fuel (b.setIfInBounds i true) l w)(hi:ops[i]?=some oi:=by(first|(simp only[bw,bi,aY];exact U)|rfl))(n:Region.noSelect ops=true:=by kernel_rfl)(o:Region.free md ops b i=true:=by kernel_rfl)(q:(Region.ready md ops b).contains i=true:=by kernel_rfl)
 (e:(st::d).all (λk=>(i::st::d).any (λp=>waits md ops k p))=true:=by kernel_rfl) (f:i ∉ st::d:=by decide) (g:(st::d).all (λk=>b.getD k true == false)=true:=by kernel_rfl) (r:∀ c a w,aj (.panic c) (a.put oi.dst v) w->aj (.panic c) a w:=by exact λ_ _ _ h=>h) (s:Region.wanted oi (yielded ops a.tmps)=true:=by rfl) (t:∀ w',w'.cell? p=some u->(execOp a.eval oi).run P w'=.ok (.value v) w':=by(intro w' j;have x:=aG w' _ j;go_simp;try (with_reducible rfl))) (hp:a.put oi.dst v=l:=by(simp only[dv,cX,cY,Act.put,b8,dk,dm];exact U)):dg P md ops aj S st (fuel+1) b a w :=
 nV d i v hi (λw' h=>t w' (hc w' h)) m h n o q e f g r s hp
theorem iq(i:Nat)(v:Value){oi:Oper}{fuel:Nat}{b:Array Bool}{a d:Act}{w:World}(hi:ops[i]?=some oi)(y:∀ w',S w'->(execOp a.eval oi).run P w'=.ok (.value v) w')(e:S w)(h:wpAnyH P md ops aj S fuel (b.setIfInBounds i true) d w)(f:Region.noSelect ops=true:=by kernel_rfl)(g:Region.free md ops b i=true:=by kernel_rfl)(j:(Region.ready md ops b).contains i=true:=by kernel_rfl)(k:∀ c a w,aj (.panic c) (a.put oi.dst v) w->aj (.panic c) a w:=by exact λ_ _ _ h=>h)(l:Region.wanted oi (yielded ops a.tmps)=true:=by rfl)(hp:a.put oi.dst v=d:=by(simp only[dv,cX,cY,Act.put,b8,dk,dm];exact U)):wpAnyH P md ops aj S (fuel+1) b a w:=by
 subst hp;exact wpAnyH_take hi f g j k (Or.inl ⟨l,y⟩) e h
theorem A(i:Nat){oi:Oper}{v:Value}{fuel:Nat}{b:Array Bool}{a e:Act}{w:World}(f:S w)(h:wpAnyH P md ops aj S fuel (b.setIfInBounds i true) e w)(hi:ops[i]?=some oi:=by(first|(simp only[bw,bi,aY];exact U)|rfl))(g:Region.noSelect ops=true:=by kernel_rfl)(j:Region.free md ops b i=true:=by kernel_rfl)(k:(Region.ready md ops b).contains i=true:=by kernel_rfl)(l:∀ c a w,aj (.panic c) (a.put oi.dst v) w->aj (.panic c) a w:=by exact λ_ _ _ h=>h)(m:Region.wanted oi (yielded ops a.tmps)=true:=by rfl)
 (n:∀ w',S w'->(execOp a.eval oi).run P w'=.ok (.value v) w':=by(intro w d;(try dsimp only at d);go_simp;try (with_reducible rfl))) (hp:a.put oi.dst v=e:=by(simp only[dv,cX,cY,Act.put,b8,dk,dm];exact U)):wpAnyH P md ops aj S (fuel+1) b a w :=
 iq i v hi n f h g j k l m hp
theorem nW(i:Nat){p:Addr}{u v:Value}{oi:Oper}{fuel:Nat}{b:Array Bool}{a e:Act}{w:World}(hc:∀ w',S w'->w'.cell? p=some u)(f:S w)(h:wpAnyH P md ops aj S fuel (b.setIfInBounds i true) e w)(hi:ops[i]?=some oi:=by(first|(simp only[bw,bi,aY];exact U)|rfl))(g:Region.noSelect ops=true:=by kernel_rfl)(j:Region.free md ops b i=true:=by kernel_rfl)(k:(Region.ready md ops b).contains i=true:=by kernel_rfl)(l:∀ c a w,aj (.panic c) (a.put oi.dst v) w->aj (.panic c) a w:=by exact λ_ _ _ h=>h)(m:Region.wanted oi (yielded ops a.tmps)=true:=by rfl)
 (n:∀ w',w'.cell? p=some u->(execOp a.eval oi).run P w'=.ok (.value v) w':=by(intro w' d;have o:=aG w' _ d;go_simp;try (with_reducible rfl))) (hp:a.put oi.dst v=e:=by(simp only[dv,cX,cY,Act.put,b8,dk,dm];exact U)):wpAnyH P md ops aj S (fuel+1) b a w :=
 iq i v hi (λw' h=>n w' (hc w' h)) f h g j k l m hp
theorem dQ(i:Nat){o:Oper}{fuel:Nat}{b:Array Bool}{a:Act}{w:World}(h:∀ c:Act->World->Prop,Shut (∀ a w,S w->(S w->wpAnyH P md ops aj S fuel (b.setIfInBounds i true) a w)->c a w)->if Region.wanted o (yielded ops a.tmps)=true then Oper.wp P o a w c aj else c (a.put o.dst undef) w)
 (d:ops[i]?=some o:=by(first|(simp only[bw,bi,aY];exact U)|rfl)) (e:Region.ready md ops b=[i]:=by kernel_rfl):wpAnyH P md ops aj S (fuel+1) b a w:=wpAnyH_ready e (by simp) (AllReadyH.cons d h AllReadyH.nil)
theorem eP{K:Act->World->Prop}{fuel:Nat}{b:Array Bool}{a c:Act}{w:World}(d:Shut (∀ a w,S w->(S w->wpAnyH P md ops aj S fuel b a w)->K a w))(e:S w)(h:S w->wpAnyH P md ops aj S fuel b c w)(hp:a=c:=by(first|(simp only[Act.put,xA,xB,xC];exact U)|exact U)):K a w:=by
 subst hp;exact d.out _ _ e h
theorem fP(i:Nat){o:Oper}{fuel:Nat}{b:Array Bool}{a:Act}{w:World}(h:∀ c:Act->World->Prop,Shut (∀ a w,((b.setIfInBounds i true).getD st true=false->S w)->dg P md ops aj S st fuel (b.setIfInBounds i true) a w->c a w)->if Region.wanted o (yielded ops a.tmps)=true then Oper.wp P o a w c aj else c (a.put o.dst undef) w)
 (d:ops[i]?=some o:=by(first|(simp only[bw,bi,aY];exact U)|rfl)) (e:Region.ready md ops b=[i]:=by kernel_rfl):dg P md ops aj S st (fuel+1) b a w:=zoK e d h
theorem gL{K:Act->World->Prop}{fuel:Nat}{b:Array Bool}{a c:Act}{w:World}(d:Shut (∀ a w,(b.getD st true=false->S w)->dg P md ops aj S st fuel b a w->K a w))(e:b.getD st true=false->S w)(h:dg P md ops aj S st fuel b c w)(hp:a=c:=by(first|(simp only[Act.put,xA,xB,xC];exact U)|exact U)):K a w:=by
 subst hp;exact d.out _ _ e h
end
end Go.Proofs.YthghjlinhokimaaGreatDoor
namespace Go.Proofs.YthghjlinhokimaaGreatDoor.S
abbrev By:=List UInt8
def sgn(p:Nat):UInt8:=[100,115,119,110].getD p 0
def parts(k:Nat):List Nat:=(List.range 4).filter (λp=>O.hasC k (sgn p))
/-! ### a program's listing -/
/-! ### what is built of a text -/
structure St where
 rom:By
 places:List (By × Nat)
 uses:List (By × Nat × Nat)
end Go.Proofs.YthghjlinhokimaaGreatDoor.S
namespace Go.Proofs.YthghjlinhokimaaGreatDoor
open Go.ChangeShapes Go.WideShapes Go.ChangeAt Go.RowKit Go.Proofs.Tryz
def bs(s:ByteArray):List UInt8:=s.data.toList
theorem mX{w w':World}(h:Below w.heap.size w w'):w.grownBy w' none:=⟨h.os,h.tape,h.output,h.size,λk a _=>h.block k a⟩
def i7:Array Value:=((List.range 32).map (λk=>Value.string (K.text k))).toArray
theorem zoV(w:World)(a:Lib.TabIs prog w "strings.asciiSpace" .u8 Lib.asciiSpaceTab):Calls prog 216 #[.string K.table] w λe w'=>e=.returned (.slice (some ⟨w.heap.size,0,none⟩) 32 32)/\w'=w.alloc (.cells i7 9):=by
 have h:=Tryz.strings_Fields_laid K.table w (by rw[K.size_table];omega) K.ascii_table a;rw[K.fields_table] at h;refine h.mono λe w' b=>⟨b.1.trans (by simp),b.2.trans ?_⟩
 simp[i7,Function.comp_def]
theorem zrk(k:Nat)(a:k<32)(m:Int)(w:World)(c:w.cell? ⟨0,0,none⟩=some (.int .i64 m)):Calls prog 169 #[.string (K.text k),.string ⟨#[58]⟩] w λe w'=>e=.returned (.slice (some ⟨w.heap.size,0,none⟩) 3 3)/\w'=w.alloc (.cells #[.string (K.name k),.string (K.has k),.string (K.num k)] 9):=by
 have d:=K.sizes k a;have h:=Tryz.strings_Split (K.text k) K.colon m w (by omega) c (by decide);rw[(K.split_text k a).1,(K.split_text k a).2] at h;exact h.mono λe w' b=>⟨b.1,b.2.trans (by simp)⟩
theorem zrl(k:Nat)(a:k<32)(w:World):Calls prog 217 #[.string (K.num k),.int .i64 10,.int .i64 64] w λe w'=>e=.returned (.tuple #[.int .i64 (K.cyc k),.nilIface])/\Below w.heap.size w w':=by
 have c:=K.sizes k a;refine(Tryz.strconv_ParseInt_10_at64_ok (K.num k) (by omega) (K.cyc k) (K.parse_num k a) w).mono λe w' b=>⟨b.1,?_⟩
 rcases b.2 with rfl|⟨t,rfl⟩
 ·exact aW _ _
 ·exact Joins.below_bytesWorld _ _ _ _ (ak _)
theorem zrm:(Tryz.prog.info? 231).map (λi=>(i.zero,i.size,i.bytes))=some (some (.agg #[.string ⟨#[]⟩,.string ⟨#[]⟩,.int .i64 0]),3,40):=by kernel_rfl
theorem ztT(k:Nat)(a:k<32):i7[k]?=some (.string (K.text k)):=by
 unfold i7;rw[bw,aX,dV a];rfl
theorem zoW(w:World)(k:Nat)(a:k<32):(w.alloc (.cells i7 9)).cell? ⟨w.heap.size,k,none⟩=some (.string (K.text k)):=by
 rw[gB];exact ztT k a
theorem zrn(w:World)(f:Lib.TabIs prog w "strings.asciiSpace" .u8 Lib.asciiSpaceTab)(m:Int)(F:w.cell? ⟨0,0,none⟩=some (.int .i64 m)):Calls prog 142 #[] w λe w'=>∃ v,e=.returned v/\w'.ownsRow (w.heap.size+1) 231 3 v 32 (K.cells 32)/\Below w.heap.size w w':=by
 obtain⟨i0,u,x,y,z⟩:=info_parts zrm;have I:=hid f;clear f;have q:=aG w _ F;go_enter func142,ntmps142;go_wp2_with (go_at_call 216;refine(zoV _ I.out).mono ?_;rintro e w' ⟨rfl,rfl⟩)
 go_loopw [1,9] (λl i wr=>∃ k:Nat,k<=32/\i=.int .i64 k/\wr.ownsRow (w.heap.size+1) 231 3 l k (K.cells k)/\Below (w.heap.size+1) (w.alloc (.cells i7 9)) wr) (λ_ i _=>32-(intOf i).toNat)
 case atStart=>exact⟨0,by omega,U,⟨U,Or.inl ⟨U,U⟩⟩,aW _ _⟩
 case round =>
  obtain⟨k,W,rfl,b,c⟩:=hrel;by_cases h:k<32
  ·have L:=(c.cell (p:=⟨w.heap.size,k,none⟩) (by simp)).trans (zoW w k h)
   have B:=((c.cell (p:=⟨0,0,none⟩) (by simp at q ⊢ <;> omega)).trans (aK w _ _ (by simpa using q))).trans F;go_wp2_with (first
    | (go_at_call 169;refine(zrk k h m _ (by exact B)).mono ?_;rintro e w' ⟨rfl,rfl⟩)
    | (go_at_call 217;refine(zrl k h _).mono ?_;rintro e w2 ⟨rfl,d⟩))
   have M:w2.cell? ⟨wr.heap.size,0,none⟩=some (.string (K.name k)):=(d.cell (p:=⟨wr.heap.size,0,none⟩) (by simp)).trans (by simp);have N:w2.cell? ⟨wr.heap.size,1,none⟩=some (.string (K.has k)):=(d.cell (p:=⟨wr.heap.size,1,none⟩) (by simp)).trans (by simp);have n:=(b.alloc (.cells #[.string (K.name k),.string (K.has k),.string (K.num k)] 9)).kept (mX d) (by cases u1.ownBlock with|none=>exact Or.inl rfl|some g=>exact Or.inr (by simp));have P:wr.heap.size+1<=w2.heap.size:=by have:=d.size;simpa using this
   have E:w.heap.size+1<=wr.heap.size:=by have:=c.size;simpa using this
   have r:u1.ownBlock≠some wr.heap.size:=λe=>by have:=b.lt _ e;omega
   go_region_held3 (λw'=>w'.cell? ⟨wr.heap.size,0,none⟩=some (.string (K.name k))/\w'.cell? ⟨wr.heap.size,1,none⟩=some (.string (K.has k)))
    (first
      | go_keep
      | (go_split_ands
         refine⟨?_,?_⟩
         ·(rw[a.cell_far _ (by simp;omega) (br r)];assumption)
         ·(rw[a.cell_far _ (by simp;omega) (br r)];assumption)))
    ((refine step_append_lies _ (by rfl) _ _ _ (by rfl) (w.heap.size+1) 231 i0 _ 3 40 underlying232 u x y z U (by omega) u1 k (K.cells k) (by rfl) ((n.alloc _).drew)
       ⟨w2.heap.size,0,none⟩ 1 1 [.string (K.name k),.string (K.has k),.int .i64 (K.cyc k)] (by rfl) (by rfl) (World.news_of_block (cs:=#[.string (K.name k),.string (K.has k),.int .i64 (K.cyc k)]) (t:=231) (fr:=(0,0)) (aJ w2 _)) (by simp[Value.oneCell'])
       (by omega) (by unfold maxLen;omega) (by omega) (by simp;omega) (w2.heap.size+1) (by simp) ?_;intro X R Y o a T H))
   go_wp2
   go_roundw
   case rel=>exact⟨k+1,by omega,by go_num,o,(((c.alloc E _).trans (d.mono (by simp;omega))).alloc (by omega) _).drew.grown a (by simp;omega) (λj V=>(b.lt j V).1)⟩
   case measure=>simp[intOf];omega
  ·go_wp2
   go_ret;have s:k=32:=by omega
   subst s;exact⟨_,U,b,((aW _ _).alloc (ak _) _).trans (c.mono (by omega))⟩
def nN(w:World)(g:Nat):Prop:=∀ k,k<32->w.cell? ⟨g,k*3,none⟩=some (.string (K.name k))/\w.cell? ⟨g,k*3+1,none⟩=some (.string (K.has k))/\w.cell? ⟨g,k*3+2,none⟩=some (.int .i64 (K.cyc k))
theorem zlS(w:World)(d:Lib.TabIs prog w "strings.asciiSpace" .u8 Lib.asciiSpaceTab)(m:Int)(h:w.cell? ⟨0,0,none⟩=some (.int .i64 m)):Calls prog 142 #[] w λe w'=>∃ g c,e=.returned (.slice (some ⟨g,0,none⟩) 32 c)/\nN w' g/\w.heap.size<=g/\g<w'.heap.size/\Below w.heap.size w w':=by
 refine(zrn w d m h).mono λe w' ⟨v,i,a,hb⟩=>?_
 obtain⟨g,c,l,n,f⟩:=a.form (by omega);subst l;have b:∀ j,(⟨g,0,none⟩:Addr).add j=⟨g,j,none⟩:=λj=>by unfold Addr.add;split <;> simp_all
 refine⟨g,c,i,λk o=>?_,by omega,f,hb⟩;obtain⟨h1,h2,h3⟩:=K.cells_at 32 k o;exact⟨b _ ▸ a.cells U _ _ h1,b _ ▸ a.cells U _ _ h2,b _ ▸ a.cells U _ _ h3⟩
theorem tQ(w:World)(h:Facts w):Calls prog 142 #[] w λe w'=>∃ g a,e=.returned (.slice (some ⟨g,0,none⟩) 32 a)/\nN w' g/\w.heap.size<=g/\g<w'.heap.size/\Below w.heap.size w w':=by
 obtain⟨m,b⟩:=h.len;exact zlS w h.tab m b
def gb(m:List UInt8)(i:Nat):Nat:=(m.getD i 0).toNat
theorem f8(m:List UInt8)(i:Nat):gb m i<256:=(m.getD i 0).toNat_lt
def td(m:List UInt8)(t x y:Nat):Nat:=gb m (16+4*(t%16)+y)/4 ^ (3-x)%4
theorem qP(m:List UInt8)(t x y:Nat):td m t x y<4:=gE _ (by decide)
def g16(m:List UInt8)(Y X:Nat):Nat:=td m (gb m (Y/4*4+X/4)) (X%4) (Y%4)
def gd(m:List UInt8)(y x:Nat):Nat:=g16 m ((y+gb m 169)%16) ((x+gb m 168)%16)
theorem qQ(m:List UInt8)(y x:Nat):gd m y x<4:=qP ..
def lnS(m:List UInt8)(k:Nat):Nat:=gb m (128+4*k)
def clS(m:List UInt8)(k:Nat):Nat:=gb m (129+4*k)
def ir(m:List UInt8)(k:Nat):Nat:=gb m (130+4*k)
def hwS(m:List UInt8)(k:Nat):Nat:=gb m (131+4*k)
def mG(m:List UInt8)(y k:Nat):Bool:=decide (lnS m k<=y/\y<lnS m k+4)
def gM(m:List UInt8)(y:Nat)(n:Nat):List Nat:=(List.range n).filter (mG m y)
theorem tX(m:List UInt8)(y n:Nat):gM m y (n+1)=if mG m y n then gM m y n++[n] else gM m y n:=by
 unfold gM;rw[eK,dH];cases h:mG m y n <;> simp[h]
theorem zvd{m:List UInt8}{y n k:Nat}(h:k∈gM m y n):k<n:=by
 unfold gM at h;rw[fI] at h;exact du.1 h.1
theorem zve{m:List UInt8}{y n k:Nat}(h:k∈gM m y n):mG m y k=true:=by
 unfold gM at h;exact(fI.1 h).2
def rwS(m:List UInt8)(y k:Nat):Nat:=if hwS m k/2%2=1 then 3-(y-lnS m k) else y-lnS m k
def sdS(m:List UInt8)(y k i:Nat):Nat:=td m (ir m k) (if hwS m k%2=1 then 3-i else i) (rwS m y k)
theorem zvf(m:List UInt8)(y k i:Nat):sdS m y k i<4:=qP ..
def sxS(m:List UInt8)(y k x:Nat):Nat:=if clS m k<=x/\x<clS m k+4 then sdS m y k (x-clS m k) else 0
theorem zyd(m:List UInt8)(y k x:Nat):sxS m y k x<4:=by
 unfold sxS;split
 ·exact zvf ..
 ·decide
def kh(m:List UInt8)(y:Nat)(ks:List Nat)(x:Nat):Nat :=
 match ks.find? (λk=>sxS m y k x != 0) with
 | none=>gb m (160+gd m y x)
 | some k=>if 128<=hwS m k/\gd m y x≠0 then gb m (160+gd m y x) else gb m (164+sxS m y k x)
def kr(m:List UInt8)(y:Nat)(ks:List Nat)(x:Nat):Bool:=ks.any (λk=>sxS m y k x != 0)
theorem sQ(m:List UInt8)(y:Nat)(ks:List Nat)(k x:Nat):kr m y (ks++[k]) x=(kr m y ks x || sxS m y k x != 0):=by
 unfold kr;simp
theorem znF{m:List UInt8}{y:Nat}{ks:List Nat}{x:Nat}(h:kr m y ks x=false):kh m y ks x=gb m (160+gd m y x):=by
 unfold kr at h;have:ks.find? (λk=>sxS m y k x != 0)=none:=by
  rw[dJ];intro k a;rw[iR] at h;exact h k a
 unfold kh;rw[this]
theorem zgp{m:List UInt8}{y:Nat}{ks:List Nat}{k x:Nat}(h:kr m y ks x=true):kh m y (ks++[k]) x=kh m y ks x:=by
 unfold kr at h;unfold kh;rw[gn];cases b:ks.find? (λk=>sxS m y k x != 0) with
 | some a=>simp
 | none =>
  rw[dJ] at b;rw[i8] at h;obtain⟨a,c,hb⟩:=h;exact absurd hb (b a c)
theorem zec{m:List UInt8}{y:Nat}{ks:List Nat}{k x:Nat}(h:sxS m y k x=0):kh m y (ks++[k]) x=kh m y ks x:=by
 unfold kh;rw[gn];have:[k].find? (λk=>sxS m y k x != 0)=none:=by simp[h]
 rw[this];cases ks.find? (λk=>sxS m y k x != 0) <;> rfl
theorem zeW{m:List UInt8}{y:Nat}{ks:List Nat}{k x:Nat}(h:kr m y ks x=false)(a:sxS m y k x≠0):kh m y (ks++[k]) x=if 128<=hwS m k/\gd m y x≠0 then kh m y ks x else gb m (164+sxS m y k x):=by
 rw[znF h];unfold kr at h;have b:ks.find? (λk=>sxS m y k x != 0)=none:=by
  rw[dJ];intro k c;rw[iR] at h;exact h k c
 have h1:[k].find? (λk=>sxS m y k x != 0)=some k:=by simp[a]
 unfold kh;rw[gn,b,h1];rfl
def px(m:List UInt8)(y x:Nat):Nat:=kh m y ((gM m y 8).take 2) x
def bf(f:Nat->Nat):List Value:=(List.range 16).map λx=>Value.int .u8 (f x)
theorem lh(f:Nat->Nat):(bf f).length=16:=by simp[bf]
theorem oy(f:Nat->Nat){x:Nat}(h:x<16):(bf f)[x]?=some (.int .u8 (f x)):=by
 unfold bf;rw[aX,dV h];rfl
theorem sR{f g:Nat->Nat}(h:∀ x,x<16->f x=g x):bf f=bf g:=by
 unfold bf;apply j6;intro x a;rw[h x (du.1 a)]
theorem ry(f:Nat->Nat)(x v:Nat)(h:x<16):(bf f).set x (.int .u8 v)=bf (λi=>if i=x then v else f i):=by
 apply iS;intro i;by_cases hi:i<16
 ·rw[oy _ hi]
  by_cases e:i=x
  ·subst e
   rw[dB (by rw[lh];exact hi)];simp
  ·rw[fh (br e),oy _ hi]
   simp[e]
 ·rw[cI (by simp[lh];omega),cI (by rw[lh];omega)]
def gS(f:Nat->Bool):List Value:=(List.range 16).map λx=>Value.bool (f x)
theorem zdh(f:Nat->Bool):(gS f).length=16:=by simp[gS]
theorem zfJ(f:Nat->Bool){x:Nat}(h:x<16):(gS f)[x]?=some (.bool (f x)):=by
 unfold gS;rw[aX,dV h];rfl
theorem zjX{f g:Nat->Bool}(h:∀ x,x<16->f x=g x):gS f=gS g:=by
 unfold gS;apply j6;intro x a;rw[h x (du.1 a)]
theorem zo3(f:Nat->Bool)(x:Nat)(v:Bool)(h:x<16):(gS f).set x (.bool v)=gS (λi=>if i=x then v else f i):=by
 apply iS;intro i;by_cases hi:i<16
 ·rw[zfJ _ hi]
  by_cases e:i=x
  ·subst e
   rw[dB (by rw[zdh];exact hi)];simp
  ·rw[fh (br e),zfJ _ hi]
   simp[e]
 ·rw[cI (by simp[zdh];omega),cI (by rw[zdh];omega)]
structure Mm (W : World) (m : List UInt8) (v : Value) (g o c : Nat) : Prop where
 v:v=.slice (some ⟨g,o,none⟩) 256 c
 l:m.length=256
 z:g<W.heap.size
 c:∀ i,i<256->W.cell? ⟨g,o+i,none⟩=some (.int .u8 (gb m i))
theorem Mm.of{W:World}{m:List UInt8}{v:Value}(h:sliceAt W v m)(d:m.length=256):∃ g o c,Mm W m v g o c:=by
 rcases h with⟨a,b,_,h2⟩|⟨g,o,b,h1,h2,h3,h4⟩
 ·rw[h2] at d;simp at d
 ·refine⟨g,o,b,by rw[h1,d],d,h3,λi hi=>?_⟩
  have:=h4 i (m.getD i 0) (by rw[au (by omega)];simp[List.getD,au (show i<m.length by omega)]);rw[this];rfl
theorem Mm.kept{W w1:World}{m:List UInt8}{v:Value}{g o c:Nat}(h:Mm W m v g o c)(hb:Below W.heap.size W w1):Mm w1 m v g o c :=
 ⟨h.v,h.l,ap h.z hb.size,λi hi=>(hb.cell (p:=⟨g,o+i,none⟩) h.z).trans (h.c i hi)⟩
theorem zrr(a:Int)(w:World)(c:0<=a)(b:a<=65535):Calls prog 264 #[.int .u16 a] w λe w'=>e=.returned (.int .i64 (M.sg a))/\w'=w:=by
 by_cases h:32768<=a
 all_goals
  go_enter func264,ntmps264;go_wp2;go_ret;exact⟨oZ (by unfold M.sg;first|rw[Q h]|rw[G (by omega)]),U⟩
theorem zwl(a b:Int)(w:World)(f:0<=a)(c:a<=65535)(hb:0<=b)(d:b<=65535):Calls prog 219 #[.int .u16 a,.int .u16 b] w λe w'=>e=.returned (.tuple #[.int .u16 (M.addN a b),.bool (M.addC a b),.bool (M.addV a b)])/\w'=w:=by
 obtain⟨s1,g⟩:=M.sg_bd a f c;obtain⟨s2,h⟩:=M.sg_bd b hb d;by_cases i:32767<M.sg a+M.sg b
 all_goals
  go_enter func219,ntmps219;go_wp2_with (go_at_call 264;refine(zrr _ _ (by omega) (by omega)).mono ?_;rintro e w' ⟨rfl,rfl⟩)
  go_ret3
  exact⟨zh7 U U (by simp[M.addV];try omega),U⟩
theorem ztU(a b:Int)(w:World)(f:0<=a)(c:a<=65535)(hb:0<=b)(d:b<=65535):Calls prog 220 #[.int .u16 a,.int .u16 b] w λe w'=>e=.returned (.tuple #[.int .u16 (M.subN a b),.bool (M.subC a b),.bool (M.subV a b)])/\w'=w:=by
 obtain⟨s1,g⟩:=M.sg_bd a f c;obtain⟨s2,h⟩:=M.sg_bd b hb d;by_cases i:32767<M.sg a-M.sg b
 all_goals
  go_enter func220,ntmps220;go_wp2_with (go_at_call 264;refine(zrr _ _ (by omega) (by omega)).mono ?_;rintro e w' ⟨rfl,rfl⟩)
  go_ret3
  exact⟨zh7 (by unfold M.subN;omega) (by unfold M.subC;simp;try omega) (by simp[M.subV];try omega),U⟩
theorem zvc(a n:Int)(w:World)(d:0<=a)(b:a<=65535)(f:0<=n)(c:n<=15):Calls prog 147 #[.int .u16 a,.int .i64 n] w λe w'=>e=.returned (.tuple #[.int .u16 (M.shlN a n),.bool (M.shlC a n)])/\w'=w:=by
 obtain⟨N,rfl⟩:=aB f;obtain⟨g,h⟩:=M.up_shl a N d b f c;rw[<- g,<- h,bH];clear g h;go_enter func147,ntmps147;go_wp2
 go_loop [0,6,8] (λx o i=>∃ k:Nat,k<=N/\i=.int .i64 k/\x=.int .u16 (M.upTo a k)/\o=.bool (M.upOut a k)) (λ_ _ i=>N-(intOf i).toNat)
 case atStart=>exact⟨0,aU _,U,U,U⟩
 case round =>
  obtain⟨k,l,rfl,rfl,rfl⟩:=hrel;obtain⟨h1,h2⟩:=M.upTo_bd a d b k;by_cases j:k<N
  ·go_wp2
   go_round
   case rel=>exact⟨k+1,by omega,by go_num,U,U⟩
   case measure=>simp[intOf];omega
  ·go_wp2
   go_ret2
   have:k=N:=by omega
   subst this;exact⟨U,U⟩
theorem znD(a n:Int)(w:World)(h:0<=a)(b:a<=65535)(d:0<=n)(c:n<=15):Calls prog 146 #[.int .u16 a,.int .i64 n] w λe w'=>e=.returned (.tuple #[.int .u16 (M.shrN a n),.bool (M.shrC a n)])/\w'=w:=by
 obtain⟨N,rfl⟩:=aB d;obtain⟨f,g⟩:=M.down_shr a N d c;rw[<- f,<- g,bH];clear f g;go_enter func146,ntmps146;go_wp2
 go_loop [0,6,8] (λx o i=>∃ k:Nat,k<=N/\i=.int .i64 k/\x=.int .u16 (M.downTo a k)/\o=.bool (M.downOut a k)) (λ_ _ i=>N-(intOf i).toNat)
 case atStart=>exact⟨0,aU _,U,U,U⟩
 case round =>
  obtain⟨k,l,rfl,rfl,rfl⟩:=hrel;obtain⟨h1,h2⟩:=M.downTo_bd a h b k;by_cases j:k<N
  ·go_wp2
   go_round
   case rel=>exact⟨k+1,by omega,by go_num,congrArg _ (by rw[bc,aD h1];simp only[M.downTo];omega),U⟩
   case measure=>simp[intOf];omega
  ·go_wp2
   go_ret2
   have:k=N:=by omega
   subst this;exact⟨U,U⟩
theorem qN(x y:Int)(w:World):Calls prog 221 #[.int .u16 x,.int .u16 y] w λe w'=>e=.returned (.bool (M.fAnd x y))/\w'=w:=by
 go_enter func221,ntmps221;go_wp2;go_ret;exact⟨U,U⟩
theorem vO(x y:Int)(w:World):Calls prog 222 #[.int .u16 x,.int .u16 y] w λe w'=>e=.returned (.bool (M.fOr x y))/\w'=w:=by
 go_enter func222,ntmps222;go_wp2;go_ret;exact⟨U,U⟩
theorem qO(x y:Int)(w:World):Calls prog 223 #[.int .u16 x,.int .u16 y] w λe w'=>e=.returned (.bool (M.fXor x y))/\w'=w:=by
 go_enter func223,ntmps223;go_wp2;go_ret;exact⟨U,U⟩
theorem l6{P:Program}{f:FuncId}{args:Array Value}{w:World}{q n:Nat}{v:Value}
 (h:Calls P f args (w.drewN (q+n)) λe w'=>e=.returned v/\w'=w.drewN (q+n)):Calls P f args (w.drewN (q+n)) λe a=>e=.returned v /\ ∃ m,a=w.drewN (q+m) :=
 h.mono λ_ _ ⟨b,c⟩=>⟨b,n,c⟩
theorem gather_and(a b:Int)(w:World)(x y:Nat)(j:0<=a)(d:a<=65535)(hb:0<=b)(f:b<=65535)
 (p:w.cell? ⟨x,0,none⟩=some (.int .u16 a)) (r:w.cell? ⟨y,0,none⟩=some (.int .u16 b)) :
 Calls prog 218 #[.func (.func 221) #[] #[],.pointer (some ⟨x,0,none⟩),.pointer (some ⟨y,0,none⟩)] w
  λe w'=>e=.returned (.int .u16 (bits .and .u16 a b)) /\ ∃ k,w'=w.drewN k:=by
 rw[<- M.gather_and a b j d hb f];go_enter func218,ntmps218;go_wp2;go_loopw [5,7] (λn i wr=>∃ k q:Nat,k<=16/\i=.int .i64 k/\n=.int .u16 (M.gather M.fAnd a b k)/\wr=w.drewN q) (λ_ i _=>16-(intOf i).toNat)
 case atStart=>exact⟨0,0,aU _,U,U,U⟩
 case round =>
  obtain⟨k,q,s,rfl,rfl,rfl⟩:=hrel;obtain⟨g1,t⟩:=M.gather_bd M.fAnd a b k;by_cases l:k<16
  ·have hp:=M.pow_le (k+1) (by omega)
   have m:(2:Int) ^ (k+1)=2 ^ k*2:=fi _ _;have o:(2:Int) ^ k<=32768:=by omega
   clear hp m;have c:M.gather M.fAnd a b (k+1)=if M.fAnd (bits .and .u16 (a/2 ^ k) 1) (bits .and .u16 (b/2 ^ k) 1) then M.gather M.fAnd a b k+2 ^ k else M.gather M.fAnd a b k:=U
   have h:=hid c;clear c;by_cases hc:M.fAnd (bits .and .u16 (a/2 ^ k) 1) (bits .and .u16 (b/2 ^ k) 1)=true
   ·go_wp2
    go_quiet ((go_at_call 221;exact l6 (qN _ _ _)))
    go_wp2;all_goals first|(exact Bool.noConfusion (hc.symm.trans (by assumption):true=false))|skip
    go_roundw
    case rel=>exact⟨k+1,_,by omega,by go_num,by rw[h.out,Q hc],U⟩
    case measure=>simp[intOf];omega
   ·have g:M.fAnd (bits .and .u16 (a/2 ^ k) 1) (bits .and .u16 (b/2 ^ k) 1)=false:=by simpa using hc
    go_wp2;go_quiet ((go_at_call 221;exact l6 (qN _ _ _)))
    go_wp2;all_goals first|(exact Bool.noConfusion (g.symm.trans (by assumption):false=true))|skip
    go_roundw
    case rel=>exact⟨k+1,_,by omega,by go_num,by rw[h.out,G hc],U⟩
    case measure=>simp[intOf];omega
  ·go_wp2
   go_ret;have:k=16:=by omega
   subst this;exact⟨U,_,U⟩
theorem gather_or(a b:Int)(w:World)(x y:Nat)(j:0<=a)(d:a<=65535)(hb:0<=b)(f:b<=65535)
 (p:w.cell? ⟨x,0,none⟩=some (.int .u16 a)) (r:w.cell? ⟨y,0,none⟩=some (.int .u16 b)) :
 Calls prog 218 #[.func (.func 222) #[] #[],.pointer (some ⟨x,0,none⟩),.pointer (some ⟨y,0,none⟩)] w
  λe w'=>e=.returned (.int .u16 (bits .or .u16 a b)) /\ ∃ k,w'=w.drewN k:=by
 rw[<- M.gather_or a b j d hb f];go_enter func218,ntmps218;go_wp2;go_loopw [5,7] (λn i wr=>∃ k q:Nat,k<=16/\i=.int .i64 k/\n=.int .u16 (M.gather M.fOr a b k)/\wr=w.drewN q) (λ_ i _=>16-(intOf i).toNat)
 case atStart=>exact⟨0,0,aU _,U,U,U⟩
 case round =>
  obtain⟨k,q,s,rfl,rfl,rfl⟩:=hrel;obtain⟨g1,t⟩:=M.gather_bd M.fOr a b k;by_cases l:k<16
  ·have hp:=M.pow_le (k+1) (by omega)
   have m:(2:Int) ^ (k+1)=2 ^ k*2:=fi _ _;have o:(2:Int) ^ k<=32768:=by omega
   clear hp m;have c:M.gather M.fOr a b (k+1)=if M.fOr (bits .and .u16 (a/2 ^ k) 1) (bits .and .u16 (b/2 ^ k) 1) then M.gather M.fOr a b k+2 ^ k else M.gather M.fOr a b k:=U
   have h:=hid c;clear c;by_cases hc:M.fOr (bits .and .u16 (a/2 ^ k) 1) (bits .and .u16 (b/2 ^ k) 1)=true
   ·go_wp2
    go_quiet ((go_at_call 222;exact l6 (vO _ _ _)))
    go_wp2;all_goals first|(exact Bool.noConfusion (hc.symm.trans (by assumption):true=false))|skip
    go_roundw
    case rel=>exact⟨k+1,_,by omega,by go_num,by rw[h.out,Q hc],U⟩
    case measure=>simp[intOf];omega
   ·have g:M.fOr (bits .and .u16 (a/2 ^ k) 1) (bits .and .u16 (b/2 ^ k) 1)=false:=by simpa using hc
    go_wp2;go_quiet ((go_at_call 222;exact l6 (vO _ _ _)))
    go_wp2;all_goals first|(exact Bool.noConfusion (g.symm.trans (by assumption):false=true))|skip
    go_roundw
    case rel=>exact⟨k+1,_,by omega,by go_num,by rw[h.out,G hc],U⟩
    case measure=>simp[intOf];omega
  ·go_wp2
   go_ret;have:k=16:=by omega
   subst this;exact⟨U,_,U⟩
theorem gather_xor(a b:Int)(w:World)(x y:Nat)(j:0<=a)(d:a<=65535)(hb:0<=b)(f:b<=65535)
 (p:w.cell? ⟨x,0,none⟩=some (.int .u16 a)) (r:w.cell? ⟨y,0,none⟩=some (.int .u16 b)) :
 Calls prog 218 #[.func (.func 223) #[] #[],.pointer (some ⟨x,0,none⟩),.pointer (some ⟨y,0,none⟩)] w
  λe w'=>e=.returned (.int .u16 (bits .xor .u16 a b)) /\ ∃ k,w'=w.drewN k:=by
 rw[<- M.gather_xor a b j d hb f];go_enter func218,ntmps218;go_wp2;go_loopw [5,7] (λn i wr=>∃ k q:Nat,k<=16/\i=.int .i64 k/\n=.int .u16 (M.gather M.fXor a b k)/\wr=w.drewN q) (λ_ i _=>16-(intOf i).toNat)
 case atStart=>exact⟨0,0,aU _,U,U,U⟩
 case round =>
  obtain⟨k,q,s,rfl,rfl,rfl⟩:=hrel;obtain⟨g1,t⟩:=M.gather_bd M.fXor a b k;by_cases l:k<16
  ·have hp:=M.pow_le (k+1) (by omega)
   have m:(2:Int) ^ (k+1)=2 ^ k*2:=fi _ _;have o:(2:Int) ^ k<=32768:=by omega
   clear hp m;have c:M.gather M.fXor a b (k+1)=if M.fXor (bits .and .u16 (a/2 ^ k) 1) (bits .and .u16 (b/2 ^ k) 1) then M.gather M.fXor a b k+2 ^ k else M.gather M.fXor a b k:=U
   have h:=hid c;clear c;by_cases hc:M.fXor (bits .and .u16 (a/2 ^ k) 1) (bits .and .u16 (b/2 ^ k) 1)=true
   ·go_wp2
    go_quiet ((go_at_call 223;exact l6 (qO _ _ _)))
    go_wp2;all_goals first|(exact Bool.noConfusion (hc.symm.trans (by assumption):true=false))|skip
    go_roundw
    case rel=>exact⟨k+1,_,by omega,by go_num,by rw[h.out,Q hc],U⟩
    case measure=>simp[intOf];omega
   ·have g:M.fXor (bits .and .u16 (a/2 ^ k) 1) (bits .and .u16 (b/2 ^ k) 1)=false:=by simpa using hc
    go_wp2;go_quiet ((go_at_call 223;exact l6 (qO _ _ _)))
    go_wp2;all_goals first|(exact Bool.noConfusion (g.symm.trans (by assumption):false=true))|skip
    go_roundw
    case rel=>exact⟨k+1,_,by omega,by go_num,by rw[h.out,G hc],U⟩
    case measure=>simp[intOf];omega
  ·go_wp2
   go_ret;have:k=16:=by omega
   subst this;exact⟨U,_,U⟩
end Go.Proofs.YthghjlinhokimaaGreatDoor
