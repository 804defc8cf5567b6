/-
  Parts of a proof, joined.
-/
import Derived.Test.YtbhpfkjfijdmaaaGreatDoorZv39
import Derived.Lib.AtoiAllCases
import Derived.Shelf.Strconv.AtoiAll
import Derived.MapKept
import Derived.Deep.AppendLies
namespace Go.Proofs.YtbhpfkjfijdmaaaGreatDoor
open Go.ChangeShapes Go.WideShapes Go.ChangeAt Go.RowKit
set_option linter.unusedVariables false
set_option maxRecDepth 100000
set_option maxHeartbeats 3200000
theorem Tp.btn_not:∀ d:Fin 256,(32:UInt8) ∉ Tp.btn d.1/\(10:UInt8) ∉ Tp.btn d.1:=by decide +kernel
theorem Tp.itoa_32 (n:Int):(32:UInt8) ∉ Lib.itoa n:=Tp.itoa_not n 32 (by decide) (by decide)
theorem Tp.itoa_10 (n:Int):(10:UInt8) ∉ Lib.itoa n:=Tp.itoa_not n 10 (by decide) (by decide)
theorem Tp.atv_bd (a:List UInt8):-9223372036854775808<=Tp.atv a/\Tp.atv a<=9223372036854775807:=by
 unfold Tp.atv
 split
 ·rename_i v h;exact Lib.atoiAll_bounds h
 ·decide
 ·unfold Lib.atoiSat;split <;> decide
theorem Tp.wh_itoa (n:Int) (h0:-9223372036854775808<=n) (h1:n<=9223372036854775807):Tp.wh (Lib.itoa n)=some n:=by
 unfold Tp.wh
 rw [Tp.atoi_itoa n h0 h1]
 simp
theorem Tp.wh_some {a:List UInt8} {n:Int} (h:Tp.wh a=some n):Lib.itoa n=a/\Tp.atv a=n /\ -9223372036854775808<=n/\n<=9223372036854775807:=by
 have hb:=Tp.atv_bd a
 unfold Tp.wh at h
 unfold Tp.atv at hb ⊢
 split at h
 ·rename_i v hv
  try simp only [hv] at hb
  split at h
  ·rename_i e
   cases h
   exact ⟨e,rfl,hb.1,hb.2⟩
  ·cases h
 ·cases h
 ·cases h
theorem Tp.In.line_form (x:Tp.In):x.line=Lib.itoa x.c++32 :: (Lib.itoa x.p++32 :: Tp.btn x.d):=by
 unfold Tp.In.line
 simp
theorem Tp.sp_line {x:Tp.In} (h:x.d < 256):Tp.sp 32 x.line=[Lib.itoa x.c,Lib.itoa x.p,Tp.btn x.d]:=by
 rw [x.line_form,Tp.sp_at 32 _ _ (Tp.itoa_32 _),Tp.sp_at 32 _ _ (Tp.itoa_32 _),Tp.sp_no 32 _ (Tp.btn_not ⟨x.d,h⟩).1]
theorem Tp.rd_line {x:Tp.In} (h:x.ok):Tp.rd x.line=some x:=by
 unfold Tp.rd
 rw [Tp.sp_line h.d]
 simp only
 rw [Tp.wh_itoa x.c h.c0 h.c1,Tp.wh_itoa x.p h.p0 h.p1,Tp.ofb_btn h.d]
theorem Tp.rd_some {t:List UInt8} {x:Tp.In} (h:Tp.rd t=some x):x.line=t/\x.ok:=by
 unfold Tp.rd at h
 split at h
 ·rename_i a b d hs
  obtain ⟨e,ha,hb,hd⟩:=Tp.sp_three hs
  split at h
  ·rename_i n m z h1 h2 h3
   cases h
   obtain ⟨a1,a2,a3,a4⟩:=Tp.wh_some h1
   obtain ⟨b1,b2,b3,b4⟩:=Tp.wh_some h2
   obtain ⟨c1,c2⟩:=Tp.ofb_some h3
   exact ⟨by rw [Tp.In.line_form];simp only;rw [a1,b1,c2,e],⟨a3,a4,b3,b4,c1⟩⟩
  ·cases h
 ·cases h
def Tp.tri (a b d:List UInt8):Tp.In:=⟨Tp.atv a,Tp.atv b,(Tp.ofb d).getD 0⟩
theorem Tp.ofb_lt (d:List UInt8):(Tp.ofb d).getD 0 < 256:=by
 cases h:Tp.ofb d with
 | none=>decide
 | some z=>exact (Tp.ofb_some h).1
theorem Tp.tri_ok (a b d:List UInt8):(Tp.tri a b d).ok:=⟨(Tp.atv_bd a).1,(Tp.atv_bd a).2,(Tp.atv_bd b).1,(Tp.atv_bd b).2,Tp.ofb_lt d⟩
theorem Tp.rd_tri {t a b d:List UInt8} (hs:Tp.sp 32 t=[a,b,d]):Tp.rd t=if (Tp.tri a b d).line=t then some (Tp.tri a b d) else none:=by
 by_cases h:(Tp.tri a b d).line=t
 ·rw [if_pos h]
  have:=Tp.rd_line (Tp.tri_ok a b d)
  rw [h] at this
  exact this
 ·rw [if_neg h]
  cases hr:Tp.rd t with
  | none=>rfl
  | some x =>
   exfalso
   obtain ⟨h1,h2⟩:=Tp.rd_some hr
   unfold Tp.rd at hr
   rw [hs] at hr
   simp only at hr
   split at hr
   ·rename_i n m z e1 e2 e3
    cases hr
    obtain ⟨a1,a2,a3,a4⟩:=Tp.wh_some e1
    obtain ⟨b1,b2,b3,b4⟩:=Tp.wh_some e2
    refine h ?_
    unfold Tp.tri
    rw [a2,b2,e3]
    exact h1
   ·cases hr
theorem Tp.rd_other {t:List UInt8} (hs:(Tp.sp 32 t).length ≠ 3):Tp.rd t=none:=by
 unfold Tp.rd
 split
 ·rename_i a b d e
  rw [e] at hs
  exact absurd rfl hs
 ·rfl
/-! ### lines -/
def Tp.rdA:List (List UInt8)->Nat->Except Nat (List Tp.In)
 | [],_=>.ok []
 | [t],i=>if t=[] then .ok [] else .error i
 | t :: u :: ls,i=>match Tp.rd t with
  | none=>.error i
  | some x=>match Tp.rdA (u :: ls) (i+1) with
   | .error k=>.error k
   | .ok l=>.ok (x :: l)
def Tp.aft (acc:List Tp.In):Except Nat (List Tp.In)->Except Nat (List Tp.In)
 | .error k=>.error k
 | .ok l=>.ok (acc++l)
theorem Tp.rdA_no {t u:List UInt8} {ls:List (List UInt8)} {i:Nat} (h:Tp.rd t=none):Tp.rdA (t :: u :: ls) i = .error i:=by rw [Tp.rdA,h]
theorem Tp.rdA_yes {t u:List UInt8} {ls:List (List UInt8)} {i:Nat} {x:Tp.In} (h:Tp.rd t=some x):Tp.rdA (t :: u :: ls) i=Tp.aft [x] (Tp.rdA (u :: ls) (i+1)):=by
 rw [Tp.rdA,h]
 cases Tp.rdA (u :: ls) (i+1) <;> rfl
theorem Tp.aft_aft (a b:List Tp.In) (e:Except Nat (List Tp.In)):Tp.aft a (Tp.aft b e)=Tp.aft (a++b) e:=by
 cases e <;> simp [Tp.aft]
theorem Tp.line_10 {x:Tp.In} (h:x.d < 256):(10:UInt8) ∉ x.line:=by
 rw [x.line_form]
 simp only [List.mem_append,List.mem_cons,not_or]
 exact ⟨Tp.itoa_10 _,by decide,Tp.itoa_10 _,by decide,(Tp.btn_not ⟨x.d,h⟩).2⟩
theorem Tp.rdA_text:∀ (l:List Tp.In) (i:Nat),(∀ x ∈ l,x.ok)->Tp.rdA (Tp.sp 10 (Tp.text l)) i = .ok l
 | [],i,_=>rfl
 | x :: l,i,h=>by
  have hx:=h x (List.mem_cons_self ..)
  have ih:=Tp.rdA_text l (i+1) (fun y hy=>h y (List.mem_cons_of_mem _ hy))
  have e:Tp.text (x :: l)=x.line++10 :: Tp.text l:=by unfold Tp.text;simp
  rw [e,Tp.sp_at 10 _ _ (Tp.line_10 hx.d)]
  cases hs:Tp.sp 10 (Tp.text l) with
  | nil=>exact absurd hs (Tp.sp_ne _ _)
  | cons u ls =>
   rw [hs] at ih
   rw [Tp.rdA_yes (Tp.rd_line hx),ih]
   rfl
def Tp.prsL (s:List UInt8):List Tp.In:=if 4000 < s.length then [] else match Tp.rdA (Tp.sp 10 s) 0 with
 | .error _=>[]
 | .ok l=>if Tp.chkIn l 0=0 then l else []
def Tp.prsN (s:List UInt8):Nat:=if 4000 < s.length then 0 else match Tp.rdA (Tp.sp 10 s) 0 with
 | .error k=>k
 | .ok l=>0
def Tp.prsE (s:List UInt8):Int:=if 4000 < s.length then 2 else match Tp.rdA (Tp.sp 10 s) 0 with
 | .error k=>1
 | .ok l=>Tp.chkIn l 0
theorem Tp.prs_text {l:List Tp.In} (h:∀ x ∈ l,x.ok) (hl:(Tp.text l).length<=4000) (hc:Tp.chkIn l 0=0):Tp.prsL (Tp.text l)=l/\Tp.prsN (Tp.text l)=0/\Tp.prsE (Tp.text l)=0:=by
 have hn:¬ 4000 < (Tp.text l).length:=by omega
 unfold Tp.prsL Tp.prsN Tp.prsE
 rw [if_neg hn,if_neg hn,if_neg hn,Tp.rdA_text l 0 h]
 simp only [hc,if_true,and_self]
theorem Tp.st_drewN {w a:World} (h:Below w.heap.size w a) (k:Nat):Below w.heap.size w (a.drewN k):=by
 induction k with
 | zero=>exact h
 | succ k ih=>exact ih.drew
theorem Tp.cut_any (l sep:List UInt8) (hl:l.length<=10000) (w:World) (hF:Tp.F w) :
 Calls Tryz.prog 57 #[.string (mk l),.string (mk sep)] w fun e w'=>e = .returned (.tuple #[.string (mk (Lib.cut l sep).1),.string (mk (Lib.cut l sep).2.1),.bool (Lib.cut l sep).2.2])/\Below w.heap.size w w':=by
 obtain ⟨m,hm⟩:=hF.len
 refine (Tryz.strings_Cut (mk l) (mk sep) m w (by show l.length < 4294967281;omega) hm).mono fun e w' ⟨he,n,hw⟩=>⟨he,?_⟩
 subst hw
 exact Tp.st_drewN (st0 w) n
def Tp.strsAt (w:World) (g:Nat) (ps:List (List UInt8)):Prop:=∀ (j:Nat) (s:List UInt8),ps[j]? = some s->w.cell? ⟨g,j,none⟩=some (.string (mk s))
theorem Tp.strsAt.kept {w w':World} {g:Nat} {ps:List (List UInt8)} (h:Tp.strsAt w g ps) (hg:g < w.heap.size) (hb:Below w.heap.size w w'):Tp.strsAt w' g ps:=fun j s hj=>(hb.cell (p:=⟨g,j,none⟩) hg).trans (h j s hj)
theorem Tp.mk_bs (s:ByteArray):mk s.data.toList=s:=by obtain ⟨⟨l⟩⟩:=s;rfl
theorem Tp.split_any (c:UInt8) (t:List UInt8) (hl:t.length<=10000) (w:World) (hF:Tp.F w) :
 Calls Tryz.prog 98 #[.string (mk t),.string (mk [c])] w fun e w'=>e = .returned (.slice (some ⟨w.heap.size,0,none⟩) (Tp.sp c t).length (Tp.sp c t).length)/\Tp.strsAt w' w.heap.size (Tp.sp c t)/\w.heap.size < w'.heap.size/\Below w.heap.size w w':=by
 obtain ⟨m,hm⟩:=hF.len
 have hd:=Lib.splitB_data (mk [c]) 0 (Lib.countB (mk t) (mk [c])) (mk t)
 have hlen:=Lib.splitB_all (mk [c]) (by show 1<=1;omega) 0 _ (mk t) rfl
 have hsp:(Lib.splitB (mk [c]) 0 (Lib.countB (mk t) (mk [c])) (mk t)).map (·.data.toList)=Tp.sp c t:=hd.trans (Tp.split_eq c t)
 have hl2:(Tp.sp c t).length=Lib.countB (mk t) (mk [c])+1:=by rw [<- hsp,List.length_map,hlen]
 refine (Tryz.strings_Split (mk t) (mk [c]) m w (by show t.length < 4294967281;omega) hm (by show 1<=1;omega)).mono fun e w' ⟨he,hw⟩=>?_
 subst hw
 refine ⟨by rw [he,hl2],fun j s hj=>?_,by simp,stA (st0 _) _⟩
 rw [Pl.new _ _ _ _ rfl,List.getElem?_toArray,List.getElem?_map]
 rw [<- hsp,List.getElem?_map] at hj
 cases hx:(Lib.splitB (mk [c]) 0 (Lib.countB (mk t) (mk [c])) (mk t))[j]? with
 | none=>rw [hx] at hj;cases hj
 | some x =>
  rw [hx] at hj
  cases hj
  simp [Tp.mk_bs]
theorem Tp.atoi_any (a:List UInt8) (hl:a.length<=10000) (w:World) (hF:Tp.F w) :
 Calls Tryz.prog 99 #[.string (mk a)] w fun e w'=>∃ ev,e = .returned (.tuple #[.int .i64 (Tp.atv a),ev])/\Below w.heap.size w w':=by
 obtain ⟨e1,h1,k1⟩:=hF.syn
 obtain ⟨e2,h2,k2⟩:=hF.ran
 have hs:(mk a).size=a.length:=rfl
 unfold Tp.atv
 cases hh:Lib.atoiAll a with
 | ok v =>
  refine (Tryz.strconv_Atoi_ok (mk a) (by omega) v hh w).mono fun e w' h=>⟨_,h.1,?_⟩
  rcases h.2 with rfl | ⟨t,rfl⟩
  ·exact st0 _
  ·exact Joins.below_bytesWorld _ _ _ _ (Nat.le_refl _)
 | «syntax»=>exact (Any.strconv_Atoi_syntax Tryz.laysC172 (mk a) (by omega) hh e1 w h1 k1).mono fun e w' ⟨N,he,_,_,hb⟩=>⟨_,he,hb⟩
 | range=>exact (Any.strconv_Atoi_range Tryz.laysC172 (mk a) (by omega) hh e2 w h2 k2).mono fun e w' ⟨N,he,_,_,hb⟩=>⟨_,he,hb⟩
theorem Tp.info_in:(Tryz.prog.info? 54).map (·.size)=some 3:=by kernel_rfl
theorem Tp.load_in {W:World} {q:Nat} {x:Tp.In} (h:Bx W q x.val.toList):(loadVar 54 ⟨q,0,none⟩).run Tryz.prog W = .ok (.agg x.val) W :=
 run_loadVar_mid W q 0 54 _ _ h.c Tryz.underlying54 rfl Tp.info_in
def Tp.In.zero:Tp.In:=⟨0,0,0⟩
structure Tp.Ol (w : World) (g : Nat) (ps : List (List UInt8)) (Y : World) : Prop where
 low:Below w.heap.size w Y
 fc:Tp.F Y
 bx:Bx Y w.heap.size Tp.In.zero.val.toList
 gz:g < Y.heap.size
 st:Tp.strsAt Y g ps
theorem Tp.Ol.kept {w:World} {g:Nat} {ps:List (List UInt8)} {Y Y':World} (h:Tp.Ol w g ps Y) (hb:Below Y.heap.size Y Y'):Tp.Ol w g ps Y' :=
 ⟨stp h.low hb,h.fc.kept hb,h.bx.kept hb,Nat.lt_of_lt_of_le h.gz hb.size,h.st.kept h.gz hb⟩
theorem Tp.ol_start {w:World} {ps:List (List UInt8)} {Y:World} {o:Obj} {g:Nat} (hg:g=(w.alloc o).heap.size) (ho:o = .cells Tp.In.zero.val 54) (hF:Tp.F w) (hst:Tp.strsAt Y (w.alloc o).heap.size ps) (hz:(w.alloc o).heap.size < Y.heap.size) (hb:Below (w.alloc o).heap.size (w.alloc o) Y):Tp.Ol w g ps Y:=by
 subst hg
 subst ho
 exact ⟨stp (stA (st0 w) _) hb,(hF.kept (stA (st0 w) _)).kept hb,(Bx.new w Tp.In.zero.val.toList _ rfl).kept hb,hz,hst⟩
theorem Tp.ol_fin {w:World} {Y:World} (hl:Below w.heap.size w Y) (h:Bx Y w.heap.size Tp.In.zero.val.toList) (x:Tp.In):Below w.heap.size w (Y.setCells w.heap.size 0 x.val.toList)/\Bx (Y.setCells w.heap.size 0 x.val.toList) w.heap.size x.val.toList :=
 ⟨Pl.below (Nat.le_refl _) _ 0 Y hl,h.puts 0 x.val.toList (by show 0+3<=3;omega)⟩
def Tp.tell (o:Option Tp.In):Value:=.tuple #[.agg (o.getD Tp.In.zero).val,.int .i64 (if o.isSome then 0 else 1)]
theorem Tp.ofLine_any (t:List UInt8) (ht:t.length<=4000) (w:World) (hF:Tp.F w) :
 Calls Tryz.prog 58 #[.string (mk t)] w fun e w'=>e = .returned (Tp.tell (Tp.rd t))/\Below w.heap.size w w':=by
 have HF0:=hid hF
 have HSP:=hid (fun (w1:World) (h1:Tp.F w1)=>Tp.split_any 32 t (by omega) w1 h1)
 have hmem:=Tp.sp_mem 32 t
 by_cases h3:(Tp.sp 32 t).length=3
 ·obtain ⟨a,b,d,hs⟩:∃ a b d,Tp.sp 32 t=[a,b,d]:=by
   match h:Tp.sp 32 t,h3 with
   | [a,b,d],_=>exact ⟨a,b,d,rfl⟩
  have ha:a.length<=4000:=Nat.le_trans (hmem a (by rw [hs];simp)).2 ht
  have hb:b.length<=4000:=Nat.le_trans (hmem b (by rw [hs];simp)).2 ht
  have hrd:=Tp.rd_tri hs
  rw [hs] at HSP
  clear hmem h3 hF
  have HLN:Hid (∀ w1,Tp.F w1->Calls Tryz.prog 60 #[.agg #[.int .i64 (Tp.atv a),.int .i64 (Tp.atv b),.int .u8 (Tp.ofbN d)]] w1 fun e w'=>e = .returned (.string (mk (Tp.tri a b d).line))/\Below w1.heap.size w1 w'):=hid (fun w1 h1=>Tp.line_any (Tp.tri a b d) (Tp.tri_ok a b d) w1 h1)
  by_cases he:(Tp.tri a b d).line=t
  ·rw [if_pos he] at hrd
   rw [hrd]
   have hne:((mk (Tp.tri a b d).line).toList == (mk t).toList)=true:=by
    rw [mk_toList,mk_toList]
    simpa using he
   generalize hln:mk (Tp.tri a b d).line=ln at *
   go_enter Tryz.func58,Tryz.ntmps58
   go_wp2_with (first
    | (go_at_call 60;refine (HLN.out _ (HO3.out.kept (stA (st0 _) _)).fc).mono ?_;rintro e w5 ⟨rfl,hb5⟩;have HO5:=hid ((HO3.out.kept (stA (st0 _) _)).kept hb5);have hbx:=HO5.out.bx;have y0:=hbx.at 0 _ rfl;have y1:=hbx.at 1 _ rfl;have y2:=hbx.at 2 _ rfl;have yz:=hbx.z;have yf:=hbx.f;clear hbx;have HX5:=hid ((Bx.new w3 (Tp.tri a b d).val.toList 54 rfl).kept hb5);have hx5:=HX5.out;have x0:=hx5.at 0 _ rfl;have x1:=hx5.at 1 _ rfl;have x2:=hx5.at 2 _ rfl;have xz:=hx5.z;clear hb5 hx5)
    | (go_at_call 100;refine (Tp.ofButtons_any d _).mono ?_;rintro e w4 ⟨rfl,rfl⟩)
    | (go_at_call 99;have hq:=HO2.out;clear hq;refine (Tp.atoi_any b (by omega) _ HO2.out.fc).mono ?_;rintro e w3 ⟨ev3,rfl,hb3⟩;have HO3:=hid (HO2.out.kept hb3);have y2:=HO3.out.st 2 d rfl;have yz:=HO3.out.gz;clear hb3)
    | (go_at_call 99;refine (Tp.atoi_any a (by omega) _ HO1.out.fc).mono ?_;rintro e w2 ⟨ev2,rfl,hb2⟩;have HO2:=hid (HO1.out.kept hb2);have z1:=HO2.out.st 1 b rfl;have zz:=HO2.out.gz;clear hb2)
    | (go_at_call 98;refine (HSP.out _ (HF0.out.kept (stA (st0 w) _))).mono ?_;rintro e w1 ⟨rfl,hst,hz,hb1⟩;have HO1:=hid (Tp.ol_start (g:=w.heap.size+1) (by simp) rfl HF0.out hst hz hb1);have s0:=HO1.out.st 0 a rfl;have sz:=HO1.out.gz;clear hst hz hb1))
   refine Pl.cutB (fun Z=>Below w.heap.size w Z/\Bx Z w.heap.size (Tp.tri a b d).val.toList) (Tp.ol_fin HO5.out.low HO5.out.bx (Tp.tri a b d)) ?_
   rintro Z ⟨hZ,hR⟩
   have hld:=Tp.load_in hR
   refine bodyPost_ret (v:=Tp.tell (some (Tp.tri a b d))) ?_ rfl ⟨rfl,hZ⟩
   simp only [results,Tryz.results58]
   simp
   show (Result.andThen (Sem.run Tryz.prog (loadVar 54 ⟨w.heap.size,0,none⟩) Z) _)=_
   rw [hld]
   rfl
  ·rw [if_neg he] at hrd
   rw [hrd]
   have hne:((mk (Tp.tri a b d).line).toList == (mk t).toList)=false:=by
    rw [mk_toList,mk_toList]
    simpa using he
   generalize hln:mk (Tp.tri a b d).line=ln at *
   go_enter Tryz.func58,Tryz.ntmps58
   go_wp2_with (first
    | (go_at_call 60;refine (HLN.out _ (HO3.out.kept (stA (st0 _) _)).fc).mono ?_;rintro e w5 ⟨rfl,hb5⟩;have HO5:=hid ((HO3.out.kept (stA (st0 _) _)).kept hb5);have hbx:=HO5.out.bx;have y0:=hbx.at 0 _ rfl;have y1:=hbx.at 1 _ rfl;have y2:=hbx.at 2 _ rfl;have yz:=hbx.z;have yf:=hbx.f;clear hbx;have HX5:=hid ((Bx.new w3 (Tp.tri a b d).val.toList 54 rfl).kept hb5);have hx5:=HX5.out;have x0:=hx5.at 0 _ rfl;have x1:=hx5.at 1 _ rfl;have x2:=hx5.at 2 _ rfl;have xz:=hx5.z;clear hb5 hx5)
    | (go_at_call 100;refine (Tp.ofButtons_any d _).mono ?_;rintro e w4 ⟨rfl,rfl⟩)
    | (go_at_call 99;have hq:=HO2.out;clear hq;refine (Tp.atoi_any b (by omega) _ HO2.out.fc).mono ?_;rintro e w3 ⟨ev3,rfl,hb3⟩;have HO3:=hid (HO2.out.kept hb3);have y2:=HO3.out.st 2 d rfl;have yz:=HO3.out.gz;clear hb3)
    | (go_at_call 99;refine (Tp.atoi_any a (by omega) _ HO1.out.fc).mono ?_;rintro e w2 ⟨ev2,rfl,hb2⟩;have HO2:=hid (HO1.out.kept hb2);have z1:=HO2.out.st 1 b rfl;have zz:=HO2.out.gz;clear hb2)
    | (go_at_call 98;refine (HSP.out _ (HF0.out.kept (stA (st0 w) _))).mono ?_;rintro e w1 ⟨rfl,hst,hz,hb1⟩;have HO1:=hid (Tp.ol_start (g:=w.heap.size+1) (by simp) rfl HF0.out hst hz hb1);have s0:=HO1.out.st 0 a rfl;have sz:=HO1.out.gz;clear hst hz hb1))
   refine Pl.cutB (fun Z=>Below w.heap.size w Z/\Bx Z w.heap.size Tp.In.zero.val.toList) (Tp.ol_fin HO5.out.low HO5.out.bx Tp.In.zero) ?_
   rintro Z ⟨hZ,hR⟩
   have hld:=Tp.load_in hR
   refine bodyPost_ret (v:=Tp.tell none) ?_ rfl ⟨rfl,hZ⟩
   simp only [results,Tryz.results58]
   simp
   show (Result.andThen (Sem.run Tryz.prog (loadVar 54 ⟨w.heap.size,0,none⟩) Z) _)=_
   rw [hld]
   rfl
 ·rw [Tp.rd_other h3]
  have h3':¬ ((Tp.sp 32 t).length:Int)=3:=by omega
  generalize hn:(Tp.sp 32 t).length=n at *
  clear h3 hmem hF
  go_enter Tryz.func58,Tryz.ntmps58
  go_wp2_with (go_at_call 98;refine (HSP.out _ (HF0.out.kept (stA (st0 w) _))).mono ?_;rintro e w1 ⟨rfl,hst,hz,hb1⟩;have HO:=hid (Tp.ol_start (g:=w.heap.size+1) (by simp) rfl HF0.out hst hz hb1);have hbx:=HO.out.bx;have y0:=hbx.at 0 _ rfl;have y1:=hbx.at 1 _ rfl;have y2:=hbx.at 2 _ rfl;have yz:=hbx.z;have yf:=hbx.f;clear hst hz hb1 hbx)
  refine Pl.cutB (fun Z=>Below w.heap.size w Z/\Bx Z w.heap.size Tp.In.zero.val.toList) (Tp.ol_fin HO.out.low HO.out.bx Tp.In.zero) ?_
  rintro Z ⟨hZ,hR⟩
  have hld:=Tp.load_in hR
  refine bodyPost_ret (v:=Tp.tell none) ?_ rfl ⟨rfl,hZ⟩
  simp only [results,Tryz.results58]
  simp
  show (Result.andThen (Sem.run Tryz.prog (loadVar 54 ⟨w.heap.size,0,none⟩) Z) _)=_
  rw [hld]
  rfl
theorem Tp.row_cells {w:World} {B z n:Nat} {t:TypeId} {v:Value} {xs:List Value} (h:w.ownsRow B t z v n xs) (h0:0 < n):∃ g cap,v = .slice (some ⟨g,0,none⟩) n cap/\n<=cap/\g < w.heap.size /\ ∀ j x,xs[j]? = some x->w.cell? ⟨g,j,none⟩=some x:=by
 rcases h.2 with ⟨e0,e1⟩ | ⟨g,cap,cur,e0,hb,hg,hn,hm,hs,ht⟩
 ·omega
 ·refine ⟨g,cap,e0,hn,(Array.getElem?_eq_some_iff.1 hg).1,fun j x hj=>?_⟩
  rw [<- ht] at hj
  have hjl:j < n * z:=by
   have:=(List.getElem?_eq_some_iff.1 hj).1
   rw [List.length_take] at this;omega
  rw [List.getElem?_take_of_lt hjl,Array.getElem?_toList] at hj
  unfold World.cell?
  simp [hg,hj]
theorem Tp.row_len {w:World} {B z n:Nat} {t:TypeId} {v:Value} {xs:List Value} (h:w.ownsRow B t z v n xs):∃ a c,v = .slice a n c:=by
 rcases h.2 with ⟨e0,e1⟩ | ⟨g,cap,cur,e0,_⟩
 ·exact ⟨none,0,by rw [e0,e1]⟩
 ·exact ⟨_,_,e0⟩
theorem Tp.row_kept {B z n:Nat} {t:TypeId} {v:Value} {xs:List Value} {w w1:World} (h:w.ownsRow B t z v n xs) (hb:Below w.heap.size w w1):w1.ownsRow B t z v n xs:=h.kept (Tp.grown_of_below hb) (Tp.own_none v)
theorem Tp.appOne {ops:Array Oper} {rest:List Oper} {o:Oper} {a:Act} {Q:Exit->Act->World->Prop} {ts t:TypeId} {zv:Value} {y z n B:Nat} {w:World} {v:Value} {xs:List Value} (hts:Tryz.prog.underlying ts=some (.slice t)) (hinf:(Tryz.prog.info? t).map (fun i=>(i.zero,i.size,i.bytes))=some (some zv,z,y)) (hzs:zv.cells.size=z) (hz:0 < z)
 (hgd:o.guard=none) (s x:Operand) (ho:o.op = .call { callee:=.builtin .append,args:=#[s,x],argTypes:=#[ts,ts] }) (hs:a.eval s=v) (hown:w.ownsRow B t z v n xs) (g c:Nat) (hx:a.eval x = .slice (some ⟨g,0,none⟩) 1 c) {ys:List Value} (hl:ys.length=z) (hc:∀ j u,ys[j]? = some u->w.cell? ⟨g,j,none⟩=some u) (h1:∀ u ∈ ys,u.oneCell'=true) (hb:n<=140737488355327) (hby:(n+1) * y<=140737488355328) (hB:B<=w.heap.size)
 (h:∀ v' w',w'.ownsRow B t z v' (n+1) (xs++ys)->Below B w w'->wpList Tryz.prog ops Q rest (a.put o.dst v') w'):wpList Tryz.prog ops Q (o :: rest) a w:=by
 obtain ⟨i0,hi0,hz0,hz1,hz2⟩:=info_parts hinf
 refine wpList_append_lies _ hgd s x _ ho B t i0 zv z y hts hi0 hz0 hz1 hz2 hzs hz v n xs hs hown ⟨g,0,none⟩ 1 c ys hx (by omega) (fun j u hj=>by rw [addr_add,Nat.zero_add];exact hc j u hj) h1 (by omega) (by unfold maxLen;omega) hby hB w.heap.size rfl ?_
 intro g' cap w' hown' hgrow _ _
 exact h _ w' hown' ((Below.refl B w).grown hgrow hB (fun k hk=>(hown.lt k hk).1))
/-! ### inputs -/
def Tp.ics:List Tp.In->List Value
 | []=>[]
 | x :: l=>.int .i64 x.c :: .int .i64 x.p :: .int .u8 x.d :: Tp.ics l
theorem Tp.ics_app:∀ l k:List Tp.In,Tp.ics (l++k)=Tp.ics l++Tp.ics k
 | [],k=>rfl
 | x :: l,k=>by simp only [Tp.ics,List.cons_append,Tp.ics_app l k]
theorem Tp.ics_at:∀ (l:List Tp.In) (j:Nat) (x:Tp.In),l[j]? = some x->(Tp.ics l)[3 * j]? = some (.int .i64 x.c)/\(Tp.ics l)[3 * j+1]? = some (.int .i64 x.p)/\(Tp.ics l)[3 * j+2]? = some (.int .u8 x.d)
 | [],j,x,h=>by simp at h
 | y :: l,0,x,h=>by
  simp only [List.getElem?_cons_zero,Option.some.injEq] at h
  subst h
  exact ⟨rfl,rfl,rfl⟩
 | y :: l,j+1,x,h=>by
  rw [List.getElem?_cons_succ] at h
  obtain ⟨h1,h2,h3⟩:=Tp.ics_at l j x h
  rw [show 3 * (j+1)=3 * j+1+1+1 by omega]
  exact ⟨h1,h2,h3⟩
theorem Tp.own_in {w:World} {B:Nat} {v:Value} {l:List Tp.In} (h:w.ownsRow B 54 3 v l.length (Tp.ics l)):Tp.InAt w.heap.size w v l:=by
 by_cases h0:l=[]
 ·subst h0
  obtain ⟨a,c,e⟩:=Tp.row_len h
  exact Or.inl ⟨rfl,a,c,e⟩
 ·have hl:0 < l.length:=by cases l with | nil=>exact absurd rfl h0 | cons _ _=>simp
  obtain ⟨g,cap,e,h1,h2,h3⟩:=Tp.row_cells h hl
  refine Or.inr ⟨g,0,cap,e,h1,h2,h2,fun j x hj=>?_⟩
  obtain ⟨q1,q2,q3⟩:=Tp.ics_at l j x hj
  rw [Nat.zero_add]
  exact ⟨h3 _ _ q1,h3 _ _ q2,h3 _ _ q3⟩
theorem Tp.info_in3:(Tryz.prog.info? 54).map (fun i=>(i.zero,i.size,i.bytes))=some (some (.agg #[.int .i64 0,.int .i64 0,.int .u8 0]),3,24):=by kernel_rfl
theorem Tp.run_bin (c p d:Int) (w:World):(Instr.buildSlice 42 1 #[(0,.agg #[.int .i64 c,.int .i64 p,.int .u8 d])]).run Tryz.prog w = .ok (.slice (some ⟨w.heap.size,0,none⟩) 1 1) (w.alloc (.cells #[.int .i64 c,.int .i64 p,.int .u8 d] 54)):=by kernel_rfl
theorem Tp.in_one (x:Tp.In):∀ u ∈ Tp.ics [x],u.oneCell'=true:=fun u hu=>by
 simp only [Tp.ics,List.mem_cons,List.not_mem_nil,or_false] at hu
 rcases hu with rfl | rfl | rfl <;> rfl
theorem Tp.in_cells (w:World) (x:Tp.In) (t:TypeId) {b:Nat} (hb:b=w.heap.size):∀ j u,(Tp.ics [x])[j]? = some u->(w.alloc (.cells #[.int .i64 x.c,.int .i64 x.p,.int .u8 x.d] t)).cell? ⟨b,j,none⟩=some u:=fun j u hj=>by
 subst hb
 exact (Bx.new w [.int .i64 x.c,.int .i64 x.p,.int .u8 x.d] t (b:=w.heap.size) rfl).at j u hj
structure Tp.Pw (w : World) (s0 : List UInt8) (l : List Tp.In) (s : List UInt8) (v : Value) (Y : World) : Prop where
 low:Below w.heap.size w Y
 fc:Tp.F Y
 row:Y.ownsRow w.heap.size 54 3 v l.length (Tp.ics l)
 eq:Tp.rdA (Tp.sp 10 s0) 0=Tp.aft l (Tp.rdA (Tp.sp 10 s) l.length)
 ok:∀ x ∈ l,x.ok
 len:s.length+l.length<=s0.length
theorem Tp.Pw.kept {w:World} {s0:List UInt8} {l:List Tp.In} {s:List UInt8} {v:Value} {Y Y':World} (h:Tp.Pw w s0 l s v Y) (hb:Below Y.heap.size Y Y'):Tp.Pw w s0 l s v Y' :=
 ⟨stp h.low hb,h.fc.kept hb,Tp.row_kept h.row hb,h.eq,h.ok,h.len⟩
theorem Tp.pw_no {s0 s:List UInt8} {l:List Tp.In} (h:Tp.rdA (Tp.sp 10 s0) 0=Tp.aft l (Tp.rdA (Tp.sp 10 s) l.length)) (hl:¬ 4000 < s0.length) (hs:Tp.rdA (Tp.sp 10 s) l.length = .error l.length):Tp.prsL s0=[]/\Tp.prsN s0=l.length/\Tp.prsE s0=1:=by
 rw [hs] at h
 unfold Tp.prsL Tp.prsN Tp.prsE
 rw [if_neg hl,if_neg hl,if_neg hl,h]
 exact ⟨rfl,rfl,rfl⟩
theorem Tp.rdA_last {s:List UInt8} {i:Nat} (h:(10:UInt8) ∉ s) (h0:s ≠ []):Tp.rdA (Tp.sp 10 s) i = .error i:=by
 rw [Tp.sp_no 10 s h,Tp.rdA,if_neg h0]
theorem Tp.rdA_at {u r:List UInt8} {i:Nat} (h:(10:UInt8) ∉ u) (hr:Tp.rd u=none):Tp.rdA (Tp.sp 10 (u++10 :: r)) i = .error i:=by
 rw [Tp.sp_at 10 r u h]
 cases hs:Tp.sp 10 r with
 | nil=>exact absurd hs (Tp.sp_ne _ _)
 | cons t ls=>exact Tp.rdA_no hr
theorem Tp.rdA_go {u r:List UInt8} {i:Nat} {x:Tp.In} (h:(10:UInt8) ∉ u) (hr:Tp.rd u=some x):Tp.rdA (Tp.sp 10 (u++10 :: r)) i=Tp.aft [x] (Tp.rdA (Tp.sp 10 r) (i+1)):=by
 rw [Tp.sp_at 10 r u h]
 cases hs:Tp.sp 10 r with
 | nil=>exact absurd hs (Tp.sp_ne _ _)
 | cons t ls=>exact Tp.rdA_yes hr
theorem Tp.Pw.next {w:World} {s0:List UInt8} {l:List Tp.In} {u r:List UInt8} {x:Tp.In} {v v':Value} {Y Y':World} (h:Tp.Pw w s0 l (u++10 :: r) v Y) (hu:(10:UInt8) ∉ u) (hr:Tp.rd u=some x) (hb:Below w.heap.size Y Y') (hf:Tp.F Y') (hrow:Y'.ownsRow w.heap.size 54 3 v' (l.length+1) (Tp.ics l++Tp.ics [x])):Tp.Pw w s0 (l++[x]) r v' Y':=by
 refine ⟨h.low.trans hb,hf,?_,?_,fun y hy=>?_,?_⟩
 ·rw [List.length_append,Tp.ics_app];exact hrow
 ·rw [h.eq,Tp.rdA_go hu hr,Tp.aft_aft,List.length_append];rfl
 ·rcases List.mem_append.1 hy with e | e
  ·exact h.ok y e
  ·rw [List.mem_singleton] at e;subst e;exact (Tp.rd_some hr).2
 ·have:=h.len
  simp only [List.length_append,List.length_cons,List.length_nil] at this ⊢
  omega
theorem Tp.Pw.done {w:World} {s0:List UInt8} {l:List Tp.In} {v:Value} {Y:World} (h:Tp.Pw w s0 l [] v Y) (hl:¬ 4000 < s0.length):Tp.prsL s0=(if Tp.chkIn l 0=0 then l else [])/\Tp.prsN s0=0/\Tp.prsE s0=Tp.chkIn l 0:=by
 have e:Tp.rdA (Tp.sp 10 s0) 0 = .ok l:=by rw [h.eq];simp [Tp.sp,Tp.rdA,Tp.aft]
 unfold Tp.prsL Tp.prsN Tp.prsE
 rw [if_neg hl,if_neg hl,if_neg hl,e]
 exact ⟨rfl,rfl,rfl⟩
theorem Tp.mk_empty (l:List UInt8):(mk l).toList.isEmpty=l.isEmpty:=by rw [mk_toList]
theorem Tp.parse_any (s:List UInt8) (w:World) (hF:Tp.F w) :
 Calls Tryz.prog 35 #[.string (mk s)] w fun e w'=>∃ v,e = .returned (.tuple #[v,.int .i64 (Tp.prsN s),.int .i64 (Tp.prsE s)])/\w'.ownsRow w.heap.size 54 3 v (Tp.prsL s).length (Tp.ics (Tp.prsL s))/\(∀ x ∈ Tp.prsL s,x.ok)/\Below w.heap.size w w':=by
 by_cases hl:4000 < s.length
 ·have e1:Tp.prsL s=[]:=if_pos hl
  have e2:Tp.prsN s=0:=if_pos hl
  have e3:Tp.prsE s=2:=if_pos hl
  rw [e1,e2,e3]
  have hs:(4000:Int) < (mk s).size:=by show (4000:Int) < s.length;omega
  clear e1 e2 e3 hF
  go_enter Tryz.func35,Tryz.ntmps35
  go_wp2
  go_ret3
  exact ⟨_,rfl,⟨rfl,Or.inl ⟨rfl,rfl⟩⟩,fun x hx=>(by cases hx),st0 w⟩
 ·have hs:¬ (4000:Int) < (mk s).size:=by show ¬ (4000:Int) < s.length;omega
  have HL:=hid hl
  have H0:Hid (Tp.Pw w s [] s (.slice none 0 0) w):=hid ⟨st0 w,hF,⟨rfl,Or.inl ⟨rfl,rfl⟩⟩,by cases Tp.rdA (Tp.sp 10 s) 0 <;> rfl,fun x hx=>(by cases hx),by simp⟩
  clear hF
  go_enter Tryz.func35,Tryz.ntmps35
  go_wp2
  go_loopw [0,2] (fun t v wr=>∃ (l:List Tp.In) (r:List UInt8),t = .string (mk r)/\Tp.Pw w s l r v wr) (fun t _ _=>match t with | .string b=>b.size | _=>0)
  case atStart=>exact ⟨[],s,rfl,H0.out⟩
  case round =>
   obtain ⟨l,r,rfl,hw⟩:=hrel
   have HW:=hid hw
   obtain ⟨ra,rc,rfl⟩:=Tp.row_len hw.row
   have hlen:=hw.len
   by_cases hr:r=[]
   ·subst hr
    obtain ⟨e1,e2,e3⟩:=hw.done HL.out
    have HE:=hid (And.intro e1 (And.intro e2 e3))
    have hem:(mk ([]:List UInt8)).toList.isEmpty=true:=by rw [Tp.mk_empty];rfl
    clear hw e1 e2 e3
    have HCK:=hid (Tp.checkInputs l (.slice ra l.length rc) wr.heap.size 0 wr (Tp.own_in HW.out.row) (Nat.le_refl _))
    by_cases hc:Tp.chkIn l 0=0
    ·have HC:=hid hc
     rw [hc] at HCK
     clear hc
     go_wp2_with (go_at_call 48;refine HCK.out.mono ?_;rintro e w1 ⟨rfl,hb1⟩;have HB1:=hid hb1;clear hb1)
     go_ret3
     rw [HE.out.1,HE.out.2.1,HE.out.2.2,if_pos HC.out,HC.out]
     exact ⟨_,rfl,Tp.row_kept HW.out.row HB1.out,HW.out.ok,stp HW.out.low HB1.out⟩
    ·have HC:=hid hc
     have hne:(Tp.chkIn l 0 != 0)=true:=by simpa using hc
     generalize hce:Tp.chkIn l 0=ce at *
     clear hc
     go_wp2_with (go_at_call 48;refine HCK.out.mono ?_;rintro e w1 ⟨rfl,hb1⟩;have HB1:=hid hb1;clear hb1)
     go_ret3
     rw [HE.out.1,HE.out.2.1,HE.out.2.2,if_neg HC.out]
     exact ⟨_,rfl,⟨rfl,Or.inl ⟨rfl,rfl⟩⟩,fun x hx=>(by cases hx),stp HW.out.low HB1.out⟩
   ·have hem:(mk r).toList.isEmpty=false:=by rw [Tp.mk_empty];cases r with | nil=>exact absurd rfl hr | cons _ _=>rfl
    have HCT:=hid (Tp.cut_any r [10] (by have:=HL.out;omega) wr HW.out.fc)
    by_cases h10:(10:UInt8) ∈ r
    ·obtain ⟨u,q,rfl,hu⟩:=Tp.first_at 10 r h10
     rw [Tp.cut_at 10 u q hu] at HCT
     have HU:=hid hu
     have hul:u.length+q.length+1=(u++10 :: q).length:=by simp;omega
     cases hrd:Tp.rd u with
     | none =>
      have HOL:Hid (∀ w1,Tp.F w1->Calls Tryz.prog 58 #[.string (mk u)] w1 fun e w'=>e = .returned (.tuple #[.agg #[.int .i64 0,.int .i64 0,.int .u8 0],.int .i64 1])/\Below w1.heap.size w1 w'):=hid (fun w1 h1=>by have h9:=Tp.ofLine_any u (by have:=HL.out;omega) w1 h1;rw [hrd] at h9;exact h9)
      obtain ⟨e1,e2,e3⟩:=Tp.pw_no HW.out.eq HL.out (Tp.rdA_at hu hrd)
      have HE:=hid (And.intro e1 (And.intro e2 e3))
      clear hw e1 e2 e3 hu hrd h10
      go_wp2_with (first
       | (go_at_call 57;refine HCT.out.mono ?_;rintro e w1 ⟨rfl,hb1⟩;have HW1:=hid (HW.out.kept hb1);clear hb1)
       | (go_at_call 58;refine (HOL.out _ HW1.out.fc).mono ?_;rintro e w2 ⟨rfl,hb2⟩;have HW2:=hid (HW1.out.kept hb2);clear hb2))
      go_ret3
      rw [HE.out.1,HE.out.2.1,HE.out.2.2]
      exact ⟨_,rfl,⟨rfl,Or.inl ⟨rfl,rfl⟩⟩,fun x hx=>(by cases hx),stA HW2.out.low _⟩
     | some x =>
      have HOL:Hid (∀ w1,Tp.F w1->Calls Tryz.prog 58 #[.string (mk u)] w1 fun e w'=>e = .returned (.tuple #[.agg #[.int .i64 x.c,.int .i64 x.p,.int .u8 x.d],.int .i64 0])/\Below w1.heap.size w1 w'):=hid (fun w1 h1=>by have h9:=Tp.ofLine_any u (by have:=HL.out;omega) w1 h1;rw [hrd] at h9;exact h9)
      have HRD:=hid hrd
      have rb:=Tp.run_bin x.c x.p x.d
      clear hw hu hrd h10
      go_wp2_with (first
       | (go_at_call 57;refine HCT.out.mono ?_;rintro e w1 ⟨rfl,hb1⟩;have HW1:=hid (HW.out.kept hb1);clear hb1)
       | (go_at_call 58;refine (HOL.out _ HW1.out.fc).mono ?_;rintro e w2 ⟨rfl,hb2⟩;have HW2:=hid (HW1.out.kept hb2);clear hb2)
       | (at_builtin;refine Tp.appOne Tryz.underlying42 Tp.info_in3 rfl (by omega) (by rfl) _ _ (by rfl) (by rfl) (HW2.out.kept (stA (stA (st0 w2) _) _)).row _ _ (by rfl) (ys:=Tp.ics [x]) rfl (Tp.in_cells _ x _ (by simp)) (Tp.in_one x) (by have:=HL.out;omega) (by have:=HL.out;omega) (HW2.out.kept (stA (stA (st0 w2) _) _)).low.size ?_;intro v' w' hown' hb'))
      have hP:=(HW2.out.kept (stA (stA (st0 w2) _) _)).next HU.out HRD.out hb' (H0.out.fc.kept ((HW2.out.kept (stA (stA (st0 w2) _) _)).low.trans hb')) hown'
      refine ⟨⟨l++[x],q,rfl,hP⟩,?_⟩
      show q.length < (u++10 :: q).length
      omega
    ·rw [Tp.cut_no 10 r h10] at HCT
     obtain ⟨e1,e2,e3⟩:=Tp.pw_no HW.out.eq HL.out (Tp.rdA_last h10 hr)
     have HE:=hid (And.intro e1 (And.intro e2 e3))
     clear hw e1 e2 e3
     cases hrd:Tp.rd r with
     | none =>
      have HOL:Hid (∀ w1,Tp.F w1->Calls Tryz.prog 58 #[.string (mk r)] w1 fun e w'=>e = .returned (.tuple #[.agg #[.int .i64 0,.int .i64 0,.int .u8 0],.int .i64 1])/\Below w1.heap.size w1 w'):=hid (fun w1 h1=>by have h9:=Tp.ofLine_any r (by have:=HL.out;omega) w1 h1;rw [hrd] at h9;exact h9)
      clear hrd
      go_wp2_with (first
       | (go_at_call 57;refine HCT.out.mono ?_;rintro e w1 ⟨rfl,hb1⟩;have HW1:=hid (HW.out.kept hb1);clear hb1)
       | (go_at_call 58;refine (HOL.out _ HW1.out.fc).mono ?_;rintro e w2 ⟨rfl,hb2⟩;have HW2:=hid (HW1.out.kept hb2);clear hb2))
      go_ret3
      rw [HE.out.1,HE.out.2.1,HE.out.2.2]
      exact ⟨_,rfl,⟨rfl,Or.inl ⟨rfl,rfl⟩⟩,fun x hx=>(by cases hx),stA HW2.out.low _⟩
     | some x =>
      have HOL:Hid (∀ w1,Tp.F w1->Calls Tryz.prog 58 #[.string (mk r)] w1 fun e w'=>e = .returned (.tuple #[.agg #[.int .i64 x.c,.int .i64 x.p,.int .u8 x.d],.int .i64 0])/\Below w1.heap.size w1 w'):=hid (fun w1 h1=>by have h9:=Tp.ofLine_any r (by have:=HL.out;omega) w1 h1;rw [hrd] at h9;exact h9)
      clear hrd
      go_wp2_with (first
       | (go_at_call 57;refine HCT.out.mono ?_;rintro e w1 ⟨rfl,hb1⟩;have HW1:=hid (HW.out.kept hb1);clear hb1)
       | (go_at_call 58;refine (HOL.out _ HW1.out.fc).mono ?_;rintro e w2 ⟨rfl,hb2⟩;have HW2:=hid (HW1.out.kept hb2);clear hb2))
      go_ret3
      rw [HE.out.1,HE.out.2.1,HE.out.2.2]
      exact ⟨_,rfl,⟨rfl,Or.inl ⟨rfl,rfl⟩⟩,fun x hx=>(by cases hx),stA HW2.out.low _⟩
end Go.Proofs.YtbhpfkjfijdmaaaGreatDoor
