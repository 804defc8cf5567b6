/-
  Parts of a proof, joined.
-/
import Derived.Test.YtbhpfkjfijdmaaaGreatDoorZy03
import Derived.Deep.QuietTactic
import Derived.BigQuiet
namespace Go.Proofs.YtbhpfkjfijdmaaaGreatDoor
open Go.ChangeShapes Go.WideShapes Go.ChangeAt Go.RowKit
set_option linter.unusedVariables false
set_option maxRecDepth 100000
set_option maxHeartbeats 1600000
theorem join_any (k:Nat) (o:S.Ord) (hok:O.okB k o.d o.s o.n o.w=true) (g c:Nat) (w:World) (hc:(S.parts k).length<=c) (hg:g < w.heap.size) (hcell:∀ j,j < (S.parts k).length->w.cell? ⟨g,j,none⟩=(tcs k o (S.parts k).length)[j]?) :
 Calls Tryz.prog 251 #[.slice (some ⟨g,0,none⟩) (S.parts k).length c,.string ⟨#[44,32]⟩] w fun e w'=>e = .returned (.string (Asmk (Lib.join ((S.parts k).map (S.partText o)) S.comma)))/\Below w.heap.size w w':=by
 have h4:=parts_le k
 have e1:(((S.parts k).map (fun p=>Asmk (S.partText o p))).map (·.data.toList))=(S.parts k).map (S.partText o):=by
  rw [List.map_map];rfl
 have h:=Tryz.strings_Join g 0 c ((S.parts k).map (fun p=>Asmk (S.partText o p))) ⟨#[44,32]⟩ w (fun j x hx=>?_) hg (by simp;omega) (by simpa using hc) ?_
 ·rw [e1,List.length_map] at h
  exact h
 ·have hj:j < (S.parts k).length:=by
   have:=(List.getElem?_eq_some_iff.1 hx).1
   simpa using this
  rw [Nat.zero_add,hcell j hj]
  unfold tcs
  rw [List.take_length,show (fun p=>Value.string (Asmk (S.partText o p)))=Value.string ∘ (fun p=>Asmk (S.partText o p)) from rfl,<- List.map_map,List.getElem?_map,hx]
  rfl
 ·rw [e1]
  exact Nat.le_trans (join_small hok) (by omega)
theorem own_slice {w:World} {B:Nat} {t:TypeId} {v:Value} {n:Nat} {xs:List Value} (h:w.ownsRow B t 1 v n xs) (hn:n=0):∃ a cap,v = .slice a 0 cap:=by
 subst hn
 rcases h.2 with ⟨h,_⟩ | ⟨g,cap,cur,h,_⟩
 ·exact ⟨_,_,h⟩
 ·exact ⟨_,_,h⟩
theorem partsOf_0 (k:Nat) (hk:k < 32) (h30:k ≠ 30) (hp:S.parts k=[]) (w:World) (hs:shapesAt w) :
 Calls Tryz.prog 193 #[.int .i64 k] w fun e w'=>∃ a cap,e = .returned (.slice a 0 cap)/\Below w.heap.size w w':=by
 refine (partsOf_any k hk h30 w hs).mono fun e w' ⟨v,he,hown,hb⟩=>?_
 obtain ⟨a,cap,rfl⟩:=own_slice hown (by rw [pcs_len,hp];rfl)
 exact ⟨a,cap,he,hb⟩
def partsAt (w:World) (g k:Nat):Prop:=∀ j p:Nat,(S.parts k)[j]? = some p->w.cell? ⟨g,j,none⟩=some (.int .i64 p)
theorem partsOf_n (k:Nat) (hk:k < 32) (h30:k ≠ 30) (hp:0 < (S.parts k).length) (w:World) (hs:shapesAt w) :
 Calls Tryz.prog 193 #[.int .i64 k] w fun e w'=>∃ g cap,e = .returned (.slice (some ⟨g,0,none⟩) (S.parts k).length cap)/\partsAt w' g k/\w.heap.size<=g/\g < w'.heap.size/\(S.parts k).length<=cap/\Below w.heap.size w w':=by
 refine (partsOf_any k hk h30 w hs).mono fun e w' ⟨v,he,hown,hb⟩=>?_
 obtain ⟨g,cap,rfl,h1,h2,h3,h4⟩:=Asrow_slice hown (by rw [pcs_len];exact hp)
 rw [pcs_len] at he h3 h4
 refine ⟨g,cap,he,fun j p hj=>?_,h1,h2,h3,hb⟩
 rw [h4 j (List.getElem?_eq_some_iff.1 hj).1,pcs_at hj]
theorem partsAt.kept {w w':World} {g k B:Nat} (h:partsAt w g k) (hb:Below B w w') (hB:g < B):partsAt w' g k:=fun j p hj=>(hb.cell hB).trans (h j p hj)
theorem nameS_len:∀ k,k < 32->(O.nameS k).size<=4:=by decide +kernel
theorem name_mk (k:Nat) (h30:k ≠ 30):O.nameS k=Asmk (K.row k).1:=by unfold O.nameS;rw [if_neg h30];rfl
theorem orderLine_0 (k:Nat) (hk:k < 32) (h30:k ≠ 30) (hp:S.parts k=[]) (d s n ww:Int) (w:World) (hF:AF w) :
 Calls Tryz.prog 186 #[.agg #[.int .i64 k,.int .i64 d,.int .i64 s,.int .i64 n,.int .i64 ww]] w fun e w'=>e = .returned (.string (Asmk ((K.row k).1++[10])))/\Below w.heap.size w w':=by
 have HF:=hid hF
 have HP:=hid hp
 have hns:=nameS_len k hk
 have hns':¬ 9223372036854775807 < (O.nameS k).size+1:=by omega
 clear hF hp
 go_enter Tryz.func186,Tryz.ntmps186
 go_wp2_with (first
  | (go_at_call 106;refine (Asname_yes k hk h30 _ (af_alloc HF.out _).shapes).mono ?_;rintro e w1 ⟨rfl,hb1⟩;obtain ⟨hc1,hf1⟩:=bcell hb1;have hz1:=lt_box hb1)
  | (go_at_call 193;refine (partsOf_0 k hk h30 HP.out _ ((af_alloc HF.out _).kept hb1).shapes).mono ?_;rintro e w2 ⟨a2,cap2,rfl,hb2⟩))
 go_loop [5,19] (fun l i=>l = .slice none 0 0/\i = .int .i64 0) (fun _ _=>0)
 case atStart=>exact ⟨rfl,rfl⟩
 case round =>
  obtain ⟨rfl,rfl⟩:=hrel
  go_wp2
  go_ret
  rw [name_mk k h30,show (⟨#[10]⟩:ByteArray)=Asmk [10] from rfl,mk_append]
  exact ⟨rfl,stp (stp (stA (st0 _) _) hb1) hb2⟩
theorem orderLine_n (k:Nat) (hk:k < 32) (h30:k ≠ 30) (hp:0 < (S.parts k).length) (o:S.Ord) (hok:O.okB k o.d o.s o.n o.w=true) (w:World) (hF:AF w) :
 Calls Tryz.prog 186 #[.agg #[.int .i64 k,.int .i64 o.d,.int .i64 o.s,.int .i64 o.n,.int .i64 o.w]] w fun e w'=>e = .returned (.string (Asmk (S.orderText k o++[10])))/\Below w.heap.size w w':=by
 obtain ⟨i0,hi0,hz0,hz1,hz2⟩:=info_parts info_string
 have HF:=hid hF
 have HO:=hid hok
 have h4:=parts_le k
 clear hF hok
 go_enter Tryz.func186,Tryz.ntmps186
 go_wp2_with (first
  | (go_at_call 106;refine (Asname_yes k hk h30 _ (af_alloc HF.out _).shapes).mono ?_;rintro e w1 ⟨rfl,hb1⟩;obtain ⟨hc1,hf1⟩:=bcell hb1;have hz1':=lt_box hb1)
  | (go_at_call 193;refine (partsOf_n k hk h30 hp _ ((af_alloc HF.out _).kept hb1).shapes).mono ?_;rintro e w2 ⟨g,cap,rfl,hpa,hg1,hg2,hcap,hb2⟩))
 have hB2:=stp hb1 hb2
 have hF2:=hid ((af_alloc HF.out _).kept hB2)
 have hsz2:=hB2.size
 clear hc1 hf1
 go_loopw [5,19] (fun l i wr=>∃ j:Nat,j<=(S.parts k).length/\i = .int .i64 j/\wr.ownsRow w2.heap.size 9 1 l j (tcs k o j)/\Below w2.heap.size w2 wr) (fun _ i _=>(S.parts k).length - (intOf i).toNat)
 case atStart=>exact ⟨0,by omega,rfl,⟨rfl,Or.inl ⟨rfl,rfl⟩⟩,Below.refl _ _⟩
 case round =>
  obtain ⟨j,hj,rfl,hown,hbl⟩:=hrel
  have hszr:=hbl.size
  by_cases hlt:j < (S.parts k).length
  ·obtain ⟨p,hpj⟩:∃ p,(S.parts k)[j]? = some p:=⟨_,List.getElem?_eq_getElem hlt⟩
   have hp4:=parts_lt hpj
   have hcp:=(hpa.kept hbl hg2) j p hpj
   have hgr:g < wr.heap.size:=by omega
   have hfield:wr.cell? ⟨w.heap.size,offP p,none⟩=some (.int .i64 (o.get p)):=by
    have hsz:w.heap.size < w2.heap.size:=by simp at hsz2;omega
    rw [hbl.cell hsz,hB2.cell (by simp)]
    exact (cell_new w _ _ _ rfl).trans (ordCell_at k o p hp4)
   have hwr:w.heap.size < wr.heap.size:=by simp at hsz2;omega
   have hbd:=get_bd HO.out p
   have hlt':(j:Int) < (S.parts k).length:=by omega
   clear hpa
   have hil:=itoa_len (o.get p) (by omega)
   have hi':(Asmk (Lib.itoa (o.get p))).size<=7:=hil
   have hi2:¬ 9223372036854775807 < 1+(Asmk (Lib.itoa (o.get p))).size:=by omega
   clear hil hi'
   by_cases h0:p=0
   ·subst h0
    go_wp2_with (first
     | (go_at_call 194;refine (Asof_any 0 hp4 _ _).mono ?_;rintro e w' ⟨rfl,rfl⟩)
     | (go_at_call 102;refine (itoa_any (o.get 0) (by omega) (by omega) _ (hF2.out.kept hbl)).mono ?_;rintro e w3 ⟨rfl,hb3⟩;have hown1:=hown.kept (grown_of_below hb3) (own_none _);have hB3:=stp hbl hb3)
     | (at_builtin;refine wpList_append_lies _ (by rfl) _ _ _ (by rfl) w2.heap.size 9 i0 _ 1 16 Tryz.underlying186 hi0 hz0 hz1 hz2 rfl (by omega) _ j _ (by rfl) (hown1.alloc _) ⟨w3.heap.size,0,none⟩ 1 1 [.string (⟨#[114]⟩++Asmk (Lib.itoa (o.get 0)))] (by rfl) (by rfl) (World.news_of_block (cs:=#[.string (⟨#[114]⟩++Asmk (Lib.itoa (o.get 0)))]) (t:=9) (fr:=(0,0)) (heap_alloc_new w3 _)) (by simp [Value.oneCell']) (by omega) (by unfold maxLen;omega) (by omega) (by have:=hB3.size;simp;omega) (w3.heap.size+1) (by simp) ?_;intro gg cp w4 hown4 hgrow hat hlt4))
    go_roundw
    case rel=>exact ⟨j+1,by omega,by go_num,by rw [tcs_step hpj,partText_r o 0 (Or.inl rfl)];exact hown4,(stA hB3 _).grown hgrow (stA hB3 _).size (fun q hq=>(hown.lt q hq).1)⟩
    case measure=>simp [intOf];omega
   ·by_cases h1:p=1
    ·subst h1
     go_wp2_with (first
     | (go_at_call 194;refine (Asof_any 1 hp4 _ _).mono ?_;rintro e w' ⟨rfl,rfl⟩)
     | (go_at_call 102;refine (itoa_any (o.get 1) (by omega) (by omega) _ (hF2.out.kept hbl)).mono ?_;rintro e w3 ⟨rfl,hb3⟩;have hown1:=hown.kept (grown_of_below hb3) (own_none _);have hB3:=stp hbl hb3)
     | (at_builtin;refine wpList_append_lies _ (by rfl) _ _ _ (by rfl) w2.heap.size 9 i0 _ 1 16 Tryz.underlying186 hi0 hz0 hz1 hz2 rfl (by omega) _ j _ (by rfl) (hown1.alloc _) ⟨w3.heap.size,0,none⟩ 1 1 [.string (⟨#[114]⟩++Asmk (Lib.itoa (o.get 1)))] (by rfl) (by rfl) (World.news_of_block (cs:=#[.string (⟨#[114]⟩++Asmk (Lib.itoa (o.get 1)))]) (t:=9) (fr:=(0,0)) (heap_alloc_new w3 _)) (by simp [Value.oneCell']) (by omega) (by unfold maxLen;omega) (by omega) (by have:=hB3.size;simp;omega) (w3.heap.size+1) (by simp) ?_;intro gg cp w4 hown4 hgrow hat hlt4))
     go_roundw
     case rel=>exact ⟨j+1,by omega,by go_num,by rw [tcs_step hpj,partText_r o 1 (Or.inr rfl)];exact hown4,(stA hB3 _).grown hgrow (stA hB3 _).size (fun q hq=>(hown.lt q hq).1)⟩
     case measure=>simp [intOf];omega
    ·have g0:((p:Int) == 0)=false:=by rw [beq_eq_false_iff_ne];omega
     have g1:((p:Int) == 1)=false:=by rw [beq_eq_false_iff_ne];omega
     go_wp2_with (first
     | (go_at_call 194;refine (Asof_any p hp4 _ _).mono ?_;rintro e w' ⟨rfl,rfl⟩)
     | (go_at_call 102;refine (itoa_any (o.get p) (by omega) (by omega) _ (hF2.out.kept hbl)).mono ?_;rintro e w3 ⟨rfl,hb3⟩;have hown1:=hown.kept (grown_of_below hb3) (own_none _);have hB3:=stp hbl hb3)
     | (at_builtin;refine wpList_append_lies _ (by rfl) _ _ _ (by rfl) w2.heap.size 9 i0 _ 1 16 Tryz.underlying186 hi0 hz0 hz1 hz2 rfl (by omega) _ j _ (by rfl) (hown1.alloc _) ⟨w3.heap.size,0,none⟩ 1 1 [.string (Asmk (Lib.itoa (o.get p)))] (by rfl) (by rfl) (World.news_of_block (cs:=#[.string (Asmk (Lib.itoa (o.get p)))]) (t:=9) (fr:=(0,0)) (heap_alloc_new w3 _)) (by simp [Value.oneCell']) (by omega) (by unfold maxLen;omega) (by omega) (by have:=hB3.size;simp;omega) (w3.heap.size+1) (by simp) ?_;intro gg cp w4 hown4 hgrow hat hlt4))
     go_roundw
     case rel=>exact ⟨j+1,by omega,by go_num,by rw [tcs_step hpj,partText_n o p (by omega)];exact hown4,(stA hB3 _).grown hgrow (stA hB3 _).size (fun q hq=>(hown.lt q hq).1)⟩
     case measure=>simp [intOf];omega
  ·have hjn:j=(S.parts k).length:=by omega
   subst hjn
   obtain ⟨g',cap',rfl,hg1',hg2',hc',hcell'⟩:=Asrow_slice hown hp
   have hns:=nameS_len k hk
   have hjs:(Asmk (Lib.join ((S.parts k).map (S.partText o)) S.comma)).size<=48:=join_small HO.out
   have q1:¬ 9223372036854775807 < 1+(Asmk (Lib.join ((S.parts k).map (S.partText o)) S.comma)).size:=by omega
   have q2:¬ 9223372036854775807 < (O.nameS k).size+(1+(Asmk (Lib.join ((S.parts k).map (S.partText o)) S.comma)).size):=by omega
   have q3:¬ 9223372036854775807 < (O.nameS k).size+(1+(Asmk (Lib.join ((S.parts k).map (S.partText o)) S.comma)).size)+1:=by omega
   have hp':(0:Int) < (S.parts k).length:=by omega
   have HJ:=hid (join_any k o HO.out g' cap' wr hc' hg2' hcell')
   clear hcell' hpa
   go_wp2_with (go_at_call 251;refine HJ.out.mono ?_;rintro e w5 ⟨rfl,hb5⟩)
   go_ret
   refine ⟨?_,stp (stp (stp (stA (st0 _) _) hB2) hbl) hb5⟩
   rw [name_mk k h30,show (⟨#[10]⟩:ByteArray)=Asmk [10] from rfl,show (⟨#[32]⟩:ByteArray)=Asmk [32] from rfl,mk_append,mk_append,mk_append]
   unfold S.orderText
   rw [if_neg (fun h=>by rw [h] at hp;simp at hp)]
   simp
theorem orderLine_any (k:Nat) (hk:k < 32) (h30:k ≠ 30) (o:S.Ord) (hok:O.okB k o.d o.s o.n o.w=true) (w:World) (hF:AF w) :
 Calls Tryz.prog 186 #[.agg #[.int .i64 k,.int .i64 o.d,.int .i64 o.s,.int .i64 o.n,.int .i64 o.w]] w fun e w'=>e = .returned (.string (Asmk (S.orderText k o++[10])))/\Below w.heap.size w w':=by
 by_cases hp:S.parts k=[]
 ·have h:=orderLine_0 k hk h30 hp o.d o.s o.n o.w w hF
  have e:S.orderText k o=(K.row k).1:=by unfold S.orderText;rw [if_pos hp];simp
  rw [e];exact h
 ·exact orderLine_n k hk h30 (by cases h:S.parts k <;> simp_all) o hok w hF
theorem wordOf_any (a b:UInt8) (w:World) :
 Calls Tryz.prog 133 #[.int .u8 a.toNat,.int .u8 b.toNat] w fun e w'=>e = .returned (.int .u16 (S.word a b))/\w'=w:=by
 have ha:=a.toNat_lt
 have hb:=b.toNat_lt
 have hj:=M.joined (a.toNat:Int) (b.toNat:Int) (by omega) (by omega) (by omega) (by omega)
 go_enter Tryz.func133,Tryz.ntmps133
 go_wp2
 go_ret
 exact ⟨by rw [show S.word a b=(a.toNat:Int) * 256+b.toNat from rfl,<- hj];rfl,rfl⟩
def AsbytesAt (w:World) (g o:Nat) (l:List UInt8):Prop:=∀ (j:Nat) (c:UInt8),l[j]? = some c->w.cell? ⟨g,o+j,none⟩=some (.int .u8 c.toNat)
theorem AsbytesAt.kept {w w':World} {g o B:Nat} {l:List UInt8} (h:AsbytesAt w g o l) (hb:Below B w w') (hB:g < B):AsbytesAt w' g o l:=fun j c hj=>(hb.cell hB).trans (h j c hj)
theorem AsbytesAt.drop {w:World} {g o:Nat} {l:List UInt8} (h:AsbytesAt w g o l) (n:Nat):AsbytesAt w g (o+n) (l.drop n):=fun j c hj=>by
 rw [List.getElem?_drop] at hj
 rw [Nat.add_assoc];exact h (n+j) c hj
theorem st_drewN {w a:World} (h:Below w.heap.size w a) (k:Nat):Below w.heap.size w (a.drewN k):=by
 induction k with
 | zero=>exact h
 | succ k ih=>exact ih.drew
theorem af_drewN {w:World} (h:AF w) (k:Nat):AF (w.drewN k):=h.kept (st_drewN (st0 _) k)
theorem words_first (op d s n ww:Int) (h1:O.isOp op=true) (hok:O.okB op.toNat d s n ww=true) (w:World) (hs:shapesAt w) :
 Calls Tryz.prog 185 #[.agg #[.int .i64 op,.int .i64 d,.int .i64 s,.int .i64 n,.int .i64 ww]] w fun e w' =>
  ∃ (g c:Nat),e = .returned (.tuple #[.slice (some ⟨g,0,none⟩) c c,.int .i64 0])/\0 < c/\w'.cell? ⟨g,0,none⟩=some (.int .u16 (O.first op d s n))/\g < w'.heap.size/\Below w.heap.size w w':=by
 refine (words_yes op d s n ww h1 hok w hs).mono fun e w' ⟨g,he,hw,_,hg,hb⟩=>?_
 refine ⟨g,(O.words op d s n ww).length,he,?_,?_,hg,hb⟩
 ·unfold O.words;split <;> simp
 ·have:=hw 0 (by unfold O.words;split <;> simp)
  rw [this]
  unfold O.words;split <;> rfl
theorem words_read (a b:Int) (ha:0<=a/\a<=65535) (hb:0<=b/\b<=65535) (w:World) (hs:shapesAt w) :
 Calls Tryz.prog 185 #[.agg #[.int .i64 (O.rOp a),.int .i64 (O.rD a),.int .i64 (O.rS a),.int .i64 (O.rN a),.int .i64 (O.rW a b)]] w fun e w' =>
  ∃ (g c:Nat),e = .returned (.tuple #[.slice (some ⟨g,0,none⟩) c c,.int .i64 0])/\0 < c/\w'.cell? ⟨g,0,none⟩=some (.int .u16 (O.first (O.rOp a) (O.rD a) (O.rS a) (O.rN a)))/\g < w'.heap.size/\Below w.heap.size w w' :=
 words_first _ _ _ _ _ (O.rOp_isOp a ha) (O.read_ok a b ha hb) w hs
theorem orderLine_read (a b:Int) (ha:0<=a/\a<=65535) (hb:0<=b/\b<=65535) (w:World) (hF:AF w) :
 Calls Tryz.prog 186 #[.agg #[.int .i64 (O.rOp a),.int .i64 (O.rD a),.int .i64 (O.rS a),.int .i64 (O.rN a),.int .i64 (O.rW a b)]] w fun e w'=>e = .returned (.string (Asmk (S.orderText (O.rk a) (S.rOrd a b)++[10])))/\Below w.heap.size w w':=by
 obtain ⟨o1,o2,o3⟩:=(O.isOp_iff _).1 (O.rOp_isOp a ha)
 have hk:((O.rk a:Nat):Int)=O.rOp a:=by show (((O.rOp a).toNat:Nat):Int)=O.rOp a;omega
 have h:=orderLine_any (O.rk a) (by show (O.rOp a).toNat < 32;omega) (by show (O.rOp a).toNat ≠ 30;omega) (S.rOrd a b) (O.read_ok a b ha hb) w hF
 rw [hk] at h
 exact h
theorem read_W (a b:Int) (ha:0<=a/\a<=65535) (hb:0<=b/\b<=65535) (w:World) (hs:shapesAt w) :
 Calls Tryz.prog 184 #[.int .u16 a,.int .u16 b] w fun e w'=>e = .returned (.tuple #[.agg #[.int .i64 (O.rOp a),.int .i64 (O.rD a),.int .i64 (O.rS a),.int .i64 (O.rN a),.int .i64 (O.rW a b)],.int .i64 (O.rLen a)])/\Below w.heap.size w w':=read_any a b ha hb w hs
theorem quiet_at {P:Program} {f:FuncId} {args:Array Value} {w:World} {q n:Nat} {v:Value}
 (h:Calls P f args (w.drewN (q+n)) fun e w'=>e = .returned v/\w'=w.drewN (q+n)):Calls P f args (w.drewN (q+n)) fun e w''=>e = .returned v /\ ∃ m,w''=w.drewN (q+m) :=
 h.mono fun _ _ ⟨he,hm⟩=>⟨he,n,hm⟩
theorem wordText_mk (a:Int):(⟨#[46,119,111,114,100,32]⟩:ByteArray)++Asmk (Lib.itoa a)++(⟨#[10]⟩:ByteArray)=Asmk (S.wordText a++[10]):=by
 rw [show (⟨#[46,119,111,114,100,32]⟩:ByteArray)=Asmk [46,119,111,114,100,32] from rfl,show (⟨#[10]⟩:ByteArray)=Asmk [10] from rfl,mk_append,mk_append]
 simp [S.wordText,S.plain]
theorem first_21 (g o cap:Nat) (x y:UInt8) (hcap:2<=cap) (w:World) (hg:g < w.heap.size) (c0:w.cell? ⟨g,o,none⟩=some (.int .u8 x.toNat)) (c1:w.cell? ⟨g,o+1,none⟩=some (.int .u8 y.toNat)) (hF:AF w) (hne:¬ O.first (O.rOp (S.word x y)) (O.rD (S.word x y)) (O.rS (S.word x y)) (O.rN (S.word x y))=S.word x y) :
 Calls Tryz.prog 150 #[.slice (some ⟨g,o,none⟩) 2 cap] w fun e w'=>e = .returned (.tuple #[.string (Asmk (S.wordText (S.word x y)++[10])),.int .i64 2])/\Below w.heap.size w w':=by
 have HF:=hid hF
 obtain ⟨a0,a1⟩:=S.word_bd x y
 obtain ⟨l1,l2⟩:1<=O.rLen (S.word x y)/\O.rLen (S.word x y)<=2:=by rcases S.rLen_or (S.word x y) with h | h <;> rw [h] <;> omega
 have hil:(Asmk (Lib.itoa (S.word x y))).size<=7:=itoa_len (S.word x y) (by omega)
 have hi1:¬ 9223372036854775807 < 6+(Asmk (Lib.itoa (S.word x y))).size:=by omega
 have hi2:¬ 9223372036854775807 < 6+(Asmk (Lib.itoa (S.word x y))).size+1:=by omega
 clear hF hil
 go_enter Tryz.func150,Tryz.ntmps150
 go_wp2
 go_quiet ((go_at_call 133;exact Calls.quiet_of_same (wordOf_any x y _)))
 go_wp2_with (first
  | (go_at_call 184;refine (read_W _ 0 ⟨a0,a1⟩ (by omega) _ (af_drewN HF.out _).shapes).mono ?_;rintro e w1 ⟨rfl,hb1⟩;have hF1:=hid (af_alloc ((af_drewN HF.out _).kept hb1) (.cells #[.int .i64 (O.rOp (S.word x y)),.int .i64 (O.rD (S.word x y)),.int .i64 (O.rS (S.word x y)),.int .i64 (O.rN (S.word x y)),.int .i64 (O.rW (S.word x y) 0)] 255)))
  | (go_at_call 185;refine (words_read (S.word x y) 0 ⟨a0,a1⟩ (by omega) _ hF1.out.shapes).mono ?_;rintro e w2 ⟨g2,k2,rfl,hk2,hc2,hg2,hb2⟩;have hk2':(0:Int) < k2:=Int.natCast_pos.2 hk2;have hF2:=hid (hF1.out.kept hb2);obtain ⟨hcc,hff⟩:=bcell hb2;have hz2:=lt_box hb2)
  | (go_at_call 102;refine (itoa_any (S.word x y) (by omega) (by omega) _ hF2.out).mono ?_;rintro e w3 ⟨rfl,hb3⟩))
 go_ret2
 exact ⟨by rw [<- wordText_mk];rfl,stp (stp (stA (stp (st_drewN (st0 w) _) hb1) _) hb2) hb3⟩
theorem first_22 (g o cap:Nat) (x y:UInt8) (hcap:2<=cap) (w:World) (hg:g < w.heap.size) (c0:w.cell? ⟨g,o,none⟩=some (.int .u8 x.toNat)) (c1:w.cell? ⟨g,o+1,none⟩=some (.int .u8 y.toNat)) (hF:AF w) (hfe:O.first (O.rOp (S.word x y)) (O.rD (S.word x y)) (O.rS (S.word x y)) (O.rN (S.word x y))=(S.word x y)) (hl:(2:Int) < 2 * O.rLen (S.word x y)) :
 Calls Tryz.prog 150 #[.slice (some ⟨g,o,none⟩) 2 cap] w fun e w'=>e = .returned (.tuple #[.string (Asmk (S.wordText (S.word x y)++[10])),.int .i64 2])/\Below w.heap.size w w':=by
 have HF:=hid hF
 obtain ⟨a0,a1⟩:=S.word_bd x y
 obtain ⟨l1,l2⟩:1<=O.rLen (S.word x y)/\O.rLen (S.word x y)<=2:=by rcases S.rLen_or (S.word x y) with h | h <;> rw [h] <;> omega
 have hil:(Asmk (Lib.itoa (S.word x y))).size<=7:=itoa_len (S.word x y) (by omega)
 have hi1:¬ 9223372036854775807 < 6+(Asmk (Lib.itoa (S.word x y))).size:=by omega
 have hi2:¬ 9223372036854775807 < 6+(Asmk (Lib.itoa (S.word x y))).size+1:=by omega
 have HFE:=hid hfe
 have hne:(O.first (O.rOp (S.word x y)) (O.rD (S.word x y)) (O.rS (S.word x y)) (O.rN (S.word x y)) == (S.word x y))=true:=by rw [hfe];simp
 clear hfe
 clear hF hil
 go_enter Tryz.func150,Tryz.ntmps150
 go_wp2
 go_quiet ((go_at_call 133;exact Calls.quiet_of_same (wordOf_any x y _)))
 go_wp2_with (first
  | (go_at_call 184;refine (read_W _ 0 ⟨a0,a1⟩ (by omega) _ (af_drewN HF.out _).shapes).mono ?_;rintro e w1 ⟨rfl,hb1⟩;have hF1:=hid (af_alloc ((af_drewN HF.out _).kept hb1) (.cells #[.int .i64 (O.rOp (S.word x y)),.int .i64 (O.rD (S.word x y)),.int .i64 (O.rS (S.word x y)),.int .i64 (O.rN (S.word x y)),.int .i64 (O.rW (S.word x y) 0)] 255)))
  | (go_at_call 185;refine (words_read (S.word x y) 0 ⟨a0,a1⟩ (by omega) _ hF1.out.shapes).mono ?_;rintro e w2 ⟨g2,k2,rfl,hk2,hc2,hg2,hb2⟩;have hk2':(0:Int) < k2:=Int.natCast_pos.2 hk2;have hF2:=hid (hF1.out.kept hb2);obtain ⟨hcc,hff⟩:=bcell hb2;have hz2:=lt_box hb2)
  | (go_at_call 102;refine (itoa_any (S.word x y) (by omega) (by omega) _ hF2.out).mono ?_;rintro e w3 ⟨rfl,hb3⟩))
 go_ret2
 exact ⟨by rw [<- wordText_mk];rfl,stp (stp (stA (stp (st_drewN (st0 w) _) hb1) _) hb2) hb3⟩
theorem first_23 (g o cap:Nat) (x y:UInt8) (hcap:2<=cap) (w:World) (hg:g < w.heap.size) (c0:w.cell? ⟨g,o,none⟩=some (.int .u8 x.toNat)) (c1:w.cell? ⟨g,o+1,none⟩=some (.int .u8 y.toNat)) (hF:AF w) (hfe:O.first (O.rOp (S.word x y)) (O.rD (S.word x y)) (O.rS (S.word x y)) (O.rN (S.word x y))=(S.word x y)) (hl:¬ (2:Int) < 2 * O.rLen (S.word x y)) :
 Calls Tryz.prog 150 #[.slice (some ⟨g,o,none⟩) 2 cap] w fun e w'=>e = .returned (.tuple #[.string (Asmk (S.orderText (O.rk (S.word x y)) (S.rOrd (S.word x y) 0)++[10])),.int .i64 (2 * O.rLen (S.word x y))])/\Below w.heap.size w w':=by
 have HF:=hid hF
 obtain ⟨a0,a1⟩:=S.word_bd x y
 obtain ⟨l1,l2⟩:1<=O.rLen (S.word x y)/\O.rLen (S.word x y)<=2:=by rcases S.rLen_or (S.word x y) with h | h <;> rw [h] <;> omega
 have hil:(Asmk (Lib.itoa (S.word x y))).size<=7:=itoa_len (S.word x y) (by omega)
 have hi1:¬ 9223372036854775807 < 6+(Asmk (Lib.itoa (S.word x y))).size:=by omega
 have hi2:¬ 9223372036854775807 < 6+(Asmk (Lib.itoa (S.word x y))).size+1:=by omega
 have HFE:=hid hfe
 have hne:(O.first (O.rOp (S.word x y)) (O.rD (S.word x y)) (O.rS (S.word x y)) (O.rN (S.word x y)) == (S.word x y))=true:=by rw [hfe];simp
 clear hfe
 clear hF hil
 go_enter Tryz.func150,Tryz.ntmps150
 go_wp2
 go_quiet ((go_at_call 133;exact Calls.quiet_of_same (wordOf_any x y _)))
 go_wp2_with (first
  | (go_at_call 184;refine (read_W _ 0 ⟨a0,a1⟩ (by omega) _ (af_drewN HF.out _).shapes).mono ?_;rintro e w1 ⟨rfl,hb1⟩;have hF1:=hid (af_alloc ((af_drewN HF.out _).kept hb1) (.cells #[.int .i64 (O.rOp (S.word x y)),.int .i64 (O.rD (S.word x y)),.int .i64 (O.rS (S.word x y)),.int .i64 (O.rN (S.word x y)),.int .i64 (O.rW (S.word x y) 0)] 255)))
  | (go_at_call 185;refine (words_read (S.word x y) 0 ⟨a0,a1⟩ (by omega) _ hF1.out.shapes).mono ?_;rintro e w2 ⟨g2,k2,rfl,hk2,hc2,hg2,hb2⟩;have hk2':(0:Int) < k2:=Int.natCast_pos.2 hk2;have hF2:=hid (hF1.out.kept hb2);obtain ⟨hcc,hff⟩:=bcell hb2;have hz2:=lt_box hb2)
  | (go_at_call 186;refine (orderLine_read (S.word x y) 0 ⟨a0,a1⟩ (by omega) _ hF2.out).mono ?_;rintro e w3 ⟨rfl,hb3⟩))
 go_ret2
 exact ⟨rfl,stp (stp (stA (stp (st_drewN (st0 w) _) hb1) _) hb2) hb3⟩
theorem first_41 (g o n cap:Nat) (x y x2 y2:UInt8) (hn:(3:Int) < n) (hcap:n<=cap) (w:World) (hg:g < w.heap.size) (c0:w.cell? ⟨g,o,none⟩=some (.int .u8 x.toNat)) (c1:w.cell? ⟨g,o+1,none⟩=some (.int .u8 y.toNat)) (c2:w.cell? ⟨g,o+2,none⟩=some (.int .u8 x2.toNat)) (c3:w.cell? ⟨g,o+3,none⟩=some (.int .u8 y2.toNat)) (hF:AF w) (hne:¬ O.first (O.rOp (S.word x y)) (O.rD (S.word x y)) (O.rS (S.word x y)) (O.rN (S.word x y))=S.word x y) :
 Calls Tryz.prog 150 #[.slice (some ⟨g,o,none⟩) n cap] w fun e w'=>e = .returned (.tuple #[.string (Asmk (S.wordText (S.word x y)++[10])),.int .i64 2])/\Below w.heap.size w w':=by
 have HF:=hid hF
 obtain ⟨a0,a1⟩:=S.word_bd x y
 obtain ⟨b0,b1⟩:=S.word_bd x2 y2
 have hn0:(0:Int) < n:=by omega
 have hn1:(1:Int) < n:=by omega
 have hn2:(2:Int) < n:=by omega
 obtain ⟨l1,l2⟩:1<=O.rLen (S.word x y)/\O.rLen (S.word x y)<=2:=by rcases S.rLen_or (S.word x y) with h | h <;> rw [h] <;> omega
 have hil:(Asmk (Lib.itoa (S.word x y))).size<=7:=itoa_len (S.word x y) (by omega)
 have hi1:¬ 9223372036854775807 < 6+(Asmk (Lib.itoa (S.word x y))).size:=by omega
 have hi2:¬ 9223372036854775807 < 6+(Asmk (Lib.itoa (S.word x y))).size+1:=by omega
 clear hF hil
 go_enter Tryz.func150,Tryz.ntmps150
 go_wp2
 go_quiet ((go_at_call 133;exact Calls.quiet_of_same (wordOf_any x y _)))
 go_wp2
 go_quiet ((go_at_call 133;exact quiet_at (wordOf_any x2 y2 _)))
 go_wp2_with (first
  | (go_at_call 184;refine (read_W _ (S.word x2 y2) ⟨a0,a1⟩ ⟨b0,b1⟩ _ (af_drewN HF.out _).shapes).mono ?_;rintro e w1 ⟨rfl,hb1⟩;have hF1:=hid (af_alloc ((af_drewN HF.out _).kept hb1) (.cells #[.int .i64 (O.rOp (S.word x y)),.int .i64 (O.rD (S.word x y)),.int .i64 (O.rS (S.word x y)),.int .i64 (O.rN (S.word x y)),.int .i64 (O.rW (S.word x y) (S.word x2 y2))] 255)))
  | (go_at_call 185;refine (words_read (S.word x y) (S.word x2 y2) ⟨a0,a1⟩ ⟨b0,b1⟩ _ hF1.out.shapes).mono ?_;rintro e w2 ⟨g2,k2,rfl,hk2,hc2,hg2,hb2⟩;have hk2':(0:Int) < k2:=Int.natCast_pos.2 hk2;have hF2:=hid (hF1.out.kept hb2);obtain ⟨hcc,hff⟩:=bcell hb2;have hz2:=lt_box hb2)
  | (go_at_call 102;refine (itoa_any (S.word x y) (by omega) (by omega) _ hF2.out).mono ?_;rintro e w3 ⟨rfl,hb3⟩))
 go_ret2
 exact ⟨by rw [<- wordText_mk];rfl,stp (stp (stA (stp (st_drewN (st0 w) _) hb1) _) hb2) hb3⟩
theorem first_43 (g o n cap:Nat) (x y x2 y2:UInt8) (hn:(3:Int) < n) (hcap:n<=cap) (w:World) (hg:g < w.heap.size) (c0:w.cell? ⟨g,o,none⟩=some (.int .u8 x.toNat)) (c1:w.cell? ⟨g,o+1,none⟩=some (.int .u8 y.toNat)) (c2:w.cell? ⟨g,o+2,none⟩=some (.int .u8 x2.toNat)) (c3:w.cell? ⟨g,o+3,none⟩=some (.int .u8 y2.toNat)) (hF:AF w) (hfe:O.first (O.rOp (S.word x y)) (O.rD (S.word x y)) (O.rS (S.word x y)) (O.rN (S.word x y))=(S.word x y)) (hl:¬ (n:Int) < 2 * O.rLen (S.word x y)) :
 Calls Tryz.prog 150 #[.slice (some ⟨g,o,none⟩) n cap] w fun e w'=>e = .returned (.tuple #[.string (Asmk (S.orderText (O.rk (S.word x y)) (S.rOrd (S.word x y) (S.word x2 y2))++[10])),.int .i64 (2 * O.rLen (S.word x y))])/\Below w.heap.size w w':=by
 have HF:=hid hF
 obtain ⟨a0,a1⟩:=S.word_bd x y
 obtain ⟨b0,b1⟩:=S.word_bd x2 y2
 have hn0:(0:Int) < n:=by omega
 have hn1:(1:Int) < n:=by omega
 have hn2:(2:Int) < n:=by omega
 obtain ⟨l1,l2⟩:1<=O.rLen (S.word x y)/\O.rLen (S.word x y)<=2:=by rcases S.rLen_or (S.word x y) with h | h <;> rw [h] <;> omega
 have hil:(Asmk (Lib.itoa (S.word x y))).size<=7:=itoa_len (S.word x y) (by omega)
 have hi1:¬ 9223372036854775807 < 6+(Asmk (Lib.itoa (S.word x y))).size:=by omega
 have hi2:¬ 9223372036854775807 < 6+(Asmk (Lib.itoa (S.word x y))).size+1:=by omega
 have HFE:=hid hfe
 have hne:(O.first (O.rOp (S.word x y)) (O.rD (S.word x y)) (O.rS (S.word x y)) (O.rN (S.word x y)) == (S.word x y))=true:=by rw [hfe];simp
 clear hfe
 clear hF hil
 go_enter Tryz.func150,Tryz.ntmps150
 go_wp2
 go_quiet ((go_at_call 133;exact Calls.quiet_of_same (wordOf_any x y _)))
 go_wp2
 go_quiet ((go_at_call 133;exact quiet_at (wordOf_any x2 y2 _)))
 go_wp2_with (first
  | (go_at_call 184;refine (read_W _ (S.word x2 y2) ⟨a0,a1⟩ ⟨b0,b1⟩ _ (af_drewN HF.out _).shapes).mono ?_;rintro e w1 ⟨rfl,hb1⟩;have hF1:=hid (af_alloc ((af_drewN HF.out _).kept hb1) (.cells #[.int .i64 (O.rOp (S.word x y)),.int .i64 (O.rD (S.word x y)),.int .i64 (O.rS (S.word x y)),.int .i64 (O.rN (S.word x y)),.int .i64 (O.rW (S.word x y) (S.word x2 y2))] 255)))
  | (go_at_call 185;refine (words_read (S.word x y) (S.word x2 y2) ⟨a0,a1⟩ ⟨b0,b1⟩ _ hF1.out.shapes).mono ?_;rintro e w2 ⟨g2,k2,rfl,hk2,hc2,hg2,hb2⟩;have hk2':(0:Int) < k2:=Int.natCast_pos.2 hk2;have hF2:=hid (hF1.out.kept hb2);obtain ⟨hcc,hff⟩:=bcell hb2;have hz2:=lt_box hb2)
  | (go_at_call 186;refine (orderLine_read (S.word x y) (S.word x2 y2) ⟨a0,a1⟩ ⟨b0,b1⟩ _ hF2.out).mono ?_;rintro e w3 ⟨rfl,hb3⟩))
 go_ret2
 exact ⟨rfl,stp (stp (stA (stp (st_drewN (st0 w) _) hb1) _) hb2) hb3⟩
theorem isOrder_iff (a:Int) (len:Nat):S.isOrder a len=true ↔ O.first (O.rOp a) (O.rD a) (O.rS a) (O.rN a)=a/\2 * O.rLen a<=len:=by
 unfold S.isOrder
 simp only [Bool.and_eq_true,beq_iff_eq,decide_eq_true_eq]
theorem line_yes (a:Int) (len:Nat) (b:Int) (h:O.first (O.rOp a) (O.rD a) (O.rS a) (O.rN a)=a) (h2:¬ (len:Int) < 2 * O.rLen a):S.lineOf a len b=(S.orderText (O.rk a) (S.rOrd a b),2 * (O.rLen a).toNat):=by
 unfold S.lineOf
 rw [if_pos ((isOrder_iff a len).2 ⟨h,by omega⟩)]
theorem line_no (a:Int) (len:Nat) (b:Int) (h:¬ (O.first (O.rOp a) (O.rD a) (O.rS a) (O.rN a)=a/\2 * O.rLen a<=len)):S.lineOf a len b=(S.wordText a,2):=by
 unfold S.lineOf
 rw [if_neg (fun hh=>h ((isOrder_iff a len).1 hh))]
theorem two_rLen (a:Int):((2 * (O.rLen a).toNat:Nat):Int)=2 * O.rLen a:=by rcases S.rLen_or a with h | h <;> rw [h] <;> rfl
theorem firstLine_any (g o n cap:Nat) (l:List UInt8) (hn:l.length=n) (h2:2<=n) (he:n % 2=0) (hcap:n<=cap) (w:World) (hg:g < w.heap.size) (hb:AsbytesAt w g o l) (hF:AF w) :
 Calls Tryz.prog 150 #[.slice (some ⟨g,o,none⟩) n cap] w fun e w'=>e = .returned (.tuple #[.string (Asmk ((S.firstLine l).1++[10])),.int .i64 ((S.firstLine l).2:Nat)])/\Below w.heap.size w w':=by
 match l,hn,hb with
 | x :: y :: r,hn,hb =>
  have c0:=hb 0 x rfl
  have c1:=hb 1 y rfl
  have e:S.firstLine (x :: y :: r)=S.lineOf (S.word x y) n (S.second r):=by rw [<- hn];rfl
  rw [e]
  match r,hn,hb with
  | [],hn,hb =>
   have hn2:n=2:=by simpa using hn.symm
   subst hn2
   by_cases hf:O.first (O.rOp (S.word x y)) (O.rD (S.word x y)) (O.rS (S.word x y)) (O.rN (S.word x y))=S.word x y
   ·by_cases hl:((2:Nat):Int) < 2 * O.rLen (S.word x y)
    ·rw [line_no _ _ _ (fun h=>by omega)]
     exact first_22 g o cap x y hcap w hg c0 c1 hF hf hl
    ·rw [line_yes _ _ _ hf hl]
     have:=first_23 g o cap x y hcap w hg c0 c1 hF hf hl
     rw [<- two_rLen] at this
     exact this
   ·rw [line_no _ _ _ (fun h=>hf h.1)]
    exact first_21 g o cap x y hcap w hg c0 c1 hF hf
  | [z],hn,hb=>simp at hn;omega
  | x2 :: y2 :: q,hn,hb =>
   have c2:=hb 2 x2 rfl
   have c3:=hb 3 y2 rfl
   have hn4:(3:Int) < n:=by simp at hn;omega
   have es:S.second (x2 :: y2 :: q)=S.word x2 y2:=rfl
   rw [es]
   by_cases hf:O.first (O.rOp (S.word x y)) (O.rD (S.word x y)) (O.rS (S.word x y)) (O.rN (S.word x y))=S.word x y
   ·by_cases hl:(n:Int) < 2 * O.rLen (S.word x y)
    ·rcases S.rLen_or (S.word x y) with h | h <;> omega
    ·rw [line_yes _ _ _ hf hl]
     have:=first_43 g o n cap x y x2 y2 hn4 hcap w hg c0 c1 c2 c3 hF hf hl
     rw [<- two_rLen] at this
     exact this
   ·rw [line_no _ _ _ (fun h=>hf h.1)]
    exact first_41 g o n cap x y x2 y2 hn4 hcap w hg c0 c1 c2 c3 hF hf
 | [x],hn,hb=>simp at hn;omega
 | [],hn,hb=>simp at hn;omega
theorem list_many (a:Option Addr) (n cap:Nat) (hn:(1024:Int) < n) (w:World) :
 Calls Tryz.prog 104 #[.slice a n cap] w fun e w'=>e = .returned (.tuple #[.string (Asmk []),.int .i64 2])/\w'=w:=by
 go_enter Tryz.func104,Tryz.ntmps104
 go_wp2
 go_ret2
 exact ⟨rfl,rfl⟩
theorem list_odd (a:Option Addr) (n cap:Nat) (hn:¬ (1024:Int) < n) (ho:(n:Int) % 2=1) (w:World) :
 Calls Tryz.prog 104 #[.slice a n cap] w fun e w'=>e = .returned (.tuple #[.string (Asmk []),.int .i64 4])/\w'=w:=by
 have h1:¬ (n:Int) % 2=0:=by omega
 have h2:(n:Int).tmod 2=1:=by rw [Int.tmod_eq_emod_of_nonneg (by omega)];exact ho
 go_enter Tryz.func104,Tryz.ntmps104
 go_wp2
 go_ret2
 exact ⟨rfl,rfl⟩
theorem isB_kept {T e:TypeId} {B b:Nat} {bs:List Value} {w w':World} (h:Lib.IsBuilder T e B b bs w) (hb:Below w.heap.size w w'):Lib.IsBuilder T e B b bs w':=by
 have key:∀ p,Lib.BuilderAt T e B b p bs w->Lib.BuilderAt T e B b p bs w':=fun p hp=>by
  have hlt:=hp.lt
  obtain ⟨hB,v,hk,hown,hne⟩:=hp
  exact ⟨hB,v,(hb.block b hlt).trans hk,hown.kept (grown_of_below hb) (own_none v),hne⟩
 rcases h with h | h
 ·exact Or.inl (key _ h)
 ·exact Or.inr (key _ h)
theorem strCells_mk (l:List UInt8):Lib.strCells (Asmk l)=Lib.byteCells l:=by
 first | rfl | simp [Lib.strCells,Lib.byteCells,Asmk]
theorem byteCells_append (a b:List UInt8):Lib.byteCells a++Lib.byteCells b=Lib.byteCells (a++b):=by
 first | rfl | simp [Lib.byteCells]
theorem byteCells_len (a:List UInt8):(Lib.byteCells a).length=a.length:=by
 first | rfl | simp [Lib.byteCells]
theorem Aswrite_any (B b:Nat) (acc:List UInt8) (s:List UInt8) (w:World) (h:Lib.IsBuilder 146 5 B b (Lib.byteCells acc) w) (hl:acc.length+s.length<=1000000) (hB:B<=w.heap.size) :
 Calls Tryz.prog 59 #[.pointer (some ⟨b,0,none⟩),.string (Asmk s)] w fun e w'=>e = .returned (.tuple #[.int .i64 (Asmk s).size,.nilIface])/\Lib.IsBuilder 146 5 B b (Lib.byteCells (acc++s)) w'/\Below B w w':=by
 refine (Any.Builder_WriteString (ρ := Tryz.lays156_ren) { Tryz.lays156 with } Tryz.Builder_Extra_156 B b (Lib.byteCells acc) (Asmk s) w h ?_ hB).mono fun e w' ⟨he,h1,h2⟩=>⟨he,Or.inr ?_,h2⟩
 ·rw [byteCells_len,mk_size];omega
 ·rw [strCells_mk,byteCells_append] at h1
  exact h1
theorem name_len:∀ k,k < 32->(K.row k).1.length<=4:=by decide +kernel
theorem Asline_len (l:List UInt8):(S.firstLine l).1.length<=60:=by
 have hb:=S.second_bd l
 unfold S.firstLine S.lineOf
 split
 ·have hok:=O.read_ok (S.second l) (S.second (l.drop 2)) hb (S.second_bd _)
  obtain ⟨o1,o2,o3⟩:=(O.isOp_iff _).1 (O.rOp_isOp (S.second l) hb)
  have hn:=name_len (O.rk (S.second l)) (by show (O.rOp _).toNat < 32;omega)
  have hj:=join_small (k:=O.rk (S.second l)) (o:=S.rOrd (S.second l) (S.second (l.drop 2))) hok
  show (S.orderText _ _).length<=60
  unfold S.orderText
  rw [List.length_append]
  split
  ·simp;omega
  ·rw [List.length_cons];omega
 ·have:=itoa_len (S.second l) (by omega)
  show (S.wordText _).length<=60
  unfold S.wordText
  simp [S.plain];omega
theorem listN_step (f:Nat) (rom:List UInt8) (h:rom ≠ []):S.listN (f+1) rom=(S.firstLine rom).1++[10]++S.listN f (rom.drop (S.firstLine rom).2):=by
 simp [S.listN,h]
theorem listN_fuel:∀ (f:Nat) (rom:List UInt8),rom.length<=f->∀ g,rom.length<=g->S.listN f rom=S.listN g rom
 | 0,rom,hf,g,hg=>by
  have:rom=[]:=List.length_eq_zero_iff.1 (by omega)
  subst this
  cases g <;> simp [S.listN]
 | f+1,rom,hf,g,hg=>by
  by_cases h0:rom=[]
  ·subst h0;cases g <;> simp [S.listN]
  ·have hl:rom.length ≠ 0:=fun h=>h0 (List.length_eq_zero_iff.1 h)
   obtain ⟨g',rfl⟩:∃ g',g=g'+1:=⟨g - 1,by omega⟩
   rw [listN_step f rom h0,listN_step g' rom h0]
   have hs:=S.first_size rom
   rw [listN_fuel f (rom.drop (S.firstLine rom).2) (by simp;omega) g' (by simp;omega)]
theorem list_step (rom:List UInt8) (h:rom ≠ []):S.list rom=(S.firstLine rom).1++[10]++S.list (rom.drop (S.firstLine rom).2):=by
 have hl:rom.length ≠ 0:=fun h'=>h (List.length_eq_zero_iff.1 h')
 obtain ⟨f,hf⟩:∃ f,rom.length=f+1:=⟨rom.length - 1,by omega⟩
 have hs:=S.first_size rom
 unfold S.list
 rw [hf,listN_step f rom h,listN_fuel f (rom.drop (S.firstLine rom).2) (by simp;omega) _ (Nat.le_refl _)]
theorem string_any (B b:Nat) (l:List UInt8) (w:World) (h:Lib.IsBuilder 146 5 B b (Lib.byteCells l) w) (hB:B<=w.heap.size) :
 Calls Tryz.prog 62 #[.pointer (some ⟨b,0,none⟩)] w fun e w'=>e = .returned (.string (Asmk l))/\Below B w w':=Tryz.Builder_String_any B b l w h hB
theorem list_0 (a:Option Addr) (cap:Nat) (w:World) :
 Calls Tryz.prog 104 #[.slice a 0 cap] w fun e w'=>e = .returned (.tuple #[.string (Asmk []),.int .i64 0])/\Below w.heap.size w w':=by
 go_enter Tryz.func104,Tryz.ntmps104
 go_wp2
 go_loop [0] (fun r=>r = .slice a 0 cap) (fun _=>0)
 case atStart=>rfl
 case round =>
  subst hrel
  go_wp2_with (go_at_call 62;refine (string_any w.heap.size w.heap.size [] _ (Lib.fresh_isBuilder _ _ w) (by simp)).mono ?_;rintro e w1 ⟨rfl,hb1⟩)
  go_ret2
  exact ⟨rfl,(stA (st0 _) _).trans hb1⟩
theorem list_n (g o n cap:Nat) (l:List UInt8) (hn:l.length=n) (h2:2<=n) (he:n % 2=0) (hm:n<=1024) (hcap:n<=cap) (w:World) (hg:g < w.heap.size) (hb:AsbytesAt w g o l) (hF:AF w) :
 Calls Tryz.prog 104 #[.slice (some ⟨g,o,none⟩) n cap] w fun e w'=>e = .returned (.tuple #[.string (Asmk (S.list l)),.int .i64 0])/\Below w.heap.size w w':=by
 have HF:=hid hF
 have HB:=hid hb
 have he0:(n:Int) % 2=0:=by omega
 have he1:(n:Int).tmod 2=0:=by rw [Int.tmod_eq_emod_of_nonneg (by omega)];exact he0
 have hm':¬ (1024:Int) < n:=by omega
 clear hF hb
 go_enter Tryz.func104,Tryz.ntmps104
 go_wp2
 go_loopw [0] (fun r wr=>∃ (q:Nat) (acc:List UInt8) (a:Option Addr),q<=n/\q % 2=0/\r = .slice a (n - q) (cap - q)/\(q < n->a=some ⟨g,o+q,none⟩)/\Lib.IsBuilder 146 5 w.heap.size w.heap.size (Lib.byteCells acc) wr/\Below w.heap.size w wr/\acc++S.list (l.drop q)=S.list l/\acc.length<=64 * q) (fun r _=>match r with | .slice _ k _=>k | _=>0)
 case atStart=>exact ⟨0,[],_,by omega,rfl,rfl,fun _=>rfl,Lib.fresh_isBuilder _ _ w,stA (st0 _) _,rfl,by simp⟩
 case round =>
  obtain ⟨q,acc,a,hq,hq2,rfl,ha,hB,hbl,hacc,hlen⟩:=hrel
  have hszr:=hbl.size
  by_cases hlt:q < n
  ·obtain rfl:=ha hlt
   have hlt':(0:Int) < ((n - q:Nat):Int):=by omega
   have hld:(l.drop q).length=n - q:=by rw [List.length_drop,hn]
   have hne:l.drop q ≠ []:=fun h=>by rw [h] at hld;simp at hld;omega
   have HL:=hid (firstLine_any g (o+q) (n - q) (cap - q) (l.drop q) hld (by omega) (by omega) (by omega) wr (by omega) ((HB.out.kept hbl hg).drop q) (HF.out.kept hbl))
   have hll:=Asline_len (l.drop q)
   have hst:=hid (list_step (l.drop q) hne)
   have hfl:=S.first_le (l.drop q) (by omega)
   rcases S.first_size (l.drop q) with hs | hs
   ·rw [hs] at HL hst hfl
    have hfl':(2:Int)<=((n - q:Nat):Int):=by omega
    go_wp2_with (first
     | (go_at_call 150;refine HL.out.mono ?_;rintro e w1 ⟨rfl,hb1⟩)
     | (go_at_call 59;refine (Aswrite_any w.heap.size w.heap.size acc _ _ (isB_kept hB hb1) (by simp;omega) (Nat.le_trans hszr hb1.size)).mono ?_;rintro e w2 ⟨rfl,hB2,hb2⟩))
    refine ⟨⟨q+2,acc++((S.firstLine (l.drop q)).1++[10]),_,by omega,by omega,by rw [show n - q - 2=n - (q+2) by omega,show cap - q - 2=cap - (q+2) by omega],fun h=>?_,hB2,(stp hbl hb1).trans hb2,?_,?_⟩,?_⟩
    ·rw [if_neg (by omega)];rfl
    ·rw [<- hacc,hst.out,List.drop_drop];simp
    ·simp;omega
    ·simp only;omega
   ·rw [hs] at HL hst hfl
    have hfl':(4:Int)<=((n - q:Nat):Int):=by omega
    go_wp2_with (first
     | (go_at_call 150;refine HL.out.mono ?_;rintro e w1 ⟨rfl,hb1⟩)
     | (go_at_call 59;refine (Aswrite_any w.heap.size w.heap.size acc _ _ (isB_kept hB hb1) (by simp;omega) (Nat.le_trans hszr hb1.size)).mono ?_;rintro e w2 ⟨rfl,hB2,hb2⟩))
    refine ⟨⟨q+4,acc++((S.firstLine (l.drop q)).1++[10]),_,by omega,by omega,by rw [show n - q - 4=n - (q+4) by omega,show cap - q - 4=cap - (q+4) by omega],fun h=>?_,hB2,(stp hbl hb1).trans hb2,?_,?_⟩,?_⟩
    ·rw [if_neg (by omega)];rfl
    ·rw [<- hacc,hst.out,List.drop_drop];simp
    ·simp;omega
    ·simp only;omega
  ·have hqn:q=n:=by omega
   subst hqn
   have h0:q - q=0:=by omega
   rw [h0]
   have hacc':acc=S.list l:=by
    rw [<- hacc,List.drop_of_length_le (by omega)];simp [S.list,S.listN]
   subst hacc'
   go_wp2_with (go_at_call 62;refine (string_any w.heap.size w.heap.size (S.list l) _ hB hszr).mono ?_;rintro e w1 ⟨rfl,hb1⟩)
   go_ret2
   exact ⟨rfl,hbl.trans hb1⟩
def listRes (l:List UInt8):List UInt8 × Int:=if 1024 < l.length then ([],2) else if l.length % 2=1 then ([],4) else (S.list l,0)
def AssliceAt (w:World) (v:Value) (l:List UInt8):Prop:=(∃ a cap,v = .slice a 0 cap/\l=[]) \/ ∃ g o cap,v = .slice (some ⟨g,o,none⟩) l.length cap/\l.length<=cap/\g < w.heap.size/\AsbytesAt w g o l
theorem AssliceAt.kept {w w':World} {v:Value} {l:List UInt8} (h:AssliceAt w v l) (hb:Below w.heap.size w w'):AssliceAt w' v l:=by
 rcases h with h | ⟨g,o,cap,h1,h2,h3,h4⟩
 ·exact Or.inl h
 ·exact Or.inr ⟨g,o,cap,h1,h2,Nat.lt_of_lt_of_le h3 hb.size,h4.kept hb h3⟩
theorem list_any (v:Value) (l:List UInt8) (w:World) (h:AssliceAt w v l) (hF:AF w) :
 Calls Tryz.prog 104 #[v] w fun e w'=>e = .returned (.tuple #[.string (Asmk (listRes l).1),.int .i64 (listRes l).2])/\Below w.heap.size w w':=by
 rcases h with ⟨a,cap,rfl,rfl⟩ | ⟨g,o,cap,rfl,h2,h3,h4⟩
 ·exact list_0 a cap w
 ·unfold listRes
  by_cases hm:1024 < l.length
  ·rw [if_pos hm]
   exact (list_many _ _ cap (by omega) w).mono fun e w' hh=>⟨hh.1,hh.2 ▸ st0 _⟩
  ·rw [if_neg hm]
   by_cases ho:l.length % 2=1
   ·rw [if_pos ho]
    exact (list_odd _ _ cap (by omega) (by omega) w).mono fun e w' hh=>⟨hh.1,hh.2 ▸ st0 _⟩
   ·rw [if_neg ho]
    by_cases h0:l.length=0
    ·have:l=[]:=List.length_eq_zero_iff.1 h0
     subst this
     exact list_0 _ cap w
    ·exact list_n g o l.length cap l rfl (by omega) (by omega) (by omega) h2 w h3 h4 hF
end Go.Proofs.YtbhpfkjfijdmaaaGreatDoor
