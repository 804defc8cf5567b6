/-
  Parts of a proof, joined.
-/
import Derived.Test.YtbhpfkjfijdmaaaGreatDoorZy14
import Derived.Test.YtbhpfkjfijdmaaaGreatDoorZy15
import Derived.Test.YtbhpfkjfijdmaaaGreatDoorZy12
import Derived.Deep.RegionLaw
namespace Go.Proofs.YtbhpfkjfijdmaaaGreatDoor
open Go.ChangeShapes Go.WideShapes Go.ChangeAt Go.RowKit
set_option linter.unusedVariables false
set_option maxRecDepth 100000
set_option maxHeartbeats 1600000
section
variable {F : Fx} {W : World} {M : Mach} {tk : Tk}
theorem Bu.read_A (h:Bd F W M tk) (a:Int) (ha:0<=a/\a<=65535) (hp:∀ i,i < 32->GetA F M tk i) :
 Calls Tryz.prog 82 #[pt F.g 143,.int .u16 a] W fun e w'=>e = .returned (.int .u8 (M.rdA a).1)/\Bd F w' (M.rdA a).2 tk/\Bt F W w':=by
 unfold Mach.rdA
 cases hP:isPort a
 ·have hl:=hid (Bu.look_A h a ha)
  have hP':=hid hP
  have H:=hid h
  clear h hP hp
  go_enter Tryz.func82,Tryz.ntmps82
  go_wp2_with (first
   | (go_at_call 134;refine (Bu.isPort_any a _ ha).mono ?_;rw [hP'.out];rintro e w1 ⟨rfl,rfl⟩)
   | (go_at_call 136;refine hl.out.mono ?_;rintro e w1 ⟨rfl,rfl⟩))
  go_ret
  exact ⟨rfl,H.out,Bt.refl _ _⟩
 ·obtain ⟨n,hn⟩:∃ n:Nat,a % 32=n:=⟨(a % 32).toNat,by omega⟩
  have hn2:n < 32:=by omega
  have hm:Int.tmod a 32=n:=by rw [Int.tmod_eq_emod_of_nonneg ha.1,hn]
  have hq:=hid (hp n hn2 W h)
  have hP':=hid hP
  have e0:portNo a=n:=by unfold portNo;omega
  rw [e0]
  obtain ⟨c0,c1⟩:=h.pA n hn2
  have hg:=h.bx.z
  have hn3:(n:Int) < 32:=by omega
  clear h hP hp e0
  generalize F.rdA n=vr at *
  generalize F.wrA n=vw at *
  go_enter Tryz.func82,Tryz.ntmps82
  go_wp2_with (first
   | (go_at_call 134;refine (Bu.isPort_any a _ ha).mono ?_;rw [hP'.out];rintro e w1 ⟨rfl,rfl⟩)
   | (go_at_call 135;refine hq.out.mono ?_;rintro e w1 ⟨rfl,hB1,hB2⟩))
  go_ret
  exact ⟨rfl,hB1,hB2⟩
theorem Bu.write_M (h:Bd F W M tk) (a n:Int) (ha:0<=a/\a<=65535) (hn:0<=n/\n<=255) (hp:∀ i,i < 32->PutM F M tk i n) :
 Calls Tryz.prog 83 #[pt F.g 77,.int .u16 a,.int .u8 n] W fun e w'=>e = .returned (.tuple #[])/\Bd F w' (M.wrM a n) (tk.add (tookM a n))/\Bt F W w':=by
 unfold Mach.wrM tookM
 cases hP:isPort a
 ·have hm:=hid (Bu.mem_M h a ha)
  have e77:=h.at 78 (mval 77 F.g 0) rfl
  have hP':=hid hP
  have H:=hid h
  have hg:=h.bx.z
  clear h hP hp
  simp only [Bool.false_eq_true,if_false,Tk.add_zero]
  unfold Mach.memM
  unfold Fx.memM at hm
  by_cases h1:a < 32768
  ·rw [if_pos h1]
   rw [if_pos h1] at hm
   go_enter Tryz.func83,Tryz.ntmps83
   go_wp2_with (first
    | (go_at_call 134;refine (Bu.isPort_any a _ ha).mono ?_;rw [hP'.out];rintro e w1 ⟨rfl,rfl⟩)
    | (go_at_call 77;refine hm.out.mono ?_;rintro e w1 ⟨rfl,rfl⟩))
   go_end0
   exact ⟨rfl,H.out,Bt.refl _ _⟩
  ·rw [if_neg h1]
   rw [if_neg h1] at hm
   by_cases h2:a < 49152
   ·rw [if_pos h2]
    rw [if_pos h2] at hm
    obtain ⟨ec,ez,ef⟩:=H.out.ramAt ((a - 32768) % 128) (by omega) (by omega)
    go_enter Tryz.func83,Tryz.ntmps83
    go_wp2_with (first
     | (go_at_call 134;refine (Bu.isPort_any a _ ha).mono ?_;rw [hP'.out];rintro e w1 ⟨rfl,rfl⟩)
     | (go_at_call 77;refine hm.out.mono ?_;rintro e w1 ⟨rfl,rfl⟩))
    go_end0
    exact ⟨rfl,H.out.putRam _ n (by omega) (by omega) hn,(Bt.refl _ _).setR H.out.nd _ _⟩
   ·rw [if_neg h2]
    rw [if_neg h2] at hm
    by_cases h3:a < 53248
    ·rw [if_pos h3]
     rw [if_pos h3] at hm
     obtain ⟨ec,ez,ef⟩:=H.out.viAt ((a - 49152) % 256) (by omega) (by omega)
     go_enter Tryz.func83,Tryz.ntmps83
     go_wp2_with (first
      | (go_at_call 134;refine (Bu.isPort_any a _ ha).mono ?_;rw [hP'.out];rintro e w1 ⟨rfl,rfl⟩)
      | (go_at_call 77;refine hm.out.mono ?_;rintro e w1 ⟨rfl,rfl⟩))
     go_end0
     exact ⟨rfl,H.out.putVideo _ n (by omega) (by omega) hn,(Bt.refl _ _).setV H.out.nd _ _⟩
    ·rw [if_neg h3]
     rw [if_neg h3] at hm
     go_enter Tryz.func83,Tryz.ntmps83
     go_wp2_with (first
      | (go_at_call 134;refine (Bu.isPort_any a _ ha).mono ?_;rw [hP'.out];rintro e w1 ⟨rfl,rfl⟩)
      | (go_at_call 77;refine hm.out.mono ?_;rintro e w1 ⟨rfl,rfl⟩))
     go_end0
     exact ⟨rfl,H.out,Bt.refl _ _⟩
 ·obtain ⟨k,hk⟩:∃ k:Nat,a % 32=k:=⟨(a % 32).toNat,by omega⟩
  have hk2:k < 32:=by omega
  have hm:Int.tmod a 32=k:=by rw [Int.tmod_eq_emod_of_nonneg ha.1,hk]
  have hq:=hid (hp k hk2 W h)
  have hP':=hid hP
  have e0:portNo a=k:=by unfold portNo;omega
  simp only [if_true]
  rw [e0]
  obtain ⟨c0,c1⟩:=h.pM k hk2
  have hg:=h.bx.z
  have hk3:(k:Int) < 32:=by omega
  clear h hP hp e0
  generalize F.rdM k=vr at *
  generalize F.wrM k=vw at *
  go_enter Tryz.func83,Tryz.ntmps83
  go_wp2_with (first
   | (go_at_call 134;refine (Bu.isPort_any a _ ha).mono ?_;rw [hP'.out];rintro e w1 ⟨rfl,rfl⟩)
   | (go_at_call 137;refine hq.out.mono ?_;rintro e w1 ⟨rfl,hB1,hB2⟩))
  go_end0
  exact ⟨rfl,hB1,hB2⟩
end
section
variable {F : Fx} {W : World} {M M' : Mach} {tk : Tk}
theorem Bd.fresh (h:Bd F W M tk) (ht:F.T W.heap.size):False:=by
 have h1:=h.bx.z
 obtain ⟨_,_,_,h2⟩:=h.ramV
 obtain ⟨_,_,_,h3⟩:=h.ownV
 obtain ⟨_,_,_,h4⟩:=h.viV
 have h2:=h2.z
 have h3:=h3.z
 have h4:=h4.z
 rcases ht with e | e | e | e <;> omega
theorem Bu.word_at (h:Bd F W M tk) (o:Nat) (x0 x1:Int) (h0:ReadsAt F M tk o 0 x0) (h1:ReadsAt F M tk o 1 x1) (b0:0<=x0/\x0<=255) (b1:0<=x1/\x1<=255) :
 Calls Tryz.prog 81 #[reachV F.g o,.int .u16 0] W fun e w'=>e = .returned (.int .u16 (x0 * 256+x1))/\Bd F w' M tk/\Bt F W w':=by
 have H:=hid h
 have hB:=h.big
 clear h
 go_enter Tryz.func81,Tryz.ntmps81
 go_wp2_with (first
  | (go_at_call 133;refine (Lnof_any x0 x1 _ b0 b1).mono ?_;rintro e w3 ⟨rfl,rfl⟩)
  | (go_at_call 132;refine (Bu.byte_at HB1.out o 1 x1 h1).mono ?_;rintro e w2 ⟨rfl,hB2,hT2⟩)
  | (go_at_call 132;refine (Bu.byte_at (H.out.over _) o 0 x0 h0).mono ?_;rintro e w1 ⟨rfl,hB1,hT1⟩;have HB1:=hid hB1;have hc:=fun i=>hT1.cell (k:=W.heap.size) (by simp) (fun ht=>H.out.fresh ht) i;have z1:W.heap.size < w1.heap.size:=Nat.lt_of_lt_of_le (by simp) hT1.size))
 go_ret
 exact ⟨rfl,hB2,Mv.trans (Mv.trans (Mv.of_below hB (stA (st0 _) _)) hT1) hT2⟩
end
section
variable {F : Fx} {W : World} {M M' : Mach} {tk : Tk}
def begL (x:Int):List Value:=[.int .u16 0,.int .u16 0,.int .u16 0,.int .u16 0,.int .u16 0,.int .u16 0,.int .u16 0,.int .u16 0,.int .u16 x,.bool false,.bool false,.bool false,.bool false,.bool false,.bool false]
theorem begL_eq (hi lo:Int):begL (hi * 256+lo)=cpuL (beginC hi lo):=rfl
theorem info_cpu:(Tryz.prog.info? 25).map (·.size)=some 15:=by kernel_rfl
theorem beg_one (x:Int):(#[.int .u16 0,.int .u16 0,.int .u16 0,.int .u16 0,.int .u16 0,.int .u16 0,.int .u16 0,.int .u16 0,.int .u16 x,.bool false,.bool false,.bool false,.bool false,.bool false,.bool false]:Array Value).all (·.oneCell')=true:=by simp [Value.oneCell']
theorem load_beg {Y:World} {b:Nat} {x:Int} (h:Bx Y b (begL x)):(loadVar 25 ⟨b,0,none⟩).run Tryz.prog Y = .ok (.agg (begL x).toArray) Y :=
 run_loadVar_mid Y b 0 25 _ _ h.c Tryz.underlying25 rfl info_cpu
theorem Rw.off {v:Value} {k:Nat} {l0 l:List UInt8} {w1:World} {b:Nat} (h0:Rw W v k l0) (h:Rw w1 v k l) (hb:W.heap.size<=b) (o:Nat) (vs:List Value):Rw (w1.setCells b o vs) v k l:=by
 rcases h with h | ⟨cap,e,hl,hx⟩
 ·exact Or.inl h
 ·rcases h0 with ⟨e0,_⟩ | ⟨cap0,e0,_,hx0⟩
  ·rw [e0] at e;cases e
  ·exact Or.inr ⟨cap,e,hl,hx.fars (by have:=hx0.z;omega) o vs⟩
theorem Bd.off {M0:Mach} {w1:World} {b:Nat} (h0:Bd F W M0 tk) (h:Bd F w1 M tk) (hb:W.heap.size<=b) (o:Nat) (vs:List Value):Bd F (w1.setCells b o vs) M tk:=by
 refine ⟨h.bx.fars (by have:=h0.bx.z;omega) o vs,h0.mr.off h.mr hb o vs,h0.ar.off h.ar hb o vs,h0.ra.off h.ra hb o vs,h0.ow.off h.ow hb o vs,h0.vi.off h.vi hb o vs,fun x u hx=>?_,h.nd,h.fit,by rw [size_sets];exact h.big,ows_of h.ws (fun k hk=>heap_sets_far (by have:=(h0.ws.lt k hk).2;omega) _ _ _),h.wd⟩
 have hn:x ≠ b:=by have:=(h0.env x u hx).1;omega
 obtain ⟨e1,e2⟩:=h.env x u hx
 exact ⟨by rw [size_sets];exact e1,(World.cell?_of_block (w:=w1) (heap_sets_far hn _ _ _)).trans e2⟩
theorem Bt.off {b:Nat} (hB:F.B<=W.heap.size) (hb:W.heap.size<=b):∀ (vs:List Value) (o:Nat) (w1:World),Bt F W w1->Bt F W (w1.setCells b o vs)
 | [],o,w1,h=>h
 | v :: vs,o,w1,h=>Bt.off hB hb vs (o+1) _ (Mv.setCell h (Nat.le_trans hB hb) (Or.inr hb) v)
theorem Bt.below (h:Bd F W M tk) {w0:World} (hb:Below W.heap.size W w0):Bt F W w0:=Mv.of_below h.big hb
theorem Bu.begin_any (h:Bd F W M tk) (o:Nat) (x0 x1:Int) (h0:ReadsAt F M tk o 0 x0) (h1:ReadsAt F M tk o 1 x1) (b0:0<=x0/\x0<=255) (b1:0<=x1/\x1<=255) :
 Calls Tryz.prog 46 #[reachV F.g o] W fun e w'=>e = .returned (.agg (begL (x0 * 256+x1)).toArray)/\Bd F w' M tk/\Bt F W w':=by
 have H:=hid h
 have hB:=h.big
 clear h
 go_enter Tryz.func46,Tryz.ntmps46
 go_wp2_with (first
  | (go_at_call 81;refine (Bu.word_at ((H.out.over _).over _) o x0 x1 h0 h1 b0 b1).mono ?_;rintro e w1 ⟨rfl,hB1,hT1⟩;have HX:=hid (Bx.same (Bx.new _ (begL 0) _ (by simp)) hT1.size (hT1.block (W.heap.size+1) (by simp) (fun ht=>(H.out.over (.cells #[mval 82 F.g o,mval 83 F.g o] 122)).fresh (by simpa using ht))));have HB1:=hid hB1;have HT1:=hid hT1;clear hB1 hT1)
  | (refine wpList_store_mid rfl 25 _ _ rfl (W.heap.size+1) 0 _ rfl rfl (Bx.there HX.out 0 15 (by simp [begL])) info_cpu (beg_one _) ?_
     refine Pl.cutL (fun Y=>Bd F Y M tk/\Bt F W Y/\Bx Y (W.heap.size+1) (begL (x0 * 256+x1))) ⟨?_,?_,?_⟩ ?_
     ·exact Bd.off H.out HB1.out (Nat.le_succ _) 0 _
     ·exact Bt.off hB (Nat.le_succ _) _ 0 _ (Mv.trans (Bt.below H.out (stA (stA (st0 _) _) _)) HT1.out)
     ·exact HX.out.puts 0 (begL (x0 * 256+x1)) (by simp [begL])
     rintro Y ⟨hY1,hY2,hY3⟩
     have HY1:=hid hY1
     have HY2:=hid hY2
     have HY3:=hid hY3
     clear hY1 hY2 hY3))
 exact bodyPost_ret (v:=.agg _) (by simp only [results,Tryz.results46];simp;exact Pl.res (load_beg HY3.out)) rfl ⟨rfl,HY1.out,HY2.out⟩
end
section
variable {F : Fx} {W : World} {M M' : Mach} {tk : Tk}
theorem lookA_bd (M:Mach) (a:Int):0<=M.lookA a/\M.lookA a<=255:=by
 unfold Mach.lookA romAt
 split
 ·split
  ·exact bget_bd _ _
  ·omega
 ·split
  ·exact bget_bd _ _
  ·split
   ·split
    ·exact bget_bd _ _
    ·omega
   ·omega
theorem Bu.reads_A (a:Int) (h0:0<=a/\a<=1):ReadsAt F M tk 143 a (M.lookA a):=by
 intro W h
 have hP:isPort a=false:=by unfold isPort;exact decide_eq_false (by omega)
 have hl:=hid (Bu.look_A h a (by omega))
 have hP':=hid hP
 have H:=hid h
 clear h hP
 go_enter Tryz.func82,Tryz.ntmps82
 go_wp2_with (first
  | (go_at_call 134;refine (Bu.isPort_any a _ (by omega)).mono ?_;rw [hP'.out];rintro e w1 ⟨rfl,rfl⟩)
  | (go_at_call 136;refine hl.out.mono ?_;rintro e w1 ⟨rfl,rfl⟩))
 go_ret
 exact ⟨rfl,H.out,Bt.refl _ _⟩
theorem Bu.reads_M (a:Int) (h0:0<=a/\a<=1):ReadsAt F M tk 77 a (M.lookM a):=by
 intro W h
 have hP:isPort a=false:=by unfold isPort;exact decide_eq_false (by omega)
 have hl:=hid (Bu.look_M h a (by omega))
 have hP':=hid hP
 have H:=hid h
 clear h hP
 go_enter Tryz.func82,Tryz.ntmps82
 go_wp2_with (first
  | (go_at_call 134;refine (Bu.isPort_any a _ (by omega)).mono ?_;rw [hP'.out];rintro e w1 ⟨rfl,rfl⟩)
  | (go_at_call 136;refine hl.out.mono ?_;rintro e w1 ⟨rfl,rfl⟩))
 go_ret
 exact ⟨rfl,H.out,Bt.refl _ _⟩
theorem grant_fit (h:M.fit) (n:Int):(M.grant n).fit:={ h with main:=h.main }
theorem beg_ok (x y:Int) (hx:0<=x/\x<=255) (hy:0<=y/\y<=255):(beginC x y).ok:=by
 refine ⟨rfl,fun z hz=>?_,?_,?_⟩
 ·have:z=0:=by
   simp only [beginC,C.Cpu.zero,List.mem_cons,List.not_mem_nil,or_false] at hz
   omega
  omega
 ·show 0<=x * 256+y;omega
 ·show x * 256+y<=65535;omega
theorem Bu.aux_w0 (h:Bd F W M tk) (n:Int) (hn:0<=n/\n<=255) (hh:(M.held && !(odd (n / 2)))=false):Calls Tryz.prog 126 #[pt F.g 0,.int .u8 n] W fun e w'=>e = .returned (.tuple #[])/\Bd F w' (M.putM 16 n) tk/\Bt F W w':=by
 have c0:=h.at 67 (.bool M.granted) rfl
 have c1:=h.at 68 (.bool M.held) rfl
 have ff:=h.bx.f
 have hg:=h.bx.z
 have H:=hid h
 have a1:=and_one' n hn
 have a2:=and_two' n hn
 have e0:M.putM 16 n=M.grant n:=by show M.letGo n=_;unfold Mach.letGo;rw [if_neg (by rw [hh];decide)]
 rw [e0]
 have hp:Bd F ((W.setCell ⟨F.g,67,none⟩ (.bool (odd n))).setCell ⟨F.g,68,none⟩ (.bool (odd (n / 2)))) (M.grant n) tk :=
  (h.put (M':={ M with granted:=odd n }) (tk':=tk) 67 _ (by omega) rfl ⟨rfl,rfl,rfl,rfl,rfl⟩ { h.fit with main:=h.fit.main }).put 68 _ (by omega) rfl ⟨rfl,rfl,rfl,rfl,rfl⟩ (grant_fit h.fit n)
 have HP:=hid hp
 clear h e0 hp
 generalize M.held=hd at *
 rcases odd_cases n with ⟨p,q⟩ | ⟨p,q⟩
 all_goals
  rw [p] at a1
  rw [q] at HP
  rcases odd_cases (n / 2) with ⟨r,s⟩ | ⟨r,s⟩
 all_goals
  rw [r] at a2
  rw [s] at HP hh
  clear p q r s
  cases hd
 all_goals first
  | (exfalso;revert hh;decide)
  | (clear hh
     go_enter Tryz.func126,Tryz.ntmps126
     go_wp2
     go_end0
     exact ⟨rfl,HP.out,((Bt.refl _ _).set H.out.nd _ _).set H.out.nd _ _⟩)
end
theorem step_store_mid {P:Program} {ops:Array Oper} {op:Oper} {a:Act} {w:World} {K:Act->World->Prop} {Q:Exit->Act->World->Prop} {E:Prop} (hgd:op.guard=none) (ty:TypeId) (x y:Operand) (ho:op.op = .store ty x y)
 (b o:Nat) (cells:Array Value) (hx:a.eval x = .pointer (some ⟨b,o,none⟩)) (hy:a.eval y = .agg cells) (ht:w.there b o cells.size) (hi:(P.info? ty).map (·.size)=some cells.size) (h1:cells.all (·.oneCell')=true)
 (h:K (a.put op.dst undef) (w.setCells b o cells.toList)):if Region.wanted op (yielded ops a.tmps)=true then Oper.wp P op a w K Q else E:=by
 rw [if_pos (by simp [Region.wanted,hgd])]
 exact wp_store_mid ty x y ho b o cells hx hy ht hi h1 h
theorem step_load_mid {P:Program} {ops:Array Oper} {op:Oper} {a:Act} {w:World} {K:Act->World->Prop} {Q:Exit->Act->World->Prop} {E:Prop} (hgd:op.guard=none) (ty:TypeId) (x:Operand) (ho:op.op = .load ty x)
 (b o:Nat) (hx:a.eval x = .pointer (some ⟨b,o,none⟩)) (cs:List Value) (u:TypeDesc) (hc:w.rangeAt b o cs) (hu:P.underlying ty=some u) (hag:u.isRow=true) (hi:(P.info? ty).map (·.size)=some cs.length)
 (h:K (a.put op.dst (.agg cs.toArray)) w):if Region.wanted op (yielded ops a.tmps)=true then Oper.wp P op a w K Q else E:=by
 rw [if_pos (by simp [Region.wanted,hgd])]
 exact wp_load_mid ty x ho b o hx cs u hc hu hag hi h
theorem putL_mid (C:List Value):∀ (B' B A:List Value),B'.length=B.length->putL (A++(B++C)) A.length B'=A++(B'++C)
 | [],[],A,_=>rfl
 | v :: vs,b :: bs,A,h=>by
  have e:(A++(b :: bs++C)).set A.length v=(A++[v])++(bs++C):=by simp
  have ih:=putL_mid C vs bs (A++[v]) (by simpa using h)
  simp only [List.length_append,List.length_cons,List.length_nil,Nat.zero_add] at ih
  show putL ((A++(b :: bs++C)).set A.length v) (A.length+1) vs=_
  rw [e,ih]
  simp
def rest1 (M:Mach):List Value:=[.int .u8 M.p0.d,.bool M.p0.l,.int .u8 M.p0.s,.int .u8 M.p1.d,.bool M.p1.l,.int .u8 M.p1.s,.int .u16 M.t.r,.int .u16 M.t.c,.bool M.t.on,.bool M.t.g]
def rest2 (M:Mach):List Value:=[.int .i64 M.b.l,.int .i64 M.b.a,.bool M.b.g,.int .i64 M.b.f,.int .u16 M.fr,.int .u16 M.to,.bool M.granted,.bool M.held,.int .u8 M.m0,.int .u8 M.m1,.bool M.rung,.int .i64 M.clock,.int .i64 M.mready,.int .i64 M.aready]
def sndL (s:Sd):List Value:=[.int .u16 s.a.p,.int .u16 s.a.c,.int .u8 s.a.l,.bool s.a.h,.int .u16 s.a.n,.int .u16 s.b.p,.int .u16 s.b.c,.int .u8 s.b.l,.bool s.b.h,.int .u16 s.b.n,.int .u16 s.c.p,.int .u16 s.c.c,.int .u8 s.c.l,.bool s.c.h,.int .u16 s.c.n,.int .i64 s.w]
theorem restL_eq (M:Mach):restL M=rest1 M++(sndL M.s++rest2 M):=rfl
theorem Fx.putMain (F:Fx) (M:Mach) (tk:Tk) (c:C.Cpu):putL (F.cells M tk) 0 (cpuL c)=F.cells { M with main:=c } tk:=by
 unfold Fx.cells machL
 rw [List.append_assoc]
 exact putL_mid _ (cpuL c) (cpuL M.main) [] rfl
theorem Fx.putAux (F:Fx) (M:Mach) (tk:Tk) (c:C.Cpu):putL (F.cells M tk) 15 (cpuL c)=F.cells { M with aux:=c } tk:=by
 unfold Fx.cells machL
 simp only [List.append_assoc]
 exact putL_mid _ (cpuL c) (cpuL M.aux) (cpuL M.main) rfl
theorem Fx.putSnd (F:Fx) (M:Mach) (tk:Tk) (s:Sd):putL (F.cells M tk) 45 (sndL s)=F.cells { M with s:=s } tk:=by
 have e:∀ M:Mach,F.cells M tk=(cpuL M.main++(cpuL M.aux++(slL F.S++rest1 M)))++(sndL M.s++(rest2 M++([.int .i64 tk.n,tk.v]++(F.sideM++F.sideA)))):=by
  intro M
  unfold Fx.cells machL
  rw [restL_eq]
  simp only [List.append_assoc]
 rw [e M,e]
 exact putL_mid _ (sndL s) (sndL M.s) (cpuL M.main++(cpuL M.aux++(slL F.S++rest1 M))) rfl
section
variable {F : Fx} {W : World} {M M' : Mach} {tk : Tk}
theorem Bd.auxC (h:Bd F W M tk):W.cell? ⟨F.g,15,none⟩=some (.int .u16 (M.aux.r 0))/\W.cell? ⟨F.g,16,none⟩=some (.int .u16 (M.aux.r 1))/\W.cell? ⟨F.g,17,none⟩=some (.int .u16 (M.aux.r 2))/\W.cell? ⟨F.g,18,none⟩=some (.int .u16 (M.aux.r 3))/\W.cell? ⟨F.g,19,none⟩=some (.int .u16 (M.aux.r 4))/\W.cell? ⟨F.g,20,none⟩=some (.int .u16 (M.aux.r 5))/\W.cell? ⟨F.g,21,none⟩=some (.int .u16 (M.aux.r 6))/\W.cell? ⟨F.g,22,none⟩=some (.int .u16 (M.aux.r 7))/\W.cell? ⟨F.g,23,none⟩=some (.int .u16 M.aux.PC)/\W.cell? ⟨F.g,24,none⟩=some (.bool M.aux.Z)/\W.cell? ⟨F.g,25,none⟩=some (.bool M.aux.N)/\W.cell? ⟨F.g,26,none⟩=some (.bool M.aux.C)/\W.cell? ⟨F.g,27,none⟩=some (.bool M.aux.V)/\W.cell? ⟨F.g,28,none⟩=some (.bool M.aux.May)/\W.cell? ⟨F.g,29,none⟩=some (.bool M.aux.Waits)/\W.cell? ⟨F.g,72,none⟩=some (.int .i64 M.clock)/\W.cell? ⟨F.g,74,none⟩=some (.int .i64 M.aready)/\(∀ o,W.frozen? ⟨F.g,o,none⟩=false)/\F.g < W.heap.size :=
 ⟨h.at 15 _ rfl,h.at 16 _ rfl,h.at 17 _ rfl,h.at 18 _ rfl,h.at 19 _ rfl,h.at 20 _ rfl,h.at 21 _ rfl,h.at 22 _ rfl,h.at 23 _ rfl,h.at 24 _ rfl,h.at 25 _ rfl,h.at 26 _ rfl,h.at 27 _ rfl,h.at 28 _ rfl,h.at 29 _ rfl,h.at 72 _ rfl,h.at 74 _ rfl,h.bx.f,h.bx.z⟩
theorem Bu.begin_lit (h:Bd F W M tk) (o:Nat) (x0 x1:Int) (h0:ReadsAt F M tk o 0 x0) (h1:ReadsAt F M tk o 1 x1) (b0:0<=x0/\x0<=255) (b1:0<=x1/\x1<=255) :
 Calls Tryz.prog 46 #[reachV F.g o] W fun e w'=>e = .returned (.agg #[.int .u16 0,.int .u16 0,.int .u16 0,.int .u16 0,.int .u16 0,.int .u16 0,.int .u16 0,.int .u16 0,.int .u16 (x0 * 256+x1),.bool false,.bool false,.bool false,.bool false,.bool false,.bool false])/\Bd F w' M tk/\Bt F W w':=Bu.begin_any h o x0 x1 h0 h1 b0 b1
theorem sets_keep {b i:Nat} {v:Value}:∀ (vs:List Value) (o:Nat) (w:World),o+vs.length<=i->w.cell? ⟨b,i,none⟩=some v->(w.setCells b o vs).cell? ⟨b,i,none⟩=some v
 | [],o,w,hl,h=>h
 | x :: vs,o,w,hl,h=>by
  simp only [List.length_cons] at hl
  exact sets_keep vs (o+1) _ (by omega) ((World.cell?_setCell_other _ _ _ _ (by intro e;have:=congrArg Addr.off e;simp at this;omega)).trans h)
theorem set_off {w:World} {b i j:Nat} {v u:Value} (hij:i ≠ j) (h:w.cell? ⟨b,j,none⟩=some u):(w.setCell ⟨b,i,none⟩ v).drew.cell? ⟨b,j,none⟩=some u :=
 (World.cell?_setCell_other _ _ _ _ (by intro e;exact hij (congrArg Addr.off e))).trans h
theorem nest15 (w:World) (b:Nat) (v0 v1 v2 v3 v4 v5 v6 v7 v8 v9 v10 v11 v12 v13 v14:Value):w.setCells b 15 [v0,v1,v2,v3,v4,v5,v6,v7,v8,v9,v10,v11,v12,v13,v14]=(((((((((((((((w.setCell ⟨b,15,none⟩ v0).setCell ⟨b,16,none⟩ v1).setCell ⟨b,17,none⟩ v2).setCell ⟨b,18,none⟩ v3).setCell ⟨b,19,none⟩ v4).setCell ⟨b,20,none⟩ v5).setCell ⟨b,21,none⟩ v6).setCell ⟨b,22,none⟩ v7).setCell ⟨b,23,none⟩ v8).setCell ⟨b,24,none⟩ v9).setCell ⟨b,25,none⟩ v10).setCell ⟨b,26,none⟩ v11).setCell ⟨b,27,none⟩ v12).setCell ⟨b,28,none⟩ v13).setCell ⟨b,29,none⟩ v14):=by simp only [World.setCells,Nat.reduceAdd]
theorem keep15 {w:World} {b:Nat} {u v0 v1 v2 v3 v4 v5 v6 v7 v8 v9 v10 v11 v12 v13 v14:Value} (h:w.cell? ⟨b,72,none⟩=some u):(((((((((((((((w.setCell ⟨b,15,none⟩ v0).setCell ⟨b,16,none⟩ v1).setCell ⟨b,17,none⟩ v2).setCell ⟨b,18,none⟩ v3).setCell ⟨b,19,none⟩ v4).setCell ⟨b,20,none⟩ v5).setCell ⟨b,21,none⟩ v6).setCell ⟨b,22,none⟩ v7).setCell ⟨b,23,none⟩ v8).setCell ⟨b,24,none⟩ v9).setCell ⟨b,25,none⟩ v10).setCell ⟨b,26,none⟩ v11).setCell ⟨b,27,none⟩ v12).setCell ⟨b,28,none⟩ v13).setCell ⟨b,29,none⟩ v14).cell? ⟨b,72,none⟩=some u:=by
 rw [<- nest15];exact sets_keep _ 15 w (by simp) h
theorem keep15d {w:World} {b:Nat} {u x v0 v1 v2 v3 v4 v5 v6 v7 v8 v9 v10 v11 v12 v13 v14:Value} (h:w.cell? ⟨b,72,none⟩=some u):((((((((((((((((w.setCell ⟨b,15,none⟩ v0).setCell ⟨b,16,none⟩ v1).setCell ⟨b,17,none⟩ v2).setCell ⟨b,18,none⟩ v3).setCell ⟨b,19,none⟩ v4).setCell ⟨b,20,none⟩ v5).setCell ⟨b,21,none⟩ v6).setCell ⟨b,22,none⟩ v7).setCell ⟨b,23,none⟩ v8).setCell ⟨b,24,none⟩ v9).setCell ⟨b,25,none⟩ v10).setCell ⟨b,26,none⟩ v11).setCell ⟨b,27,none⟩ v12).setCell ⟨b,28,none⟩ v13).setCell ⟨b,29,none⟩ v14).setCell ⟨b,74,none⟩ x).drew.cell? ⟨b,72,none⟩=some u:=set_off (by omega) (keep15 h)
theorem keep15e {w:World} {b:Nat} {u x v0 v1 v2 v3 v4 v5 v6 v7 v8 v9 v10 v11 v12 v13 v14:Value} (h:w.cell? ⟨b,72,none⟩=some u):((((((((((((((((w.setCell ⟨b,15,none⟩ v0).setCell ⟨b,16,none⟩ v1).setCell ⟨b,17,none⟩ v2).setCell ⟨b,18,none⟩ v3).setCell ⟨b,19,none⟩ v4).setCell ⟨b,20,none⟩ v5).setCell ⟨b,21,none⟩ v6).setCell ⟨b,22,none⟩ v7).setCell ⟨b,23,none⟩ v8).setCell ⟨b,24,none⟩ v9).setCell ⟨b,25,none⟩ v10).setCell ⟨b,26,none⟩ v11).setCell ⟨b,27,none⟩ v12).setCell ⟨b,28,none⟩ v13).setCell ⟨b,29,none⟩ v14).setCell ⟨b,74,none⟩ x).cell? ⟨b,72,none⟩=some u:=(World.cell?_setCell_other _ _ _ _ (by intro e;have:=congrArg Addr.off e;simp at this)).trans (keep15 h)
theorem Bu.aux_w1 (h:Bd F W M tk) (n:Int) (hn:0<=n/\n<=255) (hh:(M.held && !(odd (n / 2)))=true):Calls Tryz.prog 126 #[pt F.g 0,.int .u8 n] W fun e w'=>e = .returned (.tuple #[])/\Bd F w' (M.putM 16 n) tk/\Bt F W w':=by
 have c0:=h.at 67 (.bool M.granted) rfl
 have c1:=h.at 68 (.bool M.held) rfl
 have ff:=h.bx.f
 have hg:=h.bx.z
 have H:=hid h
 have a1:=and_one' n hn
 have a2:=and_two' n hn
 have e0:M.putM 16 n={ M.grant n with aux:=beginC ((M.grant n).lookA 0) ((M.grant n).lookA 1),aready:=M.clock }:=by show M.letGo n=_;unfold Mach.letGo;rw [if_pos hh]
 rw [e0]
 have hp:Bd F ((W.setCell ⟨F.g,67,none⟩ (.bool (odd n))).setCell ⟨F.g,68,none⟩ (.bool (odd (n / 2)))) (M.grant n) tk :=
  (h.put (M':={ M with granted:=odd n }) (tk':=tk) 67 _ (by omega) rfl ⟨rfl,rfl,rfl,rfl,rfl⟩ { h.fit with main:=h.fit.main }).put 68 _ (by omega) rfl ⟨rfl,rfl,rfl,rfl,rfl⟩ (grant_fit h.fit n)
 have HP:=hid hp
 have hcl:(M.grant n).clock=M.clock:=rfl
 rw [<- hcl]
 have HF:=hid h.fit
 clear h e0 hp hcl
 generalize hG:M.grant n=G at *
 have HG:=hid hG
 clear hG
 have hd:M.held=true:=by revert hh;cases M.held <;> simp
 have ho:odd (n / 2)=false:=by revert hh;cases M.held <;> cases odd (n / 2) <;> simp
 rw [hd] at c1
 have r:n / 2 % 2=0:=by rcases odd_cases (n / 2) with ⟨p,q⟩ | ⟨p,q⟩;exact p;rw [ho] at q;cases q
 rw [r] at a2
 rw [ho] at HP
 clear hh hd ho r
 rcases odd_cases n with ⟨p,q⟩ | ⟨p,q⟩
 all_goals
  rw [p] at a1
  rw [q] at HP
  clear p q
  go_enter Tryz.func126,Tryz.ntmps126
  go_wp2
  refine Pl.cutW (fun Y=>Bd F Y G tk/\Bt F W Y) ⟨HP.out,((Bt.refl _ _).set H.out.nd _ _).set H.out.nd _ _⟩ ?_
  rintro Y ⟨hY1,hY2⟩
  have HY1:=hid hY1
  have HY2:=hid hY2
  obtain ⟨_,_,_,_,_,_,_,_,_,_,_,_,_,_,_,cl,ar,yf,yg⟩:=hY1.auxC
  clear hY1 hY2 ff c0 c1 hg
  go_region_held3 (fun w'=>w'.cell? ⟨F.g,72,none⟩=some (.int .i64 G.clock))
   ((first | (with_reducible exact zcl) | (with_reducible exact ycl) | (with_reducible exact cl) | (with_reducible exact keep15 zcl) | (with_reducible exact keep15d zcl) | (with_reducible exact keep15e zcl) | (go_keep;done)))
   ((first
   | (go_at_call 46;refine (Bu.begin_lit HB1.out 143 _ _ (Bu.reads_A 0 (by omega)) (Bu.reads_A 1 (by omega)) (lookA_bd _ _) (lookA_bd _ _)).mono ?_;rintro e w2 ⟨rfl,hB2,hT2⟩;have HB2:=hid hB2;have HT2:=hid hT2;obtain ⟨z0,z1,z2,z3,z4,z5,z6,z7,z8,z9,z10,z11,z12,z13,z14,zcl,zar,zf,zg⟩:=hB2.auxC;clear hB2 hT2)
   | (go_at_call 87;refine (Bu.aux_any F.g _).mono ?_;rintro e w1 ⟨rfl,hb1⟩;have HB1:=hid (HY1.out.drew.kept hb1);have ycl:=HB1.out.at 72 _ rfl;have yg1:=HB1.out.bx.z)))
  all_goals go_wp2
  all_goals go_end0
  all_goals
   have hf:Mach.fit { G with aux:=beginC (G.lookA 0) (G.lookA 1) }:=Mach.fit.of HB2.out.fit { HB2.out.fit with aux:=beg_ok _ _ (lookA_bd _ _) (lookA_bd _ _) } ⟨rfl,rfl,rfl,rfl,rfl⟩ rfl ⟨rfl,rfl,rfl⟩ ⟨rfl,rfl⟩ (Or.inl rfl)
   have hf2:Mach.fit { G with aux:=beginC (G.lookA 0) (G.lookA 1),aready:=G.clock }:=Mach.fit.of hf { hf with main:=hf.main } ⟨rfl,rfl,rfl,rfl,rfl⟩ rfl ⟨rfl,rfl,rfl⟩ ⟨rfl,rfl⟩ (Or.inr rfl)
   have hp:=(HB2.out.puts (M':={ G with aux:=beginC (G.lookA 0) (G.lookA 1) }) (tk':=tk) 15 (cpuL (beginC (G.lookA 0) (G.lookA 1))) (by simp [cpuL]) (F.putAux G tk _) ⟨rfl,rfl,rfl,rfl,rfl⟩ hf).put (M':={ G with aux:=beginC (G.lookA 0) (G.lookA 1),aready:=G.clock }) (tk':=tk) 74 (.int .i64 G.clock) (by omega) rfl ⟨rfl,rfl,rfl,rfl,rfl⟩ hf2
   have ht:=Bt.set HB2.out.nd (Bt.sets HB2.out.nd (cpuL (beginC (G.lookA 0) (G.lookA 1))) 15 _ (Mv.trans HY2.out (Mv.trans (Bt.below HY1.out (stp (st0 Y).drew hb1)) HT2.out))) 74 (.int .i64 G.clock)
   rw [<- begL_eq] at hp ht
   unfold begL at hp ht
   rw [nest15] at hp ht
   exact ⟨rfl,hp,ht⟩
theorem Bu.aux_w (h:Bd F W M tk) (n:Int) (hn:0<=n/\n<=255):Calls Tryz.prog 126 #[pt F.g 0,.int .u8 n] W fun e w'=>e = .returned (.tuple #[])/\Bd F w' (M.putM 16 n) tk/\Bt F W w':=by
 cases hh:(M.held && !(odd (n / 2)))
 ·exact Bu.aux_w0 h n hn hh
 ·exact Bu.aux_w1 h n hn hh
end
def EndA (F:Fx) (W w':World) (M:Mach) (tk:Tk) (l:List Wt):Prop:=(∃ v,Bd F w' M (tk.app l v))/\Bw F W w'
end Go.Proofs.YtbhpfkjfijdmaaaGreatDoor
