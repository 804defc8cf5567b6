/-
  Parts of a proof, joined.
-/
import Derived.Test.YtbhpfkjfijdmaaaGreatDoorZy39
import Derived.Test.YtbhpfkjfijdmaaaGreatDoorZy40
import Derived.Test.YtbhpfkjfijdmaaaGreatDoorZy36
import Derived.Test.YtbhpfkjfijdmaaaGreatDoorZy37
namespace Go.Proofs.YtbhpfkjfijdmaaaGreatDoor
open Go.ChangeShapes Go.WideShapes Go.ChangeAt Go.RowKit
set_option linter.unusedVariables false
set_option maxRecDepth 100000
set_option maxHeartbeats 3200000
theorem dcs_one (l:List Dd):∀ u ∈ dcs l,u.oneCell'=true:=fun u hu=>by
 unfold dcs at hu
 obtain ⟨x,hx,h⟩:=List.mem_flatten.1 hu
 obtain ⟨y,_,rfl⟩:=List.mem_map.1 hx
 exact did_one y u h
theorem dcs_app2 (a b:List Dd):dcs (a++b)=dcs a++dcs b:=by simp [dcs]
theorem due_len (X:Mach):X.due.length<=2:=by
 unfold Mach.due Mach.mdid Mach.adid
 split <;> split <;> simp
theorem step_appRow {w:World} {v:Value} {n z B:Nat} {xs:List Value} {t:TypeId} {ops:Array Oper} {o:Oper} {a:Act} {K:Act->World->Prop} {Q:Exit->Act->World->Prop} {E:Prop} {ts:TypeId} {zv:Value} {y:Nat} (q:Nat) (hts:Tryz.prog.underlying ts=some (.slice t)) (hinf:(Tryz.prog.info? t).map (fun i=>(i.zero,i.size,i.bytes))=some (some zv,z,y)) (hzs:zv.cells.size=z) (hz:0 < z) (hy:y<=64)
 (hgd:o.guard=none) (s x:Operand) (ho:o.op = .call { callee:=.builtin .append,args:=#[s,x],argTypes:=#[ts,ts] }) (hs:a.eval s=v) (hown:w.ownsRow B t z v n xs) (xv:Value) (hx:a.eval x=xv) {m:Nat} {ys:List Value} (hl:RwAt w xv m z ys) (h1:∀ u ∈ ys,u.oneCell'=true) (hb:n+m<=100000) (hB:B<=w.heap.size)
 (h:∀ v' w',w'.ownsRow B t z v' (n+m) (xs++ys)->Lw q v.ownBlock w w'->(v'.ownBlock=v.ownBlock \/ ∃ k,v'.ownBlock=some k/\w.heap.size<=k)->K (a.put o.dst v') w'):if Region.wanted o (yielded ops a.tmps)=true then Oper.wp Tryz.prog o a w K Q else E:=by
 obtain ⟨i0,hi0,hz0,hz1,hz2⟩:=info_parts hinf
 by_cases hm:m=0
 ·subst hm
  obtain ⟨ad,c,rfl⟩:=hl.len
  have hy0:ys=[]:=List.eq_nil_of_length_eq_zero (by rw [hl.1];omega)
  have hrun:=appNoRow hts i0 hi0 o.type hown ad c
  rw [if_pos (by simp [Region.wanted,hgd])]
  unfold Oper.wp
  simp [execOp,ho,resolve,invoke,builtin,hs,hx,hrun,Result.andThen]
  exact h v w (by rw [hy0];simpa using hown) (Lw.of (Below.refl _ _)) (Or.inl rfl)
 ·obtain ⟨hl0,hl1 | ⟨g,o',c,e1,e2,e3,e4⟩⟩:=hl
  ·exact absurd hl1.1 hm
  ·refine step_append_lies _ hgd s x _ ho B t i0 zv z y hts hi0 hz0 hz1 hz2 hzs hz v n xs hs hown ⟨g,o',none⟩ m c ys (hx.trans e1) hl0 (fun j u hj=>by rw [addr_add];exact e4 j u hj) h1 (by omega) (by unfold maxLen;omega) (Nat.le_trans (Nat.mul_le_mul hb hy) (by decide)) hB w.heap.size rfl ?_
   intro g' cap w' hown' hgrow hg' _
   have hbl:=(Below.refl 0 w).grown hgrow (Nat.zero_le _) (fun k hk=>Nat.zero_le _)
   exact h _ w' hown' ⟨hbl.os,hbl.tape,hbl.output,hbl.size,fun k hk _ hne=>hgrow.block k hk (fun e=>hne e.symm)⟩ (by
    rcases hg' with e | rfl
    ·exact Or.inl e.symm
    ·exact Or.inr ⟨_,rfl,Nat.le_refl _⟩)
structure JT0 (q : Nat) (acc : List Dd) (v : Value) (w : World) : Prop where
 bx:Bx w q [v]
 own:w.ownsRow (q+1) 76 4 v acc.length (dcs acc)
def JT (q:Nat) (acc:List Dd) (g:Option Nat) (w:World):Prop:=∃ v,JT0 q acc v w/\g=v.ownBlock
theorem JT.jw (q:Nat):Jw q (JT q) where
 same:=by
  rintro acc g w w' ⟨v,h,rfl⟩ hz hq hg
  exact ⟨v,⟨h.bx.same hz hq,ows_of h.own hg⟩,rfl⟩
 q:=by
  rintro acc g w ⟨v,h,rfl⟩
  exact h.bx.z
 g:=by
  rintro acc g w ⟨v,h,rfl⟩ k e
  exact (row_at h.own k e).2.1
structure LT (Y : World) (X : Mach) (SX : Sl) (Z : World) : Prop where
 low:Below Y.heap.size Y Z
 mb:Bx Z Y.heap.size (machL X SX)
section
variable {Y Z Z' : World} {X : Mach} {SX : Sl} {q : Nat} {acc : List Dd} {v : Value}
theorem LT.kept (h:LT Y X SX Z) (hb:Below Z.heap.size Z Z'):LT Y X SX Z':=⟨stp h.low hb,h.mb.kept hb⟩
theorem LT.drew (h:LT Y X SX Z):LT Y X SX Z.drew:=⟨h.low.drew,h.mb.drew⟩
theorem LT.ss (h:LT Y X SX Z) (hj:JT0 q acc v Y):Z.cell? ⟨q,0,none⟩=some v/\Bx Z Y.heap.size (machL X SX):=⟨(hj.bx.kept h.low).at 0 v rfl,h.mb⟩
theorem LT.own (h:LT Y X SX Z) (hj:JT0 q acc v Y):Z.ownsRow (q+1) 76 4 v acc.length (dcs acc):=ows_of hj.own (fun k e=>h.low.block k (row_at hj.own k e).2.1)
theorem LT.qz (h:LT Y X SX Z) (hj:JT0 q acc v Y):q+1<=Z.heap.size:=Nat.lt_of_lt_of_le hj.bx.z h.low.size
theorem LT.blk (h:LT Y X SX Z) (hj:JT0 q acc v Y) (hl:Lw Z.heap.size v.ownBlock Z Z'):Z'.heap[q]? = Y.heap[q]?:=by
 have hz:=hj.bx.z
 have:=h.low.size
 exact (hl.block q (by omega) (by omega) (fun e=>by have:=(row_at hj.own q e).1;omega)).trans (h.low.block q hz)
theorem LT.qs (h:LT Y X SX Z) (hj:JT0 q acc v Y) (hl:Lw Z.heap.size v.ownBlock Z Z'):Z'.cell? ⟨q,0,none⟩=some v/\q < Z'.heap.size/\Z'.frozen? ⟨q,0,none⟩=false:=by
 have hb:=hj.bx.same (Nat.le_trans h.low.size hl.size) (h.blk hj hl)
 exact ⟨hb.at 0 v rfl,hb.z,hb.f 0⟩
theorem LT.fin {v':Value} (h:LT Y X SX Z) (hj:JT0 q acc v Y) (hl:Lw Z.heap.size v.ownBlock Z Z') (ho:Z'.ownsRow (q+1) 76 4 v' (acc.length+X.due.length) (dcs acc++dcs X.due)) (hg:v'.ownBlock=v.ownBlock \/ ∃ k,v'.ownBlock=some k/\Z.heap.size<=k) :
 JT q (acc++X.due) v'.ownBlock (Z'.setCell ⟨q,0,none⟩ v')/\(v'.ownBlock=v.ownBlock \/ ∃ k,v'.ownBlock=some k/\Y.heap.size<=k)/\Lw q v.ownBlock Y (Z'.setCell ⟨q,0,none⟩ v'):=by
 have hb:=(hj.bx.same (Nat.le_trans h.low.size hl.size) (h.blk hj hl)).set 0 v' (by simp)
 have hs:=h.low.size
 refine ⟨⟨v',⟨hb,?_⟩,rfl⟩,?_,?_⟩
 ·rw [List.length_append,dcs_app2]
  exact ows_of ho (fun k e=>Below.heap_setCell _ _ _ _ (by have:=(row_at ho k e).1;simp;omega))
 ·rcases hg with e | ⟨k,e,hk⟩
  ·exact Or.inl e
  ·exact Or.inr ⟨k,e,by omega⟩
 ·have h1:Below q Z' (Z'.setCell ⟨q,0,none⟩ v'):=Below.setCell (p:=⟨q,0,none⟩) (Below.refl q Z') (Nat.le_refl q) v'
  exact ⟨h1.os.trans (hl.os.trans h.low.os),h1.tape.trans (hl.tape.trans h.low.tape),h1.output.trans (hl.output.trans h.low.output),Nat.le_trans (Nat.le_trans hs hl.size) h1.size,fun k hk h2 h3=>((Below.heap_setCell _ _ _ _ (by simpa using h2)).trans (hl.block k (by omega) (by omega) h3)).trans (h.low.block k hk)⟩
end
theorem Wc.lookT (q:Nat) (w0:World) (hF:AF w0):∀ acc g X SX Y,JT q acc g Y->Below w0.heap.size w0 Y->SlAt Y SX X->X.fit->acc.length<=1000->Calls Tryz.prog 39 #[.agg (machL X SX).toArray,pt q 0] Y fun e w'=>e = .returned (.bool false) /\ ∃ g',JT q (acc++X.due) g' w'/\(g'=g \/ ∃ k,g'=some k/\Y.heap.size<=k)/\Lw q g Y w':=by
 rintro acc g X SX Y ⟨v,hJ,rfl⟩ hlow hs hf hlen
 have HL:Hid (LT Y X SX (Y.alloc (.cells (machL X SX).toArray 41))):=hid ⟨stA (st0 Y) _,Bx.new Y (machL X SX) 41 (b:=Y.heap.size) rfl⟩
 have HJ:=hid hJ
 have HSL:=hid hs
 have HFX:=hid hf
 have HF:=hid (hF.kept hlow)
 have HLN:=hid hlen
 clear hJ hlow hs hf hF hlen
 go_enter Tryz.func39,Tryz.ntmps39
 go_wp2
 refine wp_region_G (S:=fun w'=>w'.cell? ⟨q,0,none⟩=some v/\Bx w' Y.heap.size (machL X SX)) (st:=3) (by kernel_rfl) ?_
 have hS:=HL.out.drew.ss HJ.out
 refine wpAnyG_take (i:=0) (oi:=⟨some 4,_,_,_,_,none⟩) (v:=v) rfl (by kernel_rfl) (by kernel_rfl) (by kernel_rfl) (by kernel_rfl) (by decide) (by kernel_rfl) (fun _ _ _ h=>h) (Or.inl ⟨by rfl,?_⟩) hS ?_
 ·intro w' hSw
  have hcc:=hSw.1
  have hcz:=World.block_lt_of_cell? w' _ hcc
  go_simp
  try (with_reducible rfl)
 simp only [Act.put,xA,xB,xC]
 refine wpAnyG_take2 2 (i:=1) (oi:=⟨some 5,_,_,_,_,none⟩) (v:=.agg (machL X SX).toArray) rfl (by kernel_rfl) (by kernel_rfl) (by kernel_rfl) (by kernel_rfl) (by kernel_rfl) (by decide) (by decide) (by kernel_rfl) (by kernel_rfl) (fun _ _ _ h=>h) (Or.inl ⟨by rfl,fun w' hSw=>exec_load_mid 41 _ rfl Y.heap.size 0 rfl (machL X SX) _ hSw.2.c Tryz.underlying41 rfl info_mach⟩) hS ?_
 simp only [Act.put,xA,xB,xC]
 refine wpAnyG_one (i:=2) (o:=⟨some 6,_,_,_,_,none⟩) (by kernel_rfl) rfl (fun K hK=>?_)
 go_simp
 go_at_call 40
 refine (Wc.due X SX _ (HSL.out.kept HL.out.low.drew) HFX.out (HF.out.kept HL.out.low.drew)).mono ?_
 rintro e w2 ⟨v2,rfl,hown2,hb2⟩
 have HL2:=hid (HL.out.drew.kept hb2)
 have HO2:=hid hown2
 clear hown2 hb2
 try go_wp2_with fail
 refine hK.out _ _ (fun _=>HL2.out.ss HJ.out) ?_
 clear hK K
 try simp only [Act.put,xA,xB,xC]
 clear hS
 have hS:=HL2.out.ss HJ.out
 refine wpAnyG_one (i:=3) (o:=⟨some 7,_,_,_,_,none⟩) (by kernel_rfl) rfl (fun K hK=>?_)
 refine step_appRow w2.heap.size Tryz.underlying71 info_did rfl (by omega) (by omega) (by rfl) _ _ (by rfl) (by rfl) (HL2.out.own HJ.out) _ (by rfl) (row_own HO2.out) (dcs_one _) (by have:=HLN.out;have:=due_len X;omega) (HL2.out.qz HJ.out) ?_
 intro v3 w3 hown3 hl3 hg3
 obtain ⟨a3,c3,e3⟩:=row_len2 hown3
 subst e3
 obtain ⟨q0,qz,qf⟩:=HL2.out.qs HJ.out hl3
 have HO3:=hid hown3
 have HW3:=hid hl3
 have HG3:=hid hg3
 clear hown3 hl3 hg3
 refine hK.out _ _ (fun h=>by simp at h) ?_
 clear hK K
 try simp only [Act.put,xA,xB,xC]
 clear hS
 refine wpAnyG_one (i:=4) (o:=⟨none,_,_,_,_,none⟩) (by kernel_rfl) rfl (fun K hK=>?_)
 go_simp
 refine hK.out _ _ (fun h=>by simp at h) ?_
 clear hK K
 refine wpAnyG_done (by kernel_rfl) ?_ _
 have hfin:=HL2.out.fin HJ.out HW3.out HO3.out HG3.out
 refine Pl.cutE (fun V=>JT q (acc++X.due) (Value.slice a3 (acc.length+X.due.length) c3).ownBlock V/\((Value.slice a3 (acc.length+X.due.length) c3).ownBlock=v.ownBlock \/ ∃ k,(Value.slice a3 (acc.length+X.due.length) c3).ownBlock=some k/\Y.heap.size<=k)/\Lw q v.ownBlock Y V) hfin ?_
 intro V hV
 have HV:=hid hV
 clear hV hfin q0 qz qf HL2 HW3 HO3 HG3 HO2
 go_wp2
 go_ret
 exact ⟨rfl,_,HV.out⟩
def TEnd (M:Mach) (l:List Inp) (n:Int) (X:Mach) (er:Int) (acc:List Dd):Prop :=
 (er ≠ 0/\X=zeroM/\acc=[]/\(er=fErr M l n \/ 19000 < M.b.f)) \/
 (er=0/\fErr M l n=0/\M.fit/\InR M l/\X=M.aft l n.toNat /\ ∃ js:List Nat,Way M l n.toNat js n.toNat/\acc=(js.map (fun i=>(M.aft l i).due)).flatten)
inductive TPost (M : Mach) (l : List Inp) (n : Int) (w : World) (e : Ending) (w' : World) : Prop
 | mk (vl:Value) (X:Mach) (SX:Sl) (er:Int) (acc:List Dd) (h:e = .returned (.tuple #[vl,.agg (machL X SX).toArray,.int .i64 er])) (h2:TEnd M l n X er acc) (h3:w'.ownsRow w.heap.size 76 4 vl acc.length (dcs acc)) (h4:SlAt w' SX X) (h5:Below w.heap.size w w')
structure TB (w w1 : World) (vl : Value) (acc : List Dd) (X : Mach) (SX : Sl) (Y : World) : Prop where
 low:Below w.heap.size w Y
 rb:Bx Y (w.heap.size+1) (machL zeroM nilS)
 lg:Bx Y (w.heap.size+2) [vl]
 ob:Bx Y w1.heap.size (machL X SX)
 own:Y.ownsRow (w.heap.size+3) 76 4 vl acc.length (dcs acc)
 sl:SlAt Y SX X
 nw:SlNew (w.heap.size+3) SX/\w.heap.size+3<=w1.heap.size
structure TV (w : World) (L : List Value) (vl : Value) (acc : List Dd) (X : Mach) (SX : Sl) (Y : World) : Prop where
 low:Below w.heap.size w Y
 rb:Bx Y (w.heap.size+1) L
 own:Y.ownsRow w.heap.size 76 4 vl acc.length (dcs acc)
 sl:SlAt Y SX X
section
variable {w w1 Y : World} {vl : Value} {acc : List Dd} {X : Mach} {SX : Sl}
theorem TB.ss (h:TB w w1 vl acc X SX Y):Y.cell? ⟨w.heap.size+2,0,none⟩=some vl/\Bx Y w1.heap.size (machL X SX):=⟨h.lg.at 0 vl rfl,h.ob⟩
theorem R1.th (w1:World):(w1.alloc (.cells (machL zeroM nilS).toArray 41)).there w1.heap.size 0 75:=(Bx.new w1 (machL zeroM nilS) 41 (b:=w1.heap.size) rfl).there 0 75 (by rw [machL_len];omega)
theorem TB.mk' {W:World} (hW:Below w.heap.size w W) (hr:Bx W (w.heap.size+1) (machL zeroM nilS)) (hj:JT0 (w.heap.size+2) acc vl w1) (hl:Lw (w.heap.size+2) none W w1) (hs:SlAt w1 SX X) (hn:SlNew W.heap.size SX) (hz:W.heap.size=w.heap.size+3) :
 TB w w1 vl acc X SX ((w1.alloc (.cells (machL zeroM nilS).toArray 41)).setCells w1.heap.size 0 (machL X SX)):=by
 have h1:=(Bx.new w1 (machL zeroM nilS) 41 (b:=w1.heap.size) rfl).puts 0 (machL X SX) (by rw [machL_len,machL_len];omega)
 rw [putL_whole _ _ (by rw [machL_len,machL_len])] at h1
 have hb:Below w1.heap.size w1 ((w1.alloc (.cells (machL zeroM nilS).toArray 41)).setCells w1.heap.size 0 (machL X SX)):=below_sets' (stA (st0 w1) _) (Nat.le_refl _) _ _
 have hs1:=hl.size
 rw [hz] at hn
 have hlo:Below w.heap.size w w1:=hW.trans (hl.below (by omega) (by omega) (fun k e=>by cases e))
 have hr1:Bx w1 (w.heap.size+1) (machL zeroM nilS):=hr.same hl.size (hl.block _ (by omega) (by omega) (by simp))
 exact ⟨stp hlo hb,hr1.kept hb,hj.bx.kept hb,h1,ows_of hj.own (fun k e=>hb.block k (row_at hj.own k e).2.1),hs.kept hb,hn,by omega⟩
theorem TB.put {X':Mach} {S':Sl} {acc':List Dd} {v':Value} (h:TB w w1 vl acc X SX Y) (hs:SlAt Y S' X') (hn:SlNew (w.heap.size+3) S') (ho:Y.ownsRow (w.heap.size+3) 76 4 v' acc'.length (dcs acc')):TV w (machL X' S') v' acc' X' S' (Y.setCells (w.heap.size+1) 0 (machL X' S')):=by
 have h1:=h.rb.puts 0 (machL X' S') (by rw [machL_len,machL_len];omega)
 rw [putL_whole _ _ (by rw [machL_len,machL_len])] at h1
 refine ⟨below_sets' h.low (by omega) _ _,h1,?_,hs.off hn (by omega) _ _⟩
 have h2:=ows_of (w':=Y.setCells (w.heap.size+1) 0 (machL X' S')) ho (fun k e=>heap_sets_far (by have:=(row_at ho k e).1;omega) _ _ _)
 exact own_low (own_low (own_low h2))
end
theorem TB.drew {w w1 Y:World} {vl:Value} {acc:List Dd} {X:Mach} {SX:Sl} (h:TB w w1 vl acc X SX Y):TB w w1 vl acc X SX Y.drew:=⟨h.low.drew,h.rb.drew,h.lg.drew,h.ob.drew,h.own,h.sl.kept (st0 Y).drew,h.nw⟩
theorem TB.put' {w w1 Y:World} {vl:Value} {acc:List Dd} {X:Mach} {SX:Sl} (h:TB w w1 vl acc X SX Y):TV w (machL X SX) vl acc X SX (Y.drew.setCells (w.heap.size+1) 0 (machL X SX)):=h.drew.put h.drew.sl h.nw.1 h.drew.own
theorem Wc.tend {M X:Mach} {l:List Inp} {n:Int} {t:Bool} {acc:List Dd} {js:List Nat} {j:Nat} (h1:fErr M l n=0) (h2:M.fit) (h3:InR M l) (h4:Way M l n.toNat js j) (h5:X=M.aft l j) (h6:(t=false/\j=n.toNat/\acc=(js.map (fun i=>(M.aft l i).due)).flatten) \/ (t=true/\j < n.toNat/\false=true/\acc=(js.map (fun i=>(M.aft l i).due)).flatten++X.due)) :
 (0:Int)=0/\fErr M l n=0/\M.fit/\InR M l/\X=M.aft l n.toNat /\ ∃ js:List Nat,Way M l n.toNat js n.toNat/\acc=(js.map (fun i=>(M.aft l i).due)).flatten:=by
 rcases h6 with ⟨_,rfl,h⟩ | ⟨_,_,h,_⟩
 ·exact ⟨rfl,h1,h2,h3,h5,js,h4,h⟩
 ·cases h
theorem Wc.trace (M:Mach) (S:Sl) (v:Value) (l:List Inp) (n:Int) (w:World) (hF:AF w) (hs:SlAt w S M) (hz:∀ j,j < 5->(M.byt j).length<=9223372036854775807) (hok:M.ok) (hin:InpAt w.heap.size w v l) (hdn:∀ x ∈ l,0<=x.d/\x.d<=255) (hn:-9223372036854775808<=n/\n<=9223372036854775807) :
 Calls Tryz.prog 19 #[.agg (machL M S).toArray,v,.int .i64 n] w (TPost M l n w):=by
 have hW:Below w.heap.size w (((w.alloc (.cells (machL M S).toArray 41)).alloc (.cells (machL zeroM nilS).toArray 41)).alloc (.cells #[.slice none 0 0] 71)):=stA (stA (stA (st0 w) _) _) _
 have HBM:=hid (((Bx.new w (machL M S) 41 (b:=w.heap.size) rfl).over (.cells (machL zeroM nilS).toArray 41)).over (.cells #[.slice none 0 0] 71))
 have HRB:=hid ((Bx.new (w.alloc (.cells (machL M S).toArray 41)) (machL zeroM nilS) 41 (b:=w.heap.size+1) (by simp)).over (.cells #[.slice none 0 0] 71))
 have hLG:=Bx.new ((w.alloc (.cells (machL M S).toArray 41)).alloc (.cells (machL zeroM nilS).toArray 41)) [.slice none 0 0] 71 (b:=w.heap.size+2) (by simp)
 have hfo:=Wc.follow M S v l n 39 (pt (w.heap.size+2) 0) (w.heap.size+2) (JT (w.heap.size+2)) (fun _=>false) Mach.due w _ (fun _ _=>rfl) (Wc.lookT (w.heap.size+2) w hF) due_len (JT.jw _) ⟨by omega,by simp⟩ ⟨_,⟨hLG,⟨rfl,Or.inl ⟨rfl,rfl⟩⟩⟩,rfl⟩ hW hs hz hok hF.shapes hin hdn hn
 have HFO:=hid hfo
 have HW:=hid hW
 clear hfo hW hLG hF hs hz hok hin hdn
 go_enter Tryz.func19,Tryz.ntmps19
 go_upto_region 3 with (first
  | (refine wpList_load_mid rfl 41 _ rfl w.heap.size 0 rfl (machL M S) _ HBM.out.c Tryz.underlying41 rfl info_mach ?_)
  | (go_at_call 38;refine HFO.out.mono ?_;rintro e w1 ⟨X,SX,t,er,acc,g,rfl,hE,⟨vl,hJ,rfl⟩,hS1,hL1,hN1⟩
     have HE:=hid hE
     have HJ:=hid hJ
     have HS1:=hid hS1
     have HL1:=hid hL1
     have HN1:=hid hN1
     clear hE hJ hS1 hL1 hN1)
  | (refine wpList_store_mid rfl 41 _ _ rfl w1.heap.size 0 (machL X SX).toArray rfl rfl (R1.th w1) info_mach (machL_one _ _ (isSl_of HS1.out)) ?_
     refine Pl.cutL (TB w w1 vl acc X SX) (TB.mk' HW.out HRB.out HJ.out HL1.out HS1.out HN1.out (by simp)) ?_
     intro Y1 hY1
     have HY1:=hid hY1
     clear hY1))
 clear HBM HRB HFO HW HS1 HN1 HL1 HJ
 have hE:=HE.out
 unfold FEnd at hE
 rcases hE with ⟨he,hX,ht,hc⟩ | ⟨he,hfe,hft,hR,js,j,hWy,hX,hbs,hor⟩
 ·have HC:=hid hc
  have HNE:=hid he
  clear hc HE ht hX
  go_wp2_with (refine wpList_store_mid rfl 41 _ _ rfl (w.heap.size+1) 0 (machL zeroM nilS).toArray rfl rfl (HY1.out.rb.there 0 75 (by rw [machL_len];omega)) info_mach (machL_one _ _ nilS_isSl) ?_
               refine Pl.cutL (TV w (machL zeroM nilS) (.slice none 0 0) [] zeroM nilS) (HY1.out.put (nil_slAt _) (nil_new _) ⟨rfl,Or.inl ⟨rfl,rfl⟩⟩) ?_
               intro V hV
               have HV:=hid hV
               clear hV)
  refine bodyPost_ret (v:=.tuple #[.slice none 0 0,.agg (machL zeroM nilS).toArray,.int .i64 er]) ?_ rfl ⟨.slice none 0 0,zeroM,nilS,er,[],rfl,Or.inl ⟨HNE.out,rfl,rfl,HC.out⟩,HV.out.own,HV.out.sl,HV.out.low⟩
  have l1:=run_loadVar_mid V (w.heap.size+1) 0 41 _ _ HV.out.rb.c Tryz.underlying41 rfl info_mach
  simp only [results,Tryz.results19]
  simp
  show (Result.andThen (Sem.run Tryz.prog (loadVar 41 ⟨w.heap.size+1,0,none⟩) V) _)=_
  rw [l1]
  rfl
 ·have HFE:=hid hfe
  have HFT:=hid hft
  have HR:=hid hR
  have HWY:=hid hWy
  have HX:=hid hX
  have HOR:=hid hor
  subst he
  obtain ⟨a1,c1,e1⟩:=row_len2 HY1.out.own
  subst e1
  clear hfe hft hR hWy hX hor hbs HE
  go_wp2
  refine wp_region_G (S:=fun w'=>w'.cell? ⟨w.heap.size+2,0,none⟩=some (.slice a1 acc.length c1)/\Bx w' w1.heap.size (machL X SX)) (st:=3) (by kernel_rfl) ?_
  have hS:=HY1.out.drew.ss
  refine wpAnyG_take (i:=0) (oi:=⟨some 26,_,_,_,_,none⟩) (v:=.slice a1 acc.length c1) rfl (by kernel_rfl) (by kernel_rfl) (by kernel_rfl) (by kernel_rfl) (by decide) (by kernel_rfl) (fun _ _ _ h=>h) (Or.inl ⟨by rfl,?_⟩) hS ?_
  ·intro w' hSw
   have hcc:=hSw.1
   have hcz:=World.block_lt_of_cell? w' _ hcc
   go_simp
   try (with_reducible rfl)
  simp only [Act.put,xA,xB,xC]
  refine wpAnyG_take (i:=1) (oi:=⟨some 27,_,_,_,_,none⟩) (v:=.agg (machL X SX).toArray) rfl (by kernel_rfl) (by kernel_rfl) (by kernel_rfl) (by kernel_rfl) (by decide) (by kernel_rfl) (fun _ _ _ h=>h) (Or.inl ⟨by rfl,fun w' hSw=>exec_load_mid 41 _ rfl w1.heap.size 0 rfl (machL X SX) _ hSw.2.c Tryz.underlying41 rfl info_mach⟩) hS ?_
  simp only [Act.put,xA,xB,xC]
  refine wpAnyG_pure (i:=2) (oi:=⟨some 6,_,_,_,_,none⟩) (v:=?_) rfl (by kernel_rfl) (by kernel_rfl) (by kernel_rfl) (by decide) (fun _ _ _ h=>h) (Or.inl ⟨by rfl,?_⟩) (fun _=>hS) ?_
  rotate_left 1
  focus (intro w hSw;go_simp;try (with_reducible rfl))
  simp only [Act.put,xA,xB,xC]
  refine wpAnyG_one (i:=3) (o:=⟨none,_,_,_,_,none⟩) (by kernel_rfl) rfl (fun K hK=>?_)
  refine step_store_mid rfl 41 _ _ rfl (w.heap.size+1) 0 (machL X SX).toArray rfl rfl (HY1.out.drew.rb.there 0 75 (by rw [machL_len];omega)) info_mach (machL_one _ _ (isSl_of HY1.out.sl)) ?_
  refine hK.out _ _ (fun h=>by simp at h) ?_
  clear hK K
  clear hS
  refine wpAnyG_pure (i:=4) (oi:=⟨some 8,_,_,_,_,none⟩) (v:=?_) rfl (by kernel_rfl) (by kernel_rfl) (by kernel_rfl) (by decide) (fun _ _ _ h=>h) (Or.inl ⟨by rfl,?_⟩) (fun h=>by simp at h) ?_
  rotate_left 1
  focus (intro w hSw;go_simp;try (with_reducible rfl))
  simp only [Act.put,xA,xB,xC]
  refine wpAnyG_done (by kernel_rfl) ?_ _
  refine Pl.cutE (TV w (machL X SX) (.slice a1 acc.length c1) acc X SX) (HY1.out.put' ) ?_
  intro V hV
  have HV:=hid hV
  clear hV HY1
  go_wp2
  refine bodyPost_ret (v:=.tuple #[.slice a1 acc.length c1,.agg (machL X SX).toArray,.int .i64 0]) ?_ rfl ⟨.slice a1 acc.length c1,X,SX,0,acc,rfl,Or.inr (Wc.tend HFE.out HFT.out HR.out HWY.out HX.out HOR.out),HV.out.own,HV.out.sl,HV.out.low⟩
  have l1:=run_loadVar_mid V (w.heap.size+1) 0 41 _ _ HV.out.rb.c Tryz.underlying41 rfl info_mach
  simp only [results,Tryz.results19]
  simp
  show (Result.andThen (Sem.run Tryz.prog (loadVar 41 ⟨w.heap.size+1,0,none⟩) V) _)=_
  rw [l1]
  rfl
def bk (pc:Int) (X:Mach):Bool:=decide (X.mready<=X.clock) && decide (X.main.PC=pc) && !X.main.Waits
def JB (q:Nat) (pc:Int) (acc:List Dd) (g:Option Nat) (w:World):Prop:=acc=[]/\g=none/\Bx w q [.int .u16 pc]
theorem JB.jw (q:Nat) (pc:Int):Jw q (JB q pc) where
 same:=by
  rintro acc g w w' ⟨rfl,rfl,h⟩ hz hq hg
  exact ⟨rfl,rfl,h.same hz hq⟩
 q:=by
  rintro acc g w ⟨rfl,rfl,h⟩
  exact h.z
 g:=by
  rintro acc g w ⟨rfl,rfl,h⟩ k e
  cases e
theorem Wc.lookB (q:Nat) (pc:Int) (w0:World):∀ acc g X SX Y,JB q pc acc g Y->Below w0.heap.size w0 Y->SlAt Y SX X->X.fit->acc.length<=1000->Calls Tryz.prog 67 #[.agg (machL X SX).toArray,pt q 0] Y fun e w'=>e = .returned (.bool (bk pc X)) /\ ∃ g',JB q pc (acc++[]) g' w'/\(g'=g \/ ∃ k,g'=some k/\Y.heap.size<=k)/\Lw q g Y w':=by
 rintro acc g X SX Y ⟨rfl,rfl,hJ⟩ hlow hs hf hlen
 have hq:Below Y.heap.size Y (Y.alloc (.cells (machL X SX).toArray 41)):=stA (st0 Y) _
 have hB:=Bx.new Y (machL X SX) 41 (b:=Y.heap.size) rfl
 have x72:=hB.at 72 (.int .i64 X.clock) rfl
 have x73:=hB.at 73 (.int .i64 X.mready) rfl
 have x8:=hB.at 8 (.int .u16 X.main.PC) rfl
 have x14:=hB.at 14 (.bool X.main.Waits) rfl
 have hz:=hB.z
 have y0:=(hJ.kept hq).at 0 (.int .u16 pc) rfl
 have yz:=(hJ.kept hq).z
 have HE:Hid (∃ g',JB q pc ([]++[]) g' (Y.alloc (.cells (machL X SX).toArray 41))/\(g'=(none:Option Nat) \/ ∃ k,g'=some k/\Y.heap.size<=k)/\Lw q none Y (Y.alloc (.cells (machL X SX).toArray 41))):=hid ⟨none,⟨rfl,rfl,hJ.kept hq⟩,Or.inl rfl,Lw.of hq⟩
 have HBK:Hid (bk pc X=(decide (X.mready<=X.clock) && decide (X.main.PC=pc) && !X.main.Waits)):=hid rfl
 obtain ⟨wt,hwt⟩:∃ b,b=X.main.Waits:=⟨_,rfl⟩
 rw [<- hwt] at x14 HBK
 clear hwt hB hJ hq hlow hs hf hlen
 by_cases h1:X.mready<=X.clock
 ·have d1:decide (X.mready<=X.clock)=true:=decide_eq_true h1
  by_cases h2:X.main.PC=pc
  ·have d2:decide (X.main.PC=pc)=true:=decide_eq_true h2
   rw [d1,d2] at HBK
   have h2':(X.main.PC == pc)=true:=by rw [h2];simp
   clear h1 h2
   cases wt
   all_goals
    go_enter Tryz.func67,Tryz.ntmps67
    go_wp2
    go_ret
    exact ⟨by rw [HBK.out];rfl,HE.out⟩
  ·have d2:decide (X.main.PC=pc)=false:=decide_eq_false h2
   rw [d1,d2] at HBK
   have h2':(X.main.PC == pc)=false:=by simpa using h2
   clear h1 h2
   go_enter Tryz.func67,Tryz.ntmps67
   go_wp2
   go_ret
   exact ⟨by rw [HBK.out];rfl,HE.out⟩
 ·have d1:decide (X.mready<=X.clock)=false:=decide_eq_false h1
  rw [d1] at HBK
  clear h1
  go_enter Tryz.func67,Tryz.ntmps67
  go_wp2
  go_ret
  exact ⟨by rw [HBK.out];rfl,HE.out⟩
inductive BPost (M : Mach) (l : List Inp) (n pc : Int) (w : World) (e : Ending) (w' : World) : Prop
 | mk (X:Mach) (SX:Sl) (t:Bool) (er:Int) (acc:List Dd) (h:e = .returned (.tuple #[.agg (machL X SX).toArray,.bool t,.int .i64 er])) (h2:FEnd M l n (bk pc) (fun _=>[]) X t er acc) (h4:SlAt w' SX X) (h5:Below w.heap.size w w')
theorem Wc.break (M:Mach) (S:Sl) (v:Value) (l:List Inp) (n pc:Int) (w:World) (hsh:shapesAt w) (hs:SlAt w S M) (hz:∀ j,j < 5->(M.byt j).length<=9223372036854775807) (hok:M.ok) (hin:InpAt w.heap.size w v l) (hdn:∀ x ∈ l,0<=x.d/\x.d<=255) (hn:-9223372036854775808<=n/\n<=9223372036854775807) :
 Calls Tryz.prog 41 #[.agg (machL M S).toArray,v,.int .i64 n,.int .u16 pc] w (BPost M l n pc w):=by
 have hW:Below w.heap.size w (((w.alloc (.cells (machL M S).toArray 41)).alloc (.cells #[.int .u16 pc] 22)).alloc (.cells (machL zeroM nilS).toArray 41)):=stA (stA (stA (st0 w) _) _) _
 have HBM:=hid (((Bx.new w (machL M S) 41 (b:=w.heap.size) rfl).over (.cells #[.int .u16 pc] 22)).over (.cells (machL zeroM nilS).toArray 41))
 have hPB:=(Bx.new (w.alloc (.cells (machL M S).toArray 41)) [.int .u16 pc] 22 (b:=w.heap.size+1) (by simp)).over (.cells (machL zeroM nilS).toArray 41)
 have HRB:=hid (Bx.new ((w.alloc (.cells (machL M S).toArray 41)).alloc (.cells #[.int .u16 pc] 22)) (machL zeroM nilS) 41 (b:=w.heap.size+2) (by simp))
 have hfo:=Wc.follow M S v l n 67 (pt (w.heap.size+1) 0) (w.heap.size+1) (JB (w.heap.size+1) pc) (bk pc) (fun _=>[]) w _ (fun _ _=>rfl) (Wc.lookB (w.heap.size+1) pc w) (fun _=>Nat.zero_le _) (JB.jw _ _) ⟨by omega,by simp⟩ ⟨rfl,rfl,hPB⟩ hW hs hz hok hsh hin hdn hn
 have HFO:=hid hfo
 have HW:=hid hW
 clear hfo hW hPB hsh hs hz hok hin hdn
 go_enter Tryz.func41,Tryz.ntmps41
 go_wp2_with (first
  | (refine wpList_load_mid rfl 41 _ rfl w.heap.size 0 rfl (machL M S) _ HBM.out.c Tryz.underlying41 rfl info_mach ?_)
  | (go_at_call 38;refine HFO.out.mono ?_;rintro e w1 ⟨X,SX,t,er,acc,g,rfl,hE,hJ,hS1,hL1,hN1⟩
     have HE:=hid hE
     have HS1:=hid hS1
     have HL1:Hid (Below w.heap.size w w1):=hid (HW.out.trans (hL1.below HW.out.size (by omega) (fun k e=>by cases e)))
     have HR1:=hid (HRB.out.same hL1.size (hL1.block _ HRB.out.z (by omega) (by simp)))
     have HN1:Hid (SlNew (w.heap.size+3) SX):=hid (hN1.mono (by simp))
     clear hE hS1 hL1 hN1 hJ)
  | (refine wpList_store_mid rfl 41 _ _ rfl (w.heap.size+2) 0 (machL X SX).toArray rfl rfl (HR1.out.there 0 75 (by rw [machL_len];omega)) info_mach (machL_one _ _ (isSl_of HS1.out)) ?_
     refine Pl.cutL (fun V=>Below w.heap.size w V/\Bx V (w.heap.size+2) (machL X SX)/\SlAt V SX X) ⟨below_sets' HL1.out (by omega) _ _,(by have h1:=HR1.out.puts 0 (machL X SX) (by rw [machL_len,machL_len];omega);rw [putL_whole _ _ (by rw [machL_len,machL_len])] at h1;exact h1),HS1.out.off HN1.out (by omega) _ _⟩ ?_
     intro V hV
     have HV:=hid hV
     clear hV))
 refine bodyPost_ret (v:=.tuple #[.agg (machL X SX).toArray,.bool t,.int .i64 er]) ?_ rfl ⟨X,SX,t,er,acc,rfl,HE.out,HV.out.2.2,HV.out.1⟩
 have l1:=run_loadVar_mid V (w.heap.size+2) 0 41 _ _ HV.out.2.1.c Tryz.underlying41 rfl info_mach
 simp only [results,Tryz.results41]
 simp
 show (Result.andThen (Sem.run Tryz.prog (loadVar 41 ⟨w.heap.size+2,0,none⟩) V) _)=_
 rw [l1]
 rfl
def wkRom:List UInt8:=[0,6,0,0,0,0,121,31,216,0]
def wkC0:C.Cpu:=⟨[0,0,0,0,0,0,0,0],6,false,false,false,false,false,false⟩
def wkC1:C.Cpu:=⟨[0,65535,0,0,0,0,0,0],8,false,true,false,false,false,false⟩
def wkC2:C.Cpu:=⟨[0,65535,0,0,0,0,0,0],10,false,true,false,false,false,true⟩
section
variable (main aux : C.Cpu) (arom ram own video : List UInt8) (p0 p1 : Pd) (t : TM) (s : Sd) (b : Bem) (fr tt : Int) (granted held : Bool) (m0 m1 : Int) (rung : Bool) (clock mready aready : Int) (l : List Wt)
theorem wk_step0:C.order mainMem wkC0 ⟨⟨main,aux,wkRom,arom,ram,own,video,p0,p1,t,s,b,fr,tt,granted,held,m0,m1,rung,clock,mready,aready⟩,0,l⟩=⟨wkC1,⟨⟨main,aux,wkRom,arom,ram,own,video,p0,p1,t,s,b,fr,tt,granted,held,m0,m1,rung,clock,mready,aready⟩,0,l⟩,1⟩:=by kernel_rfl
theorem wk_step1:C.order mainMem wkC1 ⟨⟨main,aux,wkRom,arom,ram,own,video,p0,p1,t,s,b,fr,tt,granted,held,m0,m1,rung,clock,mready,aready⟩,0,l⟩=⟨wkC2,⟨⟨main,aux,wkRom,arom,ram,own,video,p0,p1,t,s,b,fr,tt,granted,held,m0,m1,rung,clock,mready,aready⟩,0,l⟩,1⟩:=by kernel_rfl
end
structure Wkm (M : Mach) (c : C.Cpu) (clock mready : Int) : Prop where
 rom:M.mrom=wkRom
 held:M.held=true
 main:M.main=c
 clock:M.clock=clock
 ready:M.mready=mready
theorem wk_clock {k:Cs} {c c':C.Cpu} {cl r r':Int} (h:Wkm k.s.M c cl r) (hco:k.co=[]) (hs:Wkm (Bst.stepMain k.s).M c' cl r'):Wkm k.clock.s.M c' (cl+1) r'/\k.clock.co=[]:=by
 have hm:k.s.M.pressed k.co=k.s.M:=by rw [hco];rfl
 have ha:(Bst.stepMain k.s).stepAux=Bst.stepMain k.s:=by
  unfold Bst.stepAux
  rw [if_pos (Or.inl hs.held)]
 have hn:k.now.s=Bst.stepMain k.s:=by
  show (Bst.stepMain ⟨k.s.M.pressed k.co,k.s.n,k.s.l⟩).stepAux=_
  rw [hm,ha]
 have hM:k.clock.s.M=(Bst.stepMain k.s).M.goOn:=by show k.now.s.M.goOn=_;rw [hn]
 refine ⟨?_,by show k.s.M.coming k.co=[];rw [hco];rfl⟩
 rw [hM]
 exact ⟨hs.rom,hs.held,hs.main,by show (Bst.stepMain k.s).M.clock+1=_;rw [hs.clock],hs.ready⟩
theorem wk_idle {s:Bst} {c:C.Cpu} {cl r:Int} (h:Wkm s.M c cl r) (hr:cl < r):Wkm (Bst.stepMain s).M c cl r:=by
 unfold Bst.stepMain
 rw [if_pos (by rw [h.clock,h.ready];exact hr)]
 exact h
theorem wk_do {s:Bst} {c c':C.Cpu} {cl r n:Int} (h:Wkm s.M c cl r) (hr:¬ cl < r) (hw:c.Waits=false) (hm:c.May=false)
 (ho:∀ (main aux:C.Cpu) (arom ram own video:List UInt8) (p0 p1:Pd) (t:TM) (s:Sd) (b:Bem) (fr tt:Int) (granted held:Bool) (m0 m1:Int) (rung:Bool) (clock mready aready:Int) (l:List Wt),
   C.order mainMem c ⟨⟨main,aux,wkRom,arom,ram,own,video,p0,p1,t,s,b,fr,tt,granted,held,m0,m1,rung,clock,mready,aready⟩,0,l⟩=⟨c',⟨⟨main,aux,wkRom,arom,ram,own,video,p0,p1,t,s,b,fr,tt,granted,held,m0,m1,rung,clock,mready,aready⟩,0,l⟩,n⟩):Wkm (Bst.stepMain s).M c' cl (cl+3 * n):=by
 unfold Bst.stepMain
 rw [if_neg (by rw [h.clock,h.ready];exact hr)]
 obtain ⟨⟨main,aux,mrom,arom,ram,own,video,p0,p1,t,sd,b,fr,tt,granted,held,m0,m1,rung,clock,mready,aready⟩,n0,l⟩:=s
 obtain ⟨h1,h2,h3,h4,h5⟩:=h
 dsimp only at h1 h2 h3 h4 h5 hr ⊢
 subst h1 h2 h3 h4 h5
 rw [step_may _ _ _ hw hm,ho main aux arom ram own video p0 p1 t sd b fr tt granted true m0 m1 rung clock mready aready l]
 exact ⟨rfl,rfl,rfl,rfl,by show clock+3 * n+0=_;omega⟩
def wkM:Mach:=newD wkRom []
def wkS:Cs:=⟨⟨wkM,0,[]⟩,[],[],[]⟩
theorem wk0:Wkm (wkM.aft [] 0) wkC0 0 0:=⟨rfl,rfl,by show beginC ((newM wkRom []).lookM 0) ((newM wkRom []).lookM 1)=wkC0;decide +kernel,rfl,rfl⟩
theorem wk_co:∀ j,(wkS.clocks j).co=[]
 | 0=>rfl
 | j+1=>by
  show (wkS.clocks j).s.M.coming (wkS.clocks j).co=[]
  rw [wk_co j];rfl
theorem wk1:Wkm (wkM.aft [] 1) wkC1 1 3:=(wk_clock (k:=wkS.clocks 0) wk0 (wk_co 0) (wk_do (n:=1) wk0 (by decide) rfl rfl (fun _ _ _ _ _ _ _ _ _ _ _ _ _ _ _ _ _ _ _ _ _ _=>wk_step0 ..))).1
theorem wk2:Wkm (wkM.aft [] 2) wkC1 2 3:=(wk_clock (k:=wkS.clocks 1) wk1 (wk_co 1) (wk_idle wk1 (by decide))).1
theorem wk3:Wkm (wkM.aft [] 3) wkC1 3 3:=(wk_clock (k:=wkS.clocks 2) wk2 (wk_co 2) (wk_idle wk2 (by decide))).1
theorem wk4:Wkm (wkM.aft [] 4) wkC2 4 6:=(wk_clock (k:=wkS.clocks 3) wk3 (wk_co 3) (wk_do (n:=1) wk3 (by decide) rfl rfl (fun _ _ _ _ _ _ _ _ _ _ _ _ _ _ _ _ _ _ _ _ _ _=>wk_step1 ..))).1
theorem Wkm.nx {j k:Nat} {c:C.Cpu} {cl r:Int} (h:Wkm (wkM.aft [] j) c cl r) (e:(min (max r (cl+1)) (0+(5:Nat)) - 0).toNat=k):wnx wkM [] 5 j=k:=by
 unfold wnx Mach.next
 rw [h.held,h.clock,h.ready,if_pos rfl]
 exact e
theorem Wkm.no {M:Mach} {c:C.Cpu} {cl r:Int} (h:Wkm M c cl r) (e:cl < r):M.due=[]:=by
 have h1:M.mdue=false:=by unfold Mach.mdue;rw [h.clock,h.ready,decide_eq_false (by omega)];rfl
 have h2:M.adue=false:=by unfold Mach.adue;rw [h.held];rfl
 unfold Mach.due Mach.mdid Mach.adid
 rw [h1,h2];rfl
theorem Wkm.yes {M:Mach} {c:C.Cpu} {cl r:Int} (h:Wkm M c cl r) (e:r<=cl) (hw:c.Waits=false) (hm:c.May=false):M.due=[⟨cl,false,c.PC,wtext wkRom c.PC.toNat⟩]:=by
 have h1:M.mdue=true:=by unfold Mach.mdue;rw [h.clock,h.ready,decide_eq_true e,h.main,hw,hm];rfl
 have h2:M.adue=false:=by unfold Mach.adue;rw [h.held];rfl
 unfold Mach.due Mach.mdid Mach.adid
 rw [h1,h2,h.clock,h.main,h.rom];rfl
theorem wk_way {js:List Nat} {j:Nat} (h:Way wkM [] 5 js j):(js=[]/\j=0) \/ (js=[0]/\j=1) \/ (js=[0,1]/\j=3) \/ (js=[0,1,3]/\j=4) \/ (js=[0,1,3,4]/\j=5):=by
 induction h with
 | nil=>exact Or.inl ⟨rfl,rfl⟩
 | cons _ hlt ih =>
  rcases ih with ⟨rfl,rfl⟩ | ⟨rfl,rfl⟩ | ⟨rfl,rfl⟩ | ⟨rfl,rfl⟩ | ⟨rfl,rfl⟩
  ·exact Or.inr (Or.inl ⟨rfl,wk0.nx (by decide)⟩)
  ·exact Or.inr (Or.inr (Or.inl ⟨rfl,wk1.nx (by decide)⟩))
  ·exact Or.inr (Or.inr (Or.inr (Or.inl ⟨rfl,wk3.nx (by decide)⟩)))
  ·exact Or.inr (Or.inr (Or.inr (Or.inr ⟨rfl,wk4.nx (by decide)⟩)))
  ·omega
def wkT0:List UInt8:=[97,100,100,105,32,114,49,44,32,45,49]
def wkT1:List UInt8:=[104,108,116]
def wkL:List Dd:=[⟨0,false,6,wkT0⟩,⟨3,false,8,wkT1⟩]
theorem wk_t0:wtext wkRom 6=wkT0:=by decide +kernel
theorem wk_t1:wtext wkRom 8=wkT1:=by decide +kernel
theorem wk_log {js:List Nat} (h:Way wkM [] 5 js 5):(js.map (fun i=>(wkM.aft [] i).due)).flatten=wkL:=by
 have hj:js=[0,1,3,4]:=by
  rcases wk_way h with ⟨_,e⟩ | ⟨_,e⟩ | ⟨_,e⟩ | ⟨_,e⟩ | ⟨e,_⟩
  ·cases e
  ·cases e
  ·cases e
  ·cases e
  ·exact e
 subst hj
 simp only [List.map_cons,List.map_nil,wk0.yes (by decide) rfl rfl,wk1.no (by decide),wk3.yes (by decide) rfl rfl,wk4.no (by decide)]
 show [(⟨0,false,6,wtext wkRom 6⟩:Dd),⟨3,false,8,wtext wkRom 8⟩]=wkL
 rw [wk_t0,wk_t1];rfl
theorem wk_bk3:bk 8 (wkM.aft [] 3)=true:=by unfold bk;rw [wk3.main,wk3.clock,wk3.ready];rfl
theorem wk_err:fErr wkM [] 5=0:=by
 have hf:wkM.chk=0:=by decide +kernel
 have h0:runErr wkM [] 0=0:=run_err0 hf rfl ⟨by decide,by decide,by show (0:Int)+0<=200000;decide⟩
 unfold fErr
 rw [h0,if_pos rfl,if_pos ⟨by decide,by decide,by show (0:Int)+5<=200000;decide⟩]
theorem wk_tend {X:Mach} {er:Int} {acc:List Dd} (h:TEnd wkM [] 5 X er acc):er=0/\acc=wkL:=by
 rcases h with ⟨h1,_,_,h | h⟩ | ⟨h1,_,_,_,_,js,hW,ha⟩
 ·rw [wk_err] at h;exact absurd h h1
 ·exact absurd h (by show ¬ 19000 < (0:Int);decide)
 ·exact ⟨h1,ha.trans (wk_log hW)⟩
theorem wk_bend {X:Mach} {t:Bool} {er:Int} {acc:List Dd} (h:FEnd wkM [] 5 (bk 8) (fun _=>[]) X t er acc):er=0/\t=true:=by
 rcases h with ⟨h1,_,_,h | h⟩ | ⟨h1,_,_,_,js,j,hW,hX,hb,h⟩
 ·rw [wk_err] at h;exact absurd h h1
 ·exact absurd h (by show ¬ 19000 < (0:Int);decide)
 ·refine ⟨h1,?_⟩
  rcases h with ⟨_,hj,_⟩ | ⟨ht,_⟩
  ·have hj5:j=5:=hj
   subst hj5
   rcases wk_way hW with ⟨_,e⟩ | ⟨_,e⟩ | ⟨_,e⟩ | ⟨_,e⟩ | ⟨e,_⟩
   ·cases e
   ·cases e
   ·cases e
   ·cases e
   ·have:=hb 3 (by rw [e];simp)
    rw [wk_bk3] at this
    cases this
  ·exact ht
theorem info_did2:(Tryz.prog.info? 76).map (·.size)=some 4:=by kernel_rfl
theorem Wc.eq_did (c p:Int) (a:Bool) (t:ByteArray) (w:World):(binOp .eql 76 (.agg #[.int .i64 c,.bool a,.int .u16 p,.string t]) (.agg #[.int .i64 c,.bool a,.int .u16 p,.string t])).run Tryz.prog w = .ok (.bool true) w:=by
 have u3:=Tryz.underlying3
 have x3:=Tryz.isAgg3
 have z3:=Tryz.sizeOf3
 have u4:=Tryz.underlying4
 have x4:=Tryz.isAgg4
 have z4:=Tryz.sizeOf4
 have u5:=Tryz.underlying22
 have x5:=Tryz.isAgg22
 have z5:=Tryz.sizeOf22
 have u6:=Tryz.underlying9
 have x6:=Tryz.isAgg9
 have z6:=Tryz.sizeOf9
 have hS:Tryz.prog.underlying 76=some (.struct (Tryz.prog.fieldsOf 76)):=by kernel_rfl
 have hp:Tryz.prog.stoodInHeld 76=false:=by kernel_rfl
 rw [run_eql_struct,show (10000:Nat)=9999+1 from rfl,run_equalIn_agg w 9999 76 _ _ hS hp]
 simp only [Program.fieldsOf,Tryz.underlying76]
 go_simp
theorem Wc.nq_did (x:Dd) (w:World):(binOp .neq 76 (.agg (didL x).toArray) (.agg (didL x).toArray)).run Tryz.prog w = .ok (.bool false) w:=Lk.neq_of (Wc.eq_did x.c x.pc x.a (Asmk x.t) w)
theorem dcs_row:∀ (l:List Dd) (i:Nat) (x:Dd),l[i]? = some x->∀ (j:Nat) (v:Value),(didL x)[j]? = some v->(dcs l)[i * 4+j]? = some v
 | [],i,x,h=>by simp at h
 | y :: l,0,x,h=>fun j v hj=>by
  simp only [List.getElem?_cons_zero,Option.some.injEq] at h
  subst h
  rw [Nat.zero_mul,Nat.zero_add]
  show (didL y++dcs l)[j]? = _
  rw [List.getElem?_append_left (List.getElem?_eq_some_iff.1 hj).1]
  exact hj
 | y :: l,i+1,x,h=>fun j v hj=>by
  rw [List.getElem?_cons_succ] at h
  have:=dcs_row l i x h j v hj
  show (didL y++dcs l)[(i+1) * 4+j]? = _
  rw [List.getElem?_append_right (by simp [didL];omega),show (didL y).length=4 from rfl,show (i+1) * 4+j - 4=i * 4+j by omega]
  exact this
theorem Wc.sameDid (v1 v2:Value) (l:List Dd) (w:World) (h1:RwAt w v1 l.length 4 (dcs l)) (h2:RwAt w v2 l.length 4 (dcs l)) (hl:l.length<=1000000) :
 Calls Tryz.prog 42 #[v1,v2] w fun e w'=>e = .returned (.bool true)/\Below w.heap.size w w':=by
 obtain ⟨a1,k1,e1⟩:=h1.len
 obtain ⟨a2,k2,e2⟩:=h2.len
 subst e1 e2
 have H1:=hid h1
 have H2:=hid h2
 clear h1 h2
 go_enter Tryz.func42,Tryz.ntmps42
 go_wp2
 go_loopw [13] (fun i wr=>∃ j:Nat,j<=l.length/\i = .int .i64 j/\Below w.heap.size w wr) (fun i _=>l.length - (intOf i).toNat)
 case atStart=>exact ⟨0,Nat.zero_le _,rfl,st0 w⟩
 case round =>
  obtain ⟨j,hj,rfl,hb⟩:=hrel
  have HB:=hid hb
  by_cases hlt:j < l.length
  ·have hlt2:(j:Int) < l.length:=by omega
   have hj0:(0:Int)<=j:=by omega
   have hjs:(j:Int) < 1000000:=by omega
   obtain ⟨x,hx⟩:∃ x,l[j]? = some x:=⟨_,List.getElem?_eq_getElem hlt⟩
   obtain ⟨g1,o1,c1,q1,z1,r1⟩:=(H1.out.kept hb).range hlt (dcs_row l j x hx)
   obtain ⟨g2,o2,c2,q2,z2,r2⟩:=(H2.out.kept hb).range hlt (dcs_row l j x hx)
   cases q1
   cases q2
   have hnq:=Wc.nq_did x
   clear hb hx
   go_upto_region 6 with fail
   refine wp_region_held_drew (S:=fun w'=>w'.rangeAt g1 (o1+j * 4) (didL x)/\w'.rangeAt g2 (o2+j * 4) (didL x)) (by kernel_rfl) ⟨r1,r2⟩ ?_
   intro hS
   refine wpAnyH_take (i:=0) (oi:=⟨some 16,_,_,_,_,none⟩) (v:=?_) rfl (by kernel_rfl) (by kernel_rfl) (by kernel_rfl) (fun _ _ _ h=>h) (Or.inl ⟨by rfl,?_⟩) hS ?_
   rotate_left 1
   focus (intro w hSw;clear hSw;go_simp;try (with_reducible rfl))
   simp only [Act.put,xA,xB,xC]
   refine wpAnyH_take (i:=1) (oi:=⟨some 17,_,_,_,_,none⟩) (v:=?_) rfl (by kernel_rfl) (by kernel_rfl) (by kernel_rfl) (fun _ _ _ h=>h) (Or.inl ⟨by rfl,?_⟩) hS ?_
   rotate_left 1
   focus (intro w hSw;clear hSw;go_simp;try (with_reducible rfl))
   simp only [Act.put,xA,xB,xC]
   refine wpAnyH_take (i:=2) (oi:=⟨some 18,_,_,_,_,none⟩) (v:=?_) rfl (by kernel_rfl) (by kernel_rfl) (by kernel_rfl) (fun _ _ _ h=>h) (Or.inl ⟨by rfl,?_⟩) hS ?_
   rotate_left 1
   focus (intro w hSw;clear hSw;go_simp;try (with_reducible rfl))
   simp only [Act.put,xA,xB,xC]
   refine wpAnyH_take (i:=3) (oi:=⟨some 19,_,_,_,_,none⟩) (v:=.agg (didL x).toArray) rfl (by kernel_rfl) (by kernel_rfl) (by kernel_rfl) (fun _ _ _ h=>h) (Or.inl ⟨by rfl,fun w' hSw=>exec_load_mid 76 _ rfl g1 (o1+j * 4) rfl (didL x) _ hSw.1 Tryz.underlying76 rfl info_did2⟩) hS ?_
   simp only [Act.put,xA,xB,xC]
   refine wpAnyH_take (i:=4) (oi:=⟨some 20,_,_,_,_,none⟩) (v:=?_) rfl (by kernel_rfl) (by kernel_rfl) (by kernel_rfl) (fun _ _ _ h=>h) (Or.inl ⟨by rfl,?_⟩) hS ?_
   rotate_left 1
   focus (intro w hSw;clear hSw;go_simp;try (with_reducible rfl))
   simp only [Act.put,xA,xB,xC]
   refine wpAnyH_take (i:=5) (oi:=⟨some 21,_,_,_,_,none⟩) (v:=?_) rfl (by kernel_rfl) (by kernel_rfl) (by kernel_rfl) (fun _ _ _ h=>h) (Or.inl ⟨by rfl,?_⟩) hS ?_
   rotate_left 1
   focus (intro w hSw;clear hSw;go_simp;try (with_reducible rfl))
   simp only [Act.put,xA,xB,xC]
   refine wpAnyH_take (i:=6) (oi:=⟨some 22,_,_,_,_,none⟩) (v:=?_) rfl (by kernel_rfl) (by kernel_rfl) (by kernel_rfl) (fun _ _ _ h=>h) (Or.inl ⟨by rfl,?_⟩) hS ?_
   rotate_left 1
   focus (intro w hSw;clear hSw;go_simp;try (with_reducible rfl))
   simp only [Act.put,xA,xB,xC]
   refine wpAnyH_take (i:=7) (oi:=⟨some 23,_,_,_,_,none⟩) (v:=.agg (didL x).toArray) rfl (by kernel_rfl) (by kernel_rfl) (by kernel_rfl) (fun _ _ _ h=>h) (Or.inl ⟨by rfl,fun w' hSw=>exec_load_mid 76 _ rfl g2 (o2+j * 4) rfl (didL x) _ hSw.2 Tryz.underlying76 rfl info_did2⟩) hS ?_
   simp only [Act.put,xA,xB,xC]
   refine wpAnyH_take (i:=8) (oi:=⟨some 24,_,_,_,_,none⟩) (v:=?_) rfl (by kernel_rfl) (by kernel_rfl) (by kernel_rfl) (fun _ _ _ h=>h) (Or.inl ⟨by rfl,?_⟩) hS ?_
   rotate_left 1
   focus (intro w hSw;clear hSw;go_simp;try (with_reducible rfl))
   simp only [Act.put,xA,xB,xC]
   refine wpAnyH_done (by kernel_rfl) ?_ _
   clear hS r1 r2
   go_wp2
   exact ⟨⟨j+1,by omega,by simp,HB.out.drew⟩,by simp [intOf];omega⟩
  ·have hnl:¬ (j:Int) < l.length:=by omega
   clear hb
   go_wp2
   go_ret
   exact ⟨rfl,HB.out⟩
end Go.Proofs.YtbhpfkjfijdmaaaGreatDoor
