/-
  Parts of a proof, joined.
-/
import Derived.Test.YtbhpfkjfijdmaaaGreatDoorZv32
namespace Go.Proofs.YtbhpfkjfijdmaaaGreatDoor
open Go.ChangeShapes Go.WideShapes Go.ChangeAt Go.RowKit
set_option linter.unusedVariables false
set_option maxRecDepth 100000
set_option maxHeartbeats 3200000
section
variable {F : Fx} {N c : Nat} {vco vln vsm v' : Value} {w w1 : World} {k : Cs} {s' : Bst}
theorem slice_one {W:World} {v:Value} {y:UInt8} (h:sliceAt W v [y]):∃ g o cap,v = .slice (some ⟨g,o,none⟩) 1 cap/\W.cell? ⟨g,o,none⟩=some (.int .u8 y.toNat)/\g < W.heap.size:=by
 rcases h with ⟨_,_,_,e⟩ | ⟨g,o,cap,h1,h2,h3,h4⟩
 ·cases e
 ·exact ⟨g,o,cap,h1,h4 0 y rfl,h3⟩
theorem app1G {ops:Array Oper} {rest:List Oper} {o:Oper} {a:Act} {w:World} {Q:Exit->Act->World->Prop} (hgd:o.guard=none) (s x:Operand) (ho:o.op = .call { callee:=.builtin .append,args:=#[s,x],argTypes:=#[26,26] })
 (B:Nat) (v:Value) (xs:List UInt8) (hs:a.eval s=v) (hown:w.ownsRow B 5 1 v xs.length (bcs xs)) (g o' c:Nat) (y:UInt8) (hx:a.eval x = .slice (some ⟨g,o',none⟩) 1 c) (hc:w.cell? ⟨g,o',none⟩=some (.int .u8 y.toNat)) (hl:xs.length<=100000) (hB:B<=w.heap.size)
 (h:∀ g1 cap w',w'.ownsRow B 5 1 (.slice (some ⟨g1,0,none⟩) (xs++[y]).length cap) (xs++[y]).length (bcs (xs++[y]))->w.grownBy w' v.ownBlock->g1 < w'.heap.size->wpList Tryz.prog ops Q rest (a.put o.dst (.slice (some ⟨g1,0,none⟩) (xs++[y]).length cap)) w'):wpList Tryz.prog ops Q (o :: rest) a w:=by
 obtain ⟨i0,hi0,hz0,hz1,hz2⟩:=info_parts info_byte
 have e1:(xs++[y]).length=xs.length+1:=by simp
 have e2:bcs (xs++[y])=bcs xs++[.int .u8 y.toNat]:=by simp [bcs]
 rw [e1,e2] at h
 refine wpList_append_lies w hgd s x _ ho B 5 i0 _ 1 1 Tryz.underlying26 hi0 hz0 hz1 hz2 rfl (by omega) v xs.length (bcs xs) hs hown ⟨g,o',none⟩ 1 c [.int .u8 y.toNat] hx rfl (fun j u hj=>?_) (fun u hu=>?_) (by omega) (by unfold maxLen;omega) (by omega) hB _ rfl (fun g1 cap w' h1 h2 _ h3=>h g1 cap w' h1 h2 h3)
 ·match j,hj with
  | 0,hj =>
   simp only [List.getElem?_cons_zero,Option.some.injEq] at hj
   rw [<- hj];exact hc
  | j+1,hj=>simp at hj
 ·simp only [List.mem_singleton] at hu
  rw [hu];rfl
theorem Lk.showSample (hF:Fb F N) (h:CI F N c vco vln vsm w k) (hl:k.sm.length<=100000):Calls Tryz.prog 51 #[pt c 0] w fun e w'=>e = .returned (.tuple #[]) /\ ∃ vsm',CI F N c vco vln vsm' w' { k with sm:=k.sm++k.s.M.sample }/\Below F.B w w':=by
 obtain ⟨v,hB⟩:=h.i.bd
 obtain ⟨M,hM⟩:∃ M,M=k.s.M:=⟨_,rfl⟩
 rw [<- hM] at hB ⊢
 have k0:=h.cb.bx.at 0 _ rfl
 have kz:=h.cb.z
 have mz:=hB.bx.z
 have HF:=hid hF
 have H:=hid h
 have HB:=hid hB
 have HL:=hid hl
 have HSF:Hid M.s.fit:={ hB.fit.s with w:=hB.fit.w }
 by_cases hw:M.s.w=0
 ·have m60:w.cell? ⟨F.g,60,none⟩=some (.int .i64 0):=by rw [<- hw];exact hB.at 60 (.int .i64 M.s.w) rfl
  have e0:M.sample=[sm M.s]:=by
   unfold Mach.sample
   rw [if_pos hw]
   show []++one M.s=_
   unfold one
   rw [if_pos hw];rfl
  have e1:sms M.s 1=[sm M.s]:=by
   show []++one M.s=_
   unfold one
   rw [if_pos hw];rfl
  rw [e0]
  have HE1:=hid e1
  clear hF h hB hl hM hw e0 e1
  go_enter Tryz.func51,Tryz.ntmps51
  go_upto_region 2 with (first
   | (refine wpList_load_mid rfl 36 _ rfl F.g 45 rfl (sndL M.s) _ HB.out.sndR Tryz.underlying36 rfl info_sound ?_)
   | (go_at_call 55;refine (samples_ok M.s 1 _ HSF.out (by decide)).mono ?_;rintro e w2 ⟨v2,rfl,hs2,hb2⟩;have HB2:=hid hb2;have HS2:=hid hs2;clear hs2 hb2)
   | (refine wpList_store_mid rfl 36 _ _ rfl w2.heap.size 0 (sndL (M.s.ticks 1)).toArray rfl rfl ((Bx.new w2 zs 36 (b:=w2.heap.size) rfl).there 0 16 (by simp [zs])) info_sound (all16 (M.s.ticks 1)) ?_
      refine Pl.cutL (fun Z=>Below w.heap.size w Z/\sliceAt Z v2 (sms M.s 1)) ⟨stp HB2.out (Bl.puts (stA (st0 w2) _) (Nat.le_refl _) _),HS2.out.kept (Bl.puts (stA (st0 w2) _) (Nat.le_refl _) _)⟩ ?_
      rintro Z ⟨hZ1,hZ2⟩
      have HZ1:=hid hZ1
      have HZ2:=hid hZ2
      clear hZ1 hZ2))
  have HC:=hid (H.out.keep HF.out HZ1.out)
  have hs1:=HZ2.out
  rw [HE1.out] at hs1
  obtain ⟨g0,o0,cap0,rfl,hcell,hgz⟩:=slice_one hs1
  have HCE:=hid hcell
  have k3:=HC.out.cb.bx.at 3 vsm rfl
  have kz2:=HC.out.cb.z
  clear hs1 hcell k0 kz mz m60
  go_wp2_with (at_builtin;refine app1G (by rfl) _ _ (by rfl) N _ k.sm (by rfl) HC.out.sm g0 o0 cap0 (sm M.s) (by rfl) HCE.out HL.out (Nat.le_trans HC.out.i.N (Nat.le_refl _)) ?_;intro g1 cap1 W1 hown1 hg1 hz1;have HO1:=hid hown1;have HG1:=hid hg1;have hcb1:=HC.out.cb.same (hg1.block c HC.out.cb.z (fun e=>row_ne HC.out.sm HC.out.cb.blk (by decide) e.symm));have q3:=hcb1.bx.at 3 vsm rfl;have qz:=hcb1.z;have qf:=hcb1.bx.f 3;clear hcb1 hown1 hg1)
  go_end0
  obtain ⟨r1,r2⟩:=HC.out.grow3 HF.out HO1.out HG1.out
  rw [show (k.sm++[sm M.s]).length=k.sm.length+1 by simp] at r1 r2
  exact ⟨rfl,_,r1,(HZ1.out.mono H.out.i.big).trans r2⟩
 ·have hw':(M.s.w == 0)=false:=by simpa using hw
  have m60:=hB.at 60 (.int .i64 M.s.w) rfl
  have e0:M.sample=[]:=if_neg hw
  rw [e0,List.append_nil]
  clear hF h hB hl e0 hM
  go_enter Tryz.func51,Tryz.ntmps51
  go_wp2
  exact bodyPost_ret (v:=.tuple #[]) (by simp [results,Tryz.results51,go_sem]) rfl ⟨rfl,vsm,H.out,Below.refl _ _⟩
end
end Go.Proofs.YtbhpfkjfijdmaaaGreatDoor
