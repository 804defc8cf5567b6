/-
  Parts of a proof, joined.
-/
import Derived.Test.YtbhpfkjfijdmaaaGreatDoorZv38
namespace Go.Proofs.YtbhpfkjfijdmaaaGreatDoor
open Go.ChangeShapes Go.WideShapes Go.ChangeAt Go.RowKit
set_option linter.unusedVariables false
set_option maxRecDepth 100000
set_option maxHeartbeats 3200000
theorem newM_chk (l1 l2:List UInt8) (h:¬ (l1.length<=1024/\l2.length<=1024)):(newM l1 l2).chk=2:=by
 unfold Mach.chk
 exact if_neg h
theorem newM_len (l1 l2:List UInt8) (h1:l1.length<=9223372036854775807) (h2:l2.length<=9223372036854775807):∀ j,j < 5->((newM l1 l2).byt j).length<=9223372036854775807:=fun j hj=>by
 rcases five hj with rfl | rfl | rfl | rfl | rfl
 ·exact h1
 ·exact h2
 ·show (List.replicate 128 (0:UInt8)).length<=_;rw [List.length_replicate];omega
 ·show (List.replicate 64 (0:UInt8)).length<=_;rw [List.length_replicate];omega
 ·show (List.replicate 256 (0:UInt8)).length<=_;rw [List.length_replicate];omega
theorem zero_again {Y:World} {b:Nat} (h:Bx Y b (machL zeroM nilS)):Bx (Y.setCells b 0 (machL zeroM nilS)) b (machL zeroM nilS):=by
 have hx:=h.puts 0 (machL zeroM nilS) (by omega)
 rw [putL_whole _ _ rfl] at hx
 exact hx
theorem Bu.new_bad (l1 l2:List UInt8) (v1 v2:Value) (w:World) (h1:sliceAt w v1 l1) (h2:sliceAt w v2 l2) (hl1:l1.length<=9223372036854775807) (hl2:l2.length<=9223372036854775807) (hc:¬ (l1.length<=1024/\l2.length<=1024)) :
 Calls Tryz.prog 22 #[v1,v2] w fun e w'=>e = .returned (.tuple #[.agg (machL zeroM nilS).toArray,.int .i64 2])/\Below w.heap.size w w':=by
 obtain ⟨a1,c1,e1⟩:=slice_len h1
 obtain ⟨a2,c2,e2⟩:=slice_len h2
 subst e1 e2
 have H1:=hid h1
 have H2:=hid h2
 have HR:=hid (Bx.new w (machL zeroM nilS) 41 (b:=w.heap.size) rfl)
 have HCK:=hid (newM_chk l1 l2 hc)
 have HZ:=hid (newM_len l1 l2 hl1 hl2)
 clear h1 h2 hl1 hl2 hc
 go_enter Tryz.func22,Tryz.ntmps22
 go_wp2
 refine wp_region_held_drew (S:=fun _=>True) (by kernel_rfl) trivial ?_
 intro _
 refine wpAnyH_take (i:=0) (oi:=⟨some 9,_,_,_,_,none⟩) (v:=?_) rfl (by kernel_rfl) (by kernel_rfl) (by kernel_rfl) (fun _ _ _ h=>h) (Or.inl ⟨by rfl,?_⟩) trivial ?_
 rotate_left 1
 focus (intro w hSw;(try dsimp only at hSw);go_simp;try (with_reducible rfl))
 simp only [Act.put,xA,xB,xC]
 refine wpAnyH_take (i:=1) (oi:=⟨some 10,_,_,_,_,none⟩) (v:=?_) rfl (by kernel_rfl) (by kernel_rfl) (by kernel_rfl) (fun _ _ _ h=>h) (Or.inl ⟨by rfl,?_⟩) trivial ?_
 rotate_left 1
 focus (intro w hSw;(try dsimp only at hSw);go_simp;try (with_reducible rfl))
 simp only [Act.put,xA,xB,xC]
 refine wpAnyH_ready (rs:=[2,3,4]) (by kernel_rfl) (by simp) ?_
 refine consH_make (op:=⟨some 11,_,_,_,_,none⟩) rfl rfl 26 _ _ rfl (.int .i64 128) (.int .i64 128) _ rfl rfl (mk128 _ (w.heap.size+1) (by simp)) trivial ?_ (consH_make (op:=⟨some 12,_,_,_,_,none⟩) rfl rfl 26 _ _ rfl (.int .i64 64) (.int .i64 64) _ rfl rfl (mk64 _ (w.heap.size+1) (by simp)) trivial ?_ (consH_make (op:=⟨some 13,_,_,_,_,none⟩) rfl rfl 26 _ _ rfl (.int .i64 256) (.int .i64 256) _ rfl rfl (mkV _ (w.heap.size+1) (by simp)) trivial ?_ AllReadyH.nil))
 all_goals simp only [Act.put,xA,xB,xC]
 ·refine wpAnyH_ready (rs:=[3,4]) (by kernel_rfl) (by simp) ?_
  refine consH_make (op:=⟨some 12,_,_,_,_,none⟩) rfl rfl 26 _ _ rfl (.int .i64 64) (.int .i64 64) _ rfl rfl (mk64 _ (w.heap.size+1+1) (by simp)) trivial ?_ (consH_make (op:=⟨some 13,_,_,_,_,none⟩) rfl rfl 26 _ _ rfl (.int .i64 256) (.int .i64 256) _ rfl rfl (mkV _ (w.heap.size+1+1) (by simp)) trivial ?_ AllReadyH.nil)
  all_goals simp only [Act.put,xA,xB,xC]
  ·refine wpAnyH_ready (rs:=[4]) (by kernel_rfl) (by simp) ?_
   refine consH_make (op:=⟨some 13,_,_,_,_,none⟩) rfl rfl 26 _ _ rfl (.int .i64 256) (.int .i64 256) _ rfl rfl (mkV _ (w.heap.size+1+1+1) (by simp)) trivial ?_ AllReadyH.nil
   simp only [Act.put,xA,xB,xC]
   refine cutH (NF w l1 l2 ⟨.slice a1 l1.length c1,.slice a2 l2.length c2,.slice (some ⟨_,0,none⟩) 128 128,.slice (some ⟨_,0,none⟩) 64 64,.slice (some ⟨_,0,none⟩) 256 256⟩) (NF.of (b1:=w.heap.size+1) (b2:=w.heap.size+1+1) (b3:=w.heap.size+1+1+1) H1.out H2.out ?_ ?_ ?_ ?_ ?_) ?_
   ·repeat' (first | exact st0 _ | refine Below.drew ?_ | refine stA ?_ _)
   ·repeat' (first | exact HR.out | refine Bx.drew ?_ | refine Bx.over ?_ _)
   ·repeat' (first | exact Bx.new _ (List.replicate 128 (.int .u8 0)) _ (by simp) | refine Bx.drew ?_ | refine Bx.over ?_ _)
   ·repeat' (first | exact Bx.new _ (List.replicate 64 (.int .u8 0)) _ (by simp) | refine Bx.drew ?_ | refine Bx.over ?_ _)
   ·repeat' (first | exact Bx.new _ (List.replicate 256 (.int .u8 0)) _ (by simp) | refine Bx.drew ?_ | refine Bx.over ?_ _)
   intro Y hY
   have HY:=hid hY
   clear hY
   refine wpAnyH_take (i:=5) (oi:=⟨some 14,_,_,_,_,none⟩) (v:=.agg (machL (newM l1 l2) ⟨.slice a1 l1.length c1,.slice a2 l2.length c2,.slice (some ⟨w.heap.size+1,0,none⟩) 128 128,.slice (some ⟨w.heap.size+1+1,0,none⟩) 64 64,.slice (some ⟨w.heap.size+1+1+1,0,none⟩) 256 256⟩).toArray) rfl (by kernel_rfl) (by kernel_rfl) (by kernel_rfl) (fun _ _ _ h=>h) (Or.inl ⟨by rfl,fun w' _=>exec_build6 41 2 3 4 5 6 14 _ _ _ _ _ _ rfl _ _ _ _ _ _ _ rfl rfl rfl rfl rfl rfl (run_new a1 a2 l1.length c1 l2.length c2 (w.heap.size+1) (w.heap.size+1+1) (w.heap.size+1+1+1) l1 l2 w')⟩) trivial ?_
   simp only [Act.put,xA,xB,xC]
   refine wpAnyH_ready (rs:=[6]) (by kernel_rfl) (by simp) ?_
   refine AllReadyH.cons (o:=⟨some 15,_,_,_,_,none⟩) rfl (fun K hK=>?_) AllReadyH.nil
   go_simp
   go_at_call 45
   refine (Bu.open_bad (newM l1 l2) _ _ HY.out.sl.lens HZ.out (by rw [HCK.out];decide)).mono ?_
   rw [HCK.out]
   rintro e w1 ⟨rfl,hb1⟩
   have HLO:=hid (stp HY.out.low hb1)
   have HRE:=hid (HY.out.res.kept hb1)
   clear hb1
   try go_wp2_with fail
   refine hK.out _ _ trivial (fun _=>?_)
   clear hK K HY
   try simp only [Act.put,xA,xB,xC]
   refine wpAnyH_take (i:=7) (oi:=⟨some 8,_,_,_,_,none⟩) (v:=?_) rfl (by kernel_rfl) (by kernel_rfl) (by kernel_rfl) (fun _ _ _ h=>h) (Or.inl ⟨by rfl,?_⟩) trivial ?_
   rotate_left 1
   focus (intro w hSw;(try dsimp only at hSw);go_simp;try (with_reducible rfl))
   simp only [Act.put,xA,xB,xC]
   refine wpAnyH_take (i:=8) (oi:=⟨some 16,_,_,_,_,none⟩) (v:=?_) rfl (by kernel_rfl) (by kernel_rfl) (by kernel_rfl) (fun _ _ _ h=>h) (Or.inl ⟨by rfl,?_⟩) trivial ?_
   rotate_left 1
   focus (intro w hSw;(try dsimp only at hSw);go_simp;try (with_reducible rfl))
   simp only [Act.put,xA,xB,xC]
   refine wpAnyH_take (i:=9) (oi:=⟨some 17,_,_,_,_,none⟩) (v:=?_) rfl (by kernel_rfl) (by kernel_rfl) (by kernel_rfl) (fun _ _ _ h=>h) (Or.inl ⟨by rfl,?_⟩) trivial ?_
   rotate_left 1
   focus (intro w hSw;(try dsimp only at hSw);go_simp;try (with_reducible rfl))
   simp only [Act.put,xA,xB,xC]
   refine wpAnyH_take (i:=10) (oi:=⟨some 6,_,_,_,_,none⟩) (v:=?_) rfl (by kernel_rfl) (by kernel_rfl) (by kernel_rfl) (fun _ _ _ h=>h) (Or.inl ⟨by rfl,?_⟩) trivial ?_
   rotate_left 1
   focus (intro w hSw;(try dsimp only at hSw);go_simp;try (with_reducible rfl))
   simp only [Act.put,xA,xB,xC]
   refine wpAnyH_take (i:=11) (oi:=⟨some 7,_,_,_,_,none⟩) (v:=?_) rfl (by kernel_rfl) (by kernel_rfl) (by kernel_rfl) (fun _ _ _ h=>h) (Or.inl ⟨by rfl,?_⟩) trivial ?_
   rotate_left 1
   focus (intro w hSw;(try dsimp only at hSw);go_simp;try (with_reducible rfl))
   simp only [Act.put,xA,xB,xC]
   refine wpAnyH_done (by kernel_rfl) ?_ _
   refine Pl.cutE (fun X=>Below w.heap.size w X/\Bx X w.heap.size (machL zeroM nilS)) ⟨HLO.out,HRE.out⟩ ?_
   rintro X ⟨hX1,hX2⟩
   have HX1:=hid hX1
   have HX2:=hid hX2
   clear hX1 hX2 HLO HRE
   go_wp2_with (refine wpList_store_mid rfl 41 _ _ rfl w.heap.size 0 (machL zeroM nilS).toArray rfl rfl (HX2.out.there 0 75 (by rw [machL_len];omega)) info_mach (machL_one _ _ zero_sl) ?_;refine Pl.cutL (fun V=>Below w.heap.size w V/\Bx V w.heap.size (machL zeroM nilS)) ⟨Bl.puts HX1.out (Nat.le_refl _) _,zero_again HX2.out⟩ ?_;rintro V ⟨hV1,hV2⟩;have HV1:=hid hV1;have HV2:=hid hV2;clear hV1 hV2)
   have hl:=load_mach _ _ HV2.out.c
   refine bodyPost_ret (v:=.tuple #[.agg (machL zeroM nilS).toArray,.int .i64 2]) ?_ rfl ⟨rfl,HV1.out⟩
   simp only [results,Tryz.results22]
   simp
   show (Result.andThen (Sem.run Tryz.prog (loadVar 41 ⟨w.heap.size,0,none⟩) V) _)=_
   rw [hl]
   rfl
  ·refine wpAnyH_ready (rs:=[3]) (by kernel_rfl) (by simp) ?_
   refine consH_make (op:=⟨some 12,_,_,_,_,none⟩) rfl rfl 26 _ _ rfl (.int .i64 64) (.int .i64 64) _ rfl rfl (mk64 _ (w.heap.size+1+1+1) (by simp)) trivial ?_ AllReadyH.nil
   simp only [Act.put,xA,xB,xC]
   refine cutH (NF w l1 l2 ⟨.slice a1 l1.length c1,.slice a2 l2.length c2,.slice (some ⟨_,0,none⟩) 128 128,.slice (some ⟨_,0,none⟩) 64 64,.slice (some ⟨_,0,none⟩) 256 256⟩) (NF.of (b1:=w.heap.size+1) (b2:=w.heap.size+1+1+1) (b3:=w.heap.size+1+1) H1.out H2.out ?_ ?_ ?_ ?_ ?_) ?_
   ·repeat' (first | exact st0 _ | refine Below.drew ?_ | refine stA ?_ _)
   ·repeat' (first | exact HR.out | refine Bx.drew ?_ | refine Bx.over ?_ _)
   ·repeat' (first | exact Bx.new _ (List.replicate 128 (.int .u8 0)) _ (by simp) | refine Bx.drew ?_ | refine Bx.over ?_ _)
   ·repeat' (first | exact Bx.new _ (List.replicate 64 (.int .u8 0)) _ (by simp) | refine Bx.drew ?_ | refine Bx.over ?_ _)
   ·repeat' (first | exact Bx.new _ (List.replicate 256 (.int .u8 0)) _ (by simp) | refine Bx.drew ?_ | refine Bx.over ?_ _)
   intro Y hY
   have HY:=hid hY
   clear hY
   refine wpAnyH_take (i:=5) (oi:=⟨some 14,_,_,_,_,none⟩) (v:=.agg (machL (newM l1 l2) ⟨.slice a1 l1.length c1,.slice a2 l2.length c2,.slice (some ⟨w.heap.size+1,0,none⟩) 128 128,.slice (some ⟨w.heap.size+1+1+1,0,none⟩) 64 64,.slice (some ⟨w.heap.size+1+1,0,none⟩) 256 256⟩).toArray) rfl (by kernel_rfl) (by kernel_rfl) (by kernel_rfl) (fun _ _ _ h=>h) (Or.inl ⟨by rfl,fun w' _=>exec_build6 41 2 3 4 5 6 14 _ _ _ _ _ _ rfl _ _ _ _ _ _ _ rfl rfl rfl rfl rfl rfl (run_new a1 a2 l1.length c1 l2.length c2 (w.heap.size+1) (w.heap.size+1+1+1) (w.heap.size+1+1) l1 l2 w')⟩) trivial ?_
   simp only [Act.put,xA,xB,xC]
   refine wpAnyH_ready (rs:=[6]) (by kernel_rfl) (by simp) ?_
   refine AllReadyH.cons (o:=⟨some 15,_,_,_,_,none⟩) rfl (fun K hK=>?_) AllReadyH.nil
   go_simp
   go_at_call 45
   refine (Bu.open_bad (newM l1 l2) _ _ HY.out.sl.lens HZ.out (by rw [HCK.out];decide)).mono ?_
   rw [HCK.out]
   rintro e w1 ⟨rfl,hb1⟩
   have HLO:=hid (stp HY.out.low hb1)
   have HRE:=hid (HY.out.res.kept hb1)
   clear hb1
   try go_wp2_with fail
   refine hK.out _ _ trivial (fun _=>?_)
   clear hK K HY
   try simp only [Act.put,xA,xB,xC]
   refine wpAnyH_take (i:=7) (oi:=⟨some 8,_,_,_,_,none⟩) (v:=?_) rfl (by kernel_rfl) (by kernel_rfl) (by kernel_rfl) (fun _ _ _ h=>h) (Or.inl ⟨by rfl,?_⟩) trivial ?_
   rotate_left 1
   focus (intro w hSw;(try dsimp only at hSw);go_simp;try (with_reducible rfl))
   simp only [Act.put,xA,xB,xC]
   refine wpAnyH_take (i:=8) (oi:=⟨some 16,_,_,_,_,none⟩) (v:=?_) rfl (by kernel_rfl) (by kernel_rfl) (by kernel_rfl) (fun _ _ _ h=>h) (Or.inl ⟨by rfl,?_⟩) trivial ?_
   rotate_left 1
   focus (intro w hSw;(try dsimp only at hSw);go_simp;try (with_reducible rfl))
   simp only [Act.put,xA,xB,xC]
   refine wpAnyH_take (i:=9) (oi:=⟨some 17,_,_,_,_,none⟩) (v:=?_) rfl (by kernel_rfl) (by kernel_rfl) (by kernel_rfl) (fun _ _ _ h=>h) (Or.inl ⟨by rfl,?_⟩) trivial ?_
   rotate_left 1
   focus (intro w hSw;(try dsimp only at hSw);go_simp;try (with_reducible rfl))
   simp only [Act.put,xA,xB,xC]
   refine wpAnyH_take (i:=10) (oi:=⟨some 6,_,_,_,_,none⟩) (v:=?_) rfl (by kernel_rfl) (by kernel_rfl) (by kernel_rfl) (fun _ _ _ h=>h) (Or.inl ⟨by rfl,?_⟩) trivial ?_
   rotate_left 1
   focus (intro w hSw;(try dsimp only at hSw);go_simp;try (with_reducible rfl))
   simp only [Act.put,xA,xB,xC]
   refine wpAnyH_take (i:=11) (oi:=⟨some 7,_,_,_,_,none⟩) (v:=?_) rfl (by kernel_rfl) (by kernel_rfl) (by kernel_rfl) (fun _ _ _ h=>h) (Or.inl ⟨by rfl,?_⟩) trivial ?_
   rotate_left 1
   focus (intro w hSw;(try dsimp only at hSw);go_simp;try (with_reducible rfl))
   simp only [Act.put,xA,xB,xC]
   refine wpAnyH_done (by kernel_rfl) ?_ _
   refine Pl.cutE (fun X=>Below w.heap.size w X/\Bx X w.heap.size (machL zeroM nilS)) ⟨HLO.out,HRE.out⟩ ?_
   rintro X ⟨hX1,hX2⟩
   have HX1:=hid hX1
   have HX2:=hid hX2
   clear hX1 hX2 HLO HRE
   go_wp2_with (refine wpList_store_mid rfl 41 _ _ rfl w.heap.size 0 (machL zeroM nilS).toArray rfl rfl (HX2.out.there 0 75 (by rw [machL_len];omega)) info_mach (machL_one _ _ zero_sl) ?_;refine Pl.cutL (fun V=>Below w.heap.size w V/\Bx V w.heap.size (machL zeroM nilS)) ⟨Bl.puts HX1.out (Nat.le_refl _) _,zero_again HX2.out⟩ ?_;rintro V ⟨hV1,hV2⟩;have HV1:=hid hV1;have HV2:=hid hV2;clear hV1 hV2)
   have hl:=load_mach _ _ HV2.out.c
   refine bodyPost_ret (v:=.tuple #[.agg (machL zeroM nilS).toArray,.int .i64 2]) ?_ rfl ⟨rfl,HV1.out⟩
   simp only [results,Tryz.results22]
   simp
   show (Result.andThen (Sem.run Tryz.prog (loadVar 41 ⟨w.heap.size,0,none⟩) V) _)=_
   rw [hl]
   rfl
 ·refine wpAnyH_ready (rs:=[2,4]) (by kernel_rfl) (by simp) ?_
  refine consH_make (op:=⟨some 11,_,_,_,_,none⟩) rfl rfl 26 _ _ rfl (.int .i64 128) (.int .i64 128) _ rfl rfl (mk128 _ (w.heap.size+1+1) (by simp)) trivial ?_ (consH_make (op:=⟨some 13,_,_,_,_,none⟩) rfl rfl 26 _ _ rfl (.int .i64 256) (.int .i64 256) _ rfl rfl (mkV _ (w.heap.size+1+1) (by simp)) trivial ?_ AllReadyH.nil)
  all_goals simp only [Act.put,xA,xB,xC]
  ·refine wpAnyH_ready (rs:=[4]) (by kernel_rfl) (by simp) ?_
   refine consH_make (op:=⟨some 13,_,_,_,_,none⟩) rfl rfl 26 _ _ rfl (.int .i64 256) (.int .i64 256) _ rfl rfl (mkV _ (w.heap.size+1+1+1) (by simp)) trivial ?_ AllReadyH.nil
   simp only [Act.put,xA,xB,xC]
   refine cutH (NF w l1 l2 ⟨.slice a1 l1.length c1,.slice a2 l2.length c2,.slice (some ⟨_,0,none⟩) 128 128,.slice (some ⟨_,0,none⟩) 64 64,.slice (some ⟨_,0,none⟩) 256 256⟩) (NF.of (b1:=w.heap.size+1+1) (b2:=w.heap.size+1) (b3:=w.heap.size+1+1+1) H1.out H2.out ?_ ?_ ?_ ?_ ?_) ?_
   ·repeat' (first | exact st0 _ | refine Below.drew ?_ | refine stA ?_ _)
   ·repeat' (first | exact HR.out | refine Bx.drew ?_ | refine Bx.over ?_ _)
   ·repeat' (first | exact Bx.new _ (List.replicate 128 (.int .u8 0)) _ (by simp) | refine Bx.drew ?_ | refine Bx.over ?_ _)
   ·repeat' (first | exact Bx.new _ (List.replicate 64 (.int .u8 0)) _ (by simp) | refine Bx.drew ?_ | refine Bx.over ?_ _)
   ·repeat' (first | exact Bx.new _ (List.replicate 256 (.int .u8 0)) _ (by simp) | refine Bx.drew ?_ | refine Bx.over ?_ _)
   intro Y hY
   have HY:=hid hY
   clear hY
   refine wpAnyH_take (i:=5) (oi:=⟨some 14,_,_,_,_,none⟩) (v:=.agg (machL (newM l1 l2) ⟨.slice a1 l1.length c1,.slice a2 l2.length c2,.slice (some ⟨w.heap.size+1+1,0,none⟩) 128 128,.slice (some ⟨w.heap.size+1,0,none⟩) 64 64,.slice (some ⟨w.heap.size+1+1+1,0,none⟩) 256 256⟩).toArray) rfl (by kernel_rfl) (by kernel_rfl) (by kernel_rfl) (fun _ _ _ h=>h) (Or.inl ⟨by rfl,fun w' _=>exec_build6 41 2 3 4 5 6 14 _ _ _ _ _ _ rfl _ _ _ _ _ _ _ rfl rfl rfl rfl rfl rfl (run_new a1 a2 l1.length c1 l2.length c2 (w.heap.size+1+1) (w.heap.size+1) (w.heap.size+1+1+1) l1 l2 w')⟩) trivial ?_
   simp only [Act.put,xA,xB,xC]
   refine wpAnyH_ready (rs:=[6]) (by kernel_rfl) (by simp) ?_
   refine AllReadyH.cons (o:=⟨some 15,_,_,_,_,none⟩) rfl (fun K hK=>?_) AllReadyH.nil
   go_simp
   go_at_call 45
   refine (Bu.open_bad (newM l1 l2) _ _ HY.out.sl.lens HZ.out (by rw [HCK.out];decide)).mono ?_
   rw [HCK.out]
   rintro e w1 ⟨rfl,hb1⟩
   have HLO:=hid (stp HY.out.low hb1)
   have HRE:=hid (HY.out.res.kept hb1)
   clear hb1
   try go_wp2_with fail
   refine hK.out _ _ trivial (fun _=>?_)
   clear hK K HY
   try simp only [Act.put,xA,xB,xC]
   refine wpAnyH_take (i:=7) (oi:=⟨some 8,_,_,_,_,none⟩) (v:=?_) rfl (by kernel_rfl) (by kernel_rfl) (by kernel_rfl) (fun _ _ _ h=>h) (Or.inl ⟨by rfl,?_⟩) trivial ?_
   rotate_left 1
   focus (intro w hSw;(try dsimp only at hSw);go_simp;try (with_reducible rfl))
   simp only [Act.put,xA,xB,xC]
   refine wpAnyH_take (i:=8) (oi:=⟨some 16,_,_,_,_,none⟩) (v:=?_) rfl (by kernel_rfl) (by kernel_rfl) (by kernel_rfl) (fun _ _ _ h=>h) (Or.inl ⟨by rfl,?_⟩) trivial ?_
   rotate_left 1
   focus (intro w hSw;(try dsimp only at hSw);go_simp;try (with_reducible rfl))
   simp only [Act.put,xA,xB,xC]
   refine wpAnyH_take (i:=9) (oi:=⟨some 17,_,_,_,_,none⟩) (v:=?_) rfl (by kernel_rfl) (by kernel_rfl) (by kernel_rfl) (fun _ _ _ h=>h) (Or.inl ⟨by rfl,?_⟩) trivial ?_
   rotate_left 1
   focus (intro w hSw;(try dsimp only at hSw);go_simp;try (with_reducible rfl))
   simp only [Act.put,xA,xB,xC]
   refine wpAnyH_take (i:=10) (oi:=⟨some 6,_,_,_,_,none⟩) (v:=?_) rfl (by kernel_rfl) (by kernel_rfl) (by kernel_rfl) (fun _ _ _ h=>h) (Or.inl ⟨by rfl,?_⟩) trivial ?_
   rotate_left 1
   focus (intro w hSw;(try dsimp only at hSw);go_simp;try (with_reducible rfl))
   simp only [Act.put,xA,xB,xC]
   refine wpAnyH_take (i:=11) (oi:=⟨some 7,_,_,_,_,none⟩) (v:=?_) rfl (by kernel_rfl) (by kernel_rfl) (by kernel_rfl) (fun _ _ _ h=>h) (Or.inl ⟨by rfl,?_⟩) trivial ?_
   rotate_left 1
   focus (intro w hSw;(try dsimp only at hSw);go_simp;try (with_reducible rfl))
   simp only [Act.put,xA,xB,xC]
   refine wpAnyH_done (by kernel_rfl) ?_ _
   refine Pl.cutE (fun X=>Below w.heap.size w X/\Bx X w.heap.size (machL zeroM nilS)) ⟨HLO.out,HRE.out⟩ ?_
   rintro X ⟨hX1,hX2⟩
   have HX1:=hid hX1
   have HX2:=hid hX2
   clear hX1 hX2 HLO HRE
   go_wp2_with (refine wpList_store_mid rfl 41 _ _ rfl w.heap.size 0 (machL zeroM nilS).toArray rfl rfl (HX2.out.there 0 75 (by rw [machL_len];omega)) info_mach (machL_one _ _ zero_sl) ?_;refine Pl.cutL (fun V=>Below w.heap.size w V/\Bx V w.heap.size (machL zeroM nilS)) ⟨Bl.puts HX1.out (Nat.le_refl _) _,zero_again HX2.out⟩ ?_;rintro V ⟨hV1,hV2⟩;have HV1:=hid hV1;have HV2:=hid hV2;clear hV1 hV2)
   have hl:=load_mach _ _ HV2.out.c
   refine bodyPost_ret (v:=.tuple #[.agg (machL zeroM nilS).toArray,.int .i64 2]) ?_ rfl ⟨rfl,HV1.out⟩
   simp only [results,Tryz.results22]
   simp
   show (Result.andThen (Sem.run Tryz.prog (loadVar 41 ⟨w.heap.size,0,none⟩) V) _)=_
   rw [hl]
   rfl
  ·refine wpAnyH_ready (rs:=[2]) (by kernel_rfl) (by simp) ?_
   refine consH_make (op:=⟨some 11,_,_,_,_,none⟩) rfl rfl 26 _ _ rfl (.int .i64 128) (.int .i64 128) _ rfl rfl (mk128 _ (w.heap.size+1+1+1) (by simp)) trivial ?_ AllReadyH.nil
   simp only [Act.put,xA,xB,xC]
   refine cutH (NF w l1 l2 ⟨.slice a1 l1.length c1,.slice a2 l2.length c2,.slice (some ⟨_,0,none⟩) 128 128,.slice (some ⟨_,0,none⟩) 64 64,.slice (some ⟨_,0,none⟩) 256 256⟩) (NF.of (b1:=w.heap.size+1+1+1) (b2:=w.heap.size+1) (b3:=w.heap.size+1+1) H1.out H2.out ?_ ?_ ?_ ?_ ?_) ?_
   ·repeat' (first | exact st0 _ | refine Below.drew ?_ | refine stA ?_ _)
   ·repeat' (first | exact HR.out | refine Bx.drew ?_ | refine Bx.over ?_ _)
   ·repeat' (first | exact Bx.new _ (List.replicate 128 (.int .u8 0)) _ (by simp) | refine Bx.drew ?_ | refine Bx.over ?_ _)
   ·repeat' (first | exact Bx.new _ (List.replicate 64 (.int .u8 0)) _ (by simp) | refine Bx.drew ?_ | refine Bx.over ?_ _)
   ·repeat' (first | exact Bx.new _ (List.replicate 256 (.int .u8 0)) _ (by simp) | refine Bx.drew ?_ | refine Bx.over ?_ _)
   intro Y hY
   have HY:=hid hY
   clear hY
   refine wpAnyH_take (i:=5) (oi:=⟨some 14,_,_,_,_,none⟩) (v:=.agg (machL (newM l1 l2) ⟨.slice a1 l1.length c1,.slice a2 l2.length c2,.slice (some ⟨w.heap.size+1+1+1,0,none⟩) 128 128,.slice (some ⟨w.heap.size+1,0,none⟩) 64 64,.slice (some ⟨w.heap.size+1+1,0,none⟩) 256 256⟩).toArray) rfl (by kernel_rfl) (by kernel_rfl) (by kernel_rfl) (fun _ _ _ h=>h) (Or.inl ⟨by rfl,fun w' _=>exec_build6 41 2 3 4 5 6 14 _ _ _ _ _ _ rfl _ _ _ _ _ _ _ rfl rfl rfl rfl rfl rfl (run_new a1 a2 l1.length c1 l2.length c2 (w.heap.size+1+1+1) (w.heap.size+1) (w.heap.size+1+1) l1 l2 w')⟩) trivial ?_
   simp only [Act.put,xA,xB,xC]
   refine wpAnyH_ready (rs:=[6]) (by kernel_rfl) (by simp) ?_
   refine AllReadyH.cons (o:=⟨some 15,_,_,_,_,none⟩) rfl (fun K hK=>?_) AllReadyH.nil
   go_simp
   go_at_call 45
   refine (Bu.open_bad (newM l1 l2) _ _ HY.out.sl.lens HZ.out (by rw [HCK.out];decide)).mono ?_
   rw [HCK.out]
   rintro e w1 ⟨rfl,hb1⟩
   have HLO:=hid (stp HY.out.low hb1)
   have HRE:=hid (HY.out.res.kept hb1)
   clear hb1
   try go_wp2_with fail
   refine hK.out _ _ trivial (fun _=>?_)
   clear hK K HY
   try simp only [Act.put,xA,xB,xC]
   refine wpAnyH_take (i:=7) (oi:=⟨some 8,_,_,_,_,none⟩) (v:=?_) rfl (by kernel_rfl) (by kernel_rfl) (by kernel_rfl) (fun _ _ _ h=>h) (Or.inl ⟨by rfl,?_⟩) trivial ?_
   rotate_left 1
   focus (intro w hSw;(try dsimp only at hSw);go_simp;try (with_reducible rfl))
   simp only [Act.put,xA,xB,xC]
   refine wpAnyH_take (i:=8) (oi:=⟨some 16,_,_,_,_,none⟩) (v:=?_) rfl (by kernel_rfl) (by kernel_rfl) (by kernel_rfl) (fun _ _ _ h=>h) (Or.inl ⟨by rfl,?_⟩) trivial ?_
   rotate_left 1
   focus (intro w hSw;(try dsimp only at hSw);go_simp;try (with_reducible rfl))
   simp only [Act.put,xA,xB,xC]
   refine wpAnyH_take (i:=9) (oi:=⟨some 17,_,_,_,_,none⟩) (v:=?_) rfl (by kernel_rfl) (by kernel_rfl) (by kernel_rfl) (fun _ _ _ h=>h) (Or.inl ⟨by rfl,?_⟩) trivial ?_
   rotate_left 1
   focus (intro w hSw;(try dsimp only at hSw);go_simp;try (with_reducible rfl))
   simp only [Act.put,xA,xB,xC]
   refine wpAnyH_take (i:=10) (oi:=⟨some 6,_,_,_,_,none⟩) (v:=?_) rfl (by kernel_rfl) (by kernel_rfl) (by kernel_rfl) (fun _ _ _ h=>h) (Or.inl ⟨by rfl,?_⟩) trivial ?_
   rotate_left 1
   focus (intro w hSw;(try dsimp only at hSw);go_simp;try (with_reducible rfl))
   simp only [Act.put,xA,xB,xC]
   refine wpAnyH_take (i:=11) (oi:=⟨some 7,_,_,_,_,none⟩) (v:=?_) rfl (by kernel_rfl) (by kernel_rfl) (by kernel_rfl) (fun _ _ _ h=>h) (Or.inl ⟨by rfl,?_⟩) trivial ?_
   rotate_left 1
   focus (intro w hSw;(try dsimp only at hSw);go_simp;try (with_reducible rfl))
   simp only [Act.put,xA,xB,xC]
   refine wpAnyH_done (by kernel_rfl) ?_ _
   refine Pl.cutE (fun X=>Below w.heap.size w X/\Bx X w.heap.size (machL zeroM nilS)) ⟨HLO.out,HRE.out⟩ ?_
   rintro X ⟨hX1,hX2⟩
   have HX1:=hid hX1
   have HX2:=hid hX2
   clear hX1 hX2 HLO HRE
   go_wp2_with (refine wpList_store_mid rfl 41 _ _ rfl w.heap.size 0 (machL zeroM nilS).toArray rfl rfl (HX2.out.there 0 75 (by rw [machL_len];omega)) info_mach (machL_one _ _ zero_sl) ?_;refine Pl.cutL (fun V=>Below w.heap.size w V/\Bx V w.heap.size (machL zeroM nilS)) ⟨Bl.puts HX1.out (Nat.le_refl _) _,zero_again HX2.out⟩ ?_;rintro V ⟨hV1,hV2⟩;have HV1:=hid hV1;have HV2:=hid hV2;clear hV1 hV2)
   have hl:=load_mach _ _ HV2.out.c
   refine bodyPost_ret (v:=.tuple #[.agg (machL zeroM nilS).toArray,.int .i64 2]) ?_ rfl ⟨rfl,HV1.out⟩
   simp only [results,Tryz.results22]
   simp
   show (Result.andThen (Sem.run Tryz.prog (loadVar 41 ⟨w.heap.size,0,none⟩) V) _)=_
   rw [hl]
   rfl
 ·refine wpAnyH_ready (rs:=[2,3]) (by kernel_rfl) (by simp) ?_
  refine consH_make (op:=⟨some 11,_,_,_,_,none⟩) rfl rfl 26 _ _ rfl (.int .i64 128) (.int .i64 128) _ rfl rfl (mk128 _ (w.heap.size+1+1) (by simp)) trivial ?_ (consH_make (op:=⟨some 12,_,_,_,_,none⟩) rfl rfl 26 _ _ rfl (.int .i64 64) (.int .i64 64) _ rfl rfl (mk64 _ (w.heap.size+1+1) (by simp)) trivial ?_ AllReadyH.nil)
  all_goals simp only [Act.put,xA,xB,xC]
  ·refine wpAnyH_ready (rs:=[3]) (by kernel_rfl) (by simp) ?_
   refine consH_make (op:=⟨some 12,_,_,_,_,none⟩) rfl rfl 26 _ _ rfl (.int .i64 64) (.int .i64 64) _ rfl rfl (mk64 _ (w.heap.size+1+1+1) (by simp)) trivial ?_ AllReadyH.nil
   simp only [Act.put,xA,xB,xC]
   refine cutH (NF w l1 l2 ⟨.slice a1 l1.length c1,.slice a2 l2.length c2,.slice (some ⟨_,0,none⟩) 128 128,.slice (some ⟨_,0,none⟩) 64 64,.slice (some ⟨_,0,none⟩) 256 256⟩) (NF.of (b1:=w.heap.size+1+1) (b2:=w.heap.size+1+1+1) (b3:=w.heap.size+1) H1.out H2.out ?_ ?_ ?_ ?_ ?_) ?_
   ·repeat' (first | exact st0 _ | refine Below.drew ?_ | refine stA ?_ _)
   ·repeat' (first | exact HR.out | refine Bx.drew ?_ | refine Bx.over ?_ _)
   ·repeat' (first | exact Bx.new _ (List.replicate 128 (.int .u8 0)) _ (by simp) | refine Bx.drew ?_ | refine Bx.over ?_ _)
   ·repeat' (first | exact Bx.new _ (List.replicate 64 (.int .u8 0)) _ (by simp) | refine Bx.drew ?_ | refine Bx.over ?_ _)
   ·repeat' (first | exact Bx.new _ (List.replicate 256 (.int .u8 0)) _ (by simp) | refine Bx.drew ?_ | refine Bx.over ?_ _)
   intro Y hY
   have HY:=hid hY
   clear hY
   refine wpAnyH_take (i:=5) (oi:=⟨some 14,_,_,_,_,none⟩) (v:=.agg (machL (newM l1 l2) ⟨.slice a1 l1.length c1,.slice a2 l2.length c2,.slice (some ⟨w.heap.size+1+1,0,none⟩) 128 128,.slice (some ⟨w.heap.size+1+1+1,0,none⟩) 64 64,.slice (some ⟨w.heap.size+1,0,none⟩) 256 256⟩).toArray) rfl (by kernel_rfl) (by kernel_rfl) (by kernel_rfl) (fun _ _ _ h=>h) (Or.inl ⟨by rfl,fun w' _=>exec_build6 41 2 3 4 5 6 14 _ _ _ _ _ _ rfl _ _ _ _ _ _ _ rfl rfl rfl rfl rfl rfl (run_new a1 a2 l1.length c1 l2.length c2 (w.heap.size+1+1) (w.heap.size+1+1+1) (w.heap.size+1) l1 l2 w')⟩) trivial ?_
   simp only [Act.put,xA,xB,xC]
   refine wpAnyH_ready (rs:=[6]) (by kernel_rfl) (by simp) ?_
   refine AllReadyH.cons (o:=⟨some 15,_,_,_,_,none⟩) rfl (fun K hK=>?_) AllReadyH.nil
   go_simp
   go_at_call 45
   refine (Bu.open_bad (newM l1 l2) _ _ HY.out.sl.lens HZ.out (by rw [HCK.out];decide)).mono ?_
   rw [HCK.out]
   rintro e w1 ⟨rfl,hb1⟩
   have HLO:=hid (stp HY.out.low hb1)
   have HRE:=hid (HY.out.res.kept hb1)
   clear hb1
   try go_wp2_with fail
   refine hK.out _ _ trivial (fun _=>?_)
   clear hK K HY
   try simp only [Act.put,xA,xB,xC]
   refine wpAnyH_take (i:=7) (oi:=⟨some 8,_,_,_,_,none⟩) (v:=?_) rfl (by kernel_rfl) (by kernel_rfl) (by kernel_rfl) (fun _ _ _ h=>h) (Or.inl ⟨by rfl,?_⟩) trivial ?_
   rotate_left 1
   focus (intro w hSw;(try dsimp only at hSw);go_simp;try (with_reducible rfl))
   simp only [Act.put,xA,xB,xC]
   refine wpAnyH_take (i:=8) (oi:=⟨some 16,_,_,_,_,none⟩) (v:=?_) rfl (by kernel_rfl) (by kernel_rfl) (by kernel_rfl) (fun _ _ _ h=>h) (Or.inl ⟨by rfl,?_⟩) trivial ?_
   rotate_left 1
   focus (intro w hSw;(try dsimp only at hSw);go_simp;try (with_reducible rfl))
   simp only [Act.put,xA,xB,xC]
   refine wpAnyH_take (i:=9) (oi:=⟨some 17,_,_,_,_,none⟩) (v:=?_) rfl (by kernel_rfl) (by kernel_rfl) (by kernel_rfl) (fun _ _ _ h=>h) (Or.inl ⟨by rfl,?_⟩) trivial ?_
   rotate_left 1
   focus (intro w hSw;(try dsimp only at hSw);go_simp;try (with_reducible rfl))
   simp only [Act.put,xA,xB,xC]
   refine wpAnyH_take (i:=10) (oi:=⟨some 6,_,_,_,_,none⟩) (v:=?_) rfl (by kernel_rfl) (by kernel_rfl) (by kernel_rfl) (fun _ _ _ h=>h) (Or.inl ⟨by rfl,?_⟩) trivial ?_
   rotate_left 1
   focus (intro w hSw;(try dsimp only at hSw);go_simp;try (with_reducible rfl))
   simp only [Act.put,xA,xB,xC]
   refine wpAnyH_take (i:=11) (oi:=⟨some 7,_,_,_,_,none⟩) (v:=?_) rfl (by kernel_rfl) (by kernel_rfl) (by kernel_rfl) (fun _ _ _ h=>h) (Or.inl ⟨by rfl,?_⟩) trivial ?_
   rotate_left 1
   focus (intro w hSw;(try dsimp only at hSw);go_simp;try (with_reducible rfl))
   simp only [Act.put,xA,xB,xC]
   refine wpAnyH_done (by kernel_rfl) ?_ _
   refine Pl.cutE (fun X=>Below w.heap.size w X/\Bx X w.heap.size (machL zeroM nilS)) ⟨HLO.out,HRE.out⟩ ?_
   rintro X ⟨hX1,hX2⟩
   have HX1:=hid hX1
   have HX2:=hid hX2
   clear hX1 hX2 HLO HRE
   go_wp2_with (refine wpList_store_mid rfl 41 _ _ rfl w.heap.size 0 (machL zeroM nilS).toArray rfl rfl (HX2.out.there 0 75 (by rw [machL_len];omega)) info_mach (machL_one _ _ zero_sl) ?_;refine Pl.cutL (fun V=>Below w.heap.size w V/\Bx V w.heap.size (machL zeroM nilS)) ⟨Bl.puts HX1.out (Nat.le_refl _) _,zero_again HX2.out⟩ ?_;rintro V ⟨hV1,hV2⟩;have HV1:=hid hV1;have HV2:=hid hV2;clear hV1 hV2)
   have hl:=load_mach _ _ HV2.out.c
   refine bodyPost_ret (v:=.tuple #[.agg (machL zeroM nilS).toArray,.int .i64 2]) ?_ rfl ⟨rfl,HV1.out⟩
   simp only [results,Tryz.results22]
   simp
   show (Result.andThen (Sem.run Tryz.prog (loadVar 41 ⟨w.heap.size,0,none⟩) V) _)=_
   rw [hl]
   rfl
  ·refine wpAnyH_ready (rs:=[2]) (by kernel_rfl) (by simp) ?_
   refine consH_make (op:=⟨some 11,_,_,_,_,none⟩) rfl rfl 26 _ _ rfl (.int .i64 128) (.int .i64 128) _ rfl rfl (mk128 _ (w.heap.size+1+1+1) (by simp)) trivial ?_ AllReadyH.nil
   simp only [Act.put,xA,xB,xC]
   refine cutH (NF w l1 l2 ⟨.slice a1 l1.length c1,.slice a2 l2.length c2,.slice (some ⟨_,0,none⟩) 128 128,.slice (some ⟨_,0,none⟩) 64 64,.slice (some ⟨_,0,none⟩) 256 256⟩) (NF.of (b1:=w.heap.size+1+1+1) (b2:=w.heap.size+1+1) (b3:=w.heap.size+1) H1.out H2.out ?_ ?_ ?_ ?_ ?_) ?_
   ·repeat' (first | exact st0 _ | refine Below.drew ?_ | refine stA ?_ _)
   ·repeat' (first | exact HR.out | refine Bx.drew ?_ | refine Bx.over ?_ _)
   ·repeat' (first | exact Bx.new _ (List.replicate 128 (.int .u8 0)) _ (by simp) | refine Bx.drew ?_ | refine Bx.over ?_ _)
   ·repeat' (first | exact Bx.new _ (List.replicate 64 (.int .u8 0)) _ (by simp) | refine Bx.drew ?_ | refine Bx.over ?_ _)
   ·repeat' (first | exact Bx.new _ (List.replicate 256 (.int .u8 0)) _ (by simp) | refine Bx.drew ?_ | refine Bx.over ?_ _)
   intro Y hY
   have HY:=hid hY
   clear hY
   refine wpAnyH_take (i:=5) (oi:=⟨some 14,_,_,_,_,none⟩) (v:=.agg (machL (newM l1 l2) ⟨.slice a1 l1.length c1,.slice a2 l2.length c2,.slice (some ⟨w.heap.size+1+1+1,0,none⟩) 128 128,.slice (some ⟨w.heap.size+1+1,0,none⟩) 64 64,.slice (some ⟨w.heap.size+1,0,none⟩) 256 256⟩).toArray) rfl (by kernel_rfl) (by kernel_rfl) (by kernel_rfl) (fun _ _ _ h=>h) (Or.inl ⟨by rfl,fun w' _=>exec_build6 41 2 3 4 5 6 14 _ _ _ _ _ _ rfl _ _ _ _ _ _ _ rfl rfl rfl rfl rfl rfl (run_new a1 a2 l1.length c1 l2.length c2 (w.heap.size+1+1+1) (w.heap.size+1+1) (w.heap.size+1) l1 l2 w')⟩) trivial ?_
   simp only [Act.put,xA,xB,xC]
   refine wpAnyH_ready (rs:=[6]) (by kernel_rfl) (by simp) ?_
   refine AllReadyH.cons (o:=⟨some 15,_,_,_,_,none⟩) rfl (fun K hK=>?_) AllReadyH.nil
   go_simp
   go_at_call 45
   refine (Bu.open_bad (newM l1 l2) _ _ HY.out.sl.lens HZ.out (by rw [HCK.out];decide)).mono ?_
   rw [HCK.out]
   rintro e w1 ⟨rfl,hb1⟩
   have HLO:=hid (stp HY.out.low hb1)
   have HRE:=hid (HY.out.res.kept hb1)
   clear hb1
   try go_wp2_with fail
   refine hK.out _ _ trivial (fun _=>?_)
   clear hK K HY
   try simp only [Act.put,xA,xB,xC]
   refine wpAnyH_take (i:=7) (oi:=⟨some 8,_,_,_,_,none⟩) (v:=?_) rfl (by kernel_rfl) (by kernel_rfl) (by kernel_rfl) (fun _ _ _ h=>h) (Or.inl ⟨by rfl,?_⟩) trivial ?_
   rotate_left 1
   focus (intro w hSw;(try dsimp only at hSw);go_simp;try (with_reducible rfl))
   simp only [Act.put,xA,xB,xC]
   refine wpAnyH_take (i:=8) (oi:=⟨some 16,_,_,_,_,none⟩) (v:=?_) rfl (by kernel_rfl) (by kernel_rfl) (by kernel_rfl) (fun _ _ _ h=>h) (Or.inl ⟨by rfl,?_⟩) trivial ?_
   rotate_left 1
   focus (intro w hSw;(try dsimp only at hSw);go_simp;try (with_reducible rfl))
   simp only [Act.put,xA,xB,xC]
   refine wpAnyH_take (i:=9) (oi:=⟨some 17,_,_,_,_,none⟩) (v:=?_) rfl (by kernel_rfl) (by kernel_rfl) (by kernel_rfl) (fun _ _ _ h=>h) (Or.inl ⟨by rfl,?_⟩) trivial ?_
   rotate_left 1
   focus (intro w hSw;(try dsimp only at hSw);go_simp;try (with_reducible rfl))
   simp only [Act.put,xA,xB,xC]
   refine wpAnyH_take (i:=10) (oi:=⟨some 6,_,_,_,_,none⟩) (v:=?_) rfl (by kernel_rfl) (by kernel_rfl) (by kernel_rfl) (fun _ _ _ h=>h) (Or.inl ⟨by rfl,?_⟩) trivial ?_
   rotate_left 1
   focus (intro w hSw;(try dsimp only at hSw);go_simp;try (with_reducible rfl))
   simp only [Act.put,xA,xB,xC]
   refine wpAnyH_take (i:=11) (oi:=⟨some 7,_,_,_,_,none⟩) (v:=?_) rfl (by kernel_rfl) (by kernel_rfl) (by kernel_rfl) (fun _ _ _ h=>h) (Or.inl ⟨by rfl,?_⟩) trivial ?_
   rotate_left 1
   focus (intro w hSw;(try dsimp only at hSw);go_simp;try (with_reducible rfl))
   simp only [Act.put,xA,xB,xC]
   refine wpAnyH_done (by kernel_rfl) ?_ _
   refine Pl.cutE (fun X=>Below w.heap.size w X/\Bx X w.heap.size (machL zeroM nilS)) ⟨HLO.out,HRE.out⟩ ?_
   rintro X ⟨hX1,hX2⟩
   have HX1:=hid hX1
   have HX2:=hid hX2
   clear hX1 hX2 HLO HRE
   go_wp2_with (refine wpList_store_mid rfl 41 _ _ rfl w.heap.size 0 (machL zeroM nilS).toArray rfl rfl (HX2.out.there 0 75 (by rw [machL_len];omega)) info_mach (machL_one _ _ zero_sl) ?_;refine Pl.cutL (fun V=>Below w.heap.size w V/\Bx V w.heap.size (machL zeroM nilS)) ⟨Bl.puts HX1.out (Nat.le_refl _) _,zero_again HX2.out⟩ ?_;rintro V ⟨hV1,hV2⟩;have HV1:=hid hV1;have HV2:=hid hV2;clear hV1 hV2)
   have hl:=load_mach _ _ HV2.out.c
   refine bodyPost_ret (v:=.tuple #[.agg (machL zeroM nilS).toArray,.int .i64 2]) ?_ rfl ⟨rfl,HV1.out⟩
   simp only [results,Tryz.results22]
   simp
   show (Result.andThen (Sem.run Tryz.prog (loadVar 41 ⟨w.heap.size,0,none⟩) V) _)=_
   rw [hl]
   rfl
end Go.Proofs.YtbhpfkjfijdmaaaGreatDoor
