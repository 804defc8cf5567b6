/-
  Parts of a proof, joined.
-/
import Derived.Test.YtbhpfkjfijdmaaaGreatDoorZy15
import Derived.Test.YtbhpfkjfijdmaaaGreatDoorZy16
import Derived.Deep.RegionHeld3
import Derived.Test.YtbhpfkjfijdmaaaGreatDoorZy20
namespace Go.Proofs.YtbhpfkjfijdmaaaGreatDoor
open Go.ChangeShapes Go.WideShapes Go.ChangeAt Go.RowKit
set_option linter.unusedVariables false
set_option maxRecDepth 100000
set_option maxHeartbeats 3200000
section
variable {F : Fx} {W : World} {M M' : Mach} {tk : Tk}
theorem Vc.put_ok {v:Vc} (h:v.ok) (k:Nat) (b:Int) (hb:0<=b/\b<=255):(v.put k b).ok:=by
 obtain ⟨h1,h2,h3,h4⟩:=h
 unfold Vc.put
 split
 ·exact ⟨by show 0<=b * 256+v.p % 256/\b * 256+v.p % 256<=65535;omega,h2,h3,h4⟩
 ·split
  ·exact ⟨by show 0<=v.p / 256 * 256+b/\v.p / 256 * 256+b<=65535;omega,h2,h3,h4⟩
  ·split
   ·exact ⟨h1,h2,by show 0<=b % 16/\b % 16<=255;omega,h4⟩
   ·split
    ·exact ⟨h1,h2,h3,by show 0<=b * 256+v.n % 256/\b * 256+v.n % 256<=65535;omega⟩
    ·split
     ·exact ⟨h1,h2,h3,by show 0<=v.n / 256 * 256+b/\v.n / 256 * 256+b<=65535;omega⟩
     ·exact ⟨h1,h2,h3,h4⟩
theorem Sd.put_ok {s:Sd} (h:s.ok) (k:Nat) (b:Int) (hb:0<=b/\b<=255):(s.put k b).ok:=by
 unfold Sd.put
 split
 ·exact ⟨Vc.put_ok h.a _ _ hb,h.b,h.c⟩
 ·split
  ·exact ⟨h.a,Vc.put_ok h.b _ _ hb,h.c⟩
  ·exact ⟨h.a,h.b,Vc.put_ok h.c _ _ hb⟩
theorem Sd.put_w (s:Sd) (k:Nat) (b:Int):(s.put k b).w=s.w:=by
 unfold Sd.put
 split
 ·rfl
 ·split <;> rfl
theorem Bd.snd (h:Bd F W M tk):W.cell? ⟨F.g,45,none⟩=some (.int .u16 M.s.a.p)/\W.cell? ⟨F.g,46,none⟩=some (.int .u16 M.s.a.c)/\W.cell? ⟨F.g,47,none⟩=some (.int .u8 M.s.a.l)/\W.cell? ⟨F.g,48,none⟩=some (.bool M.s.a.h)/\W.cell? ⟨F.g,49,none⟩=some (.int .u16 M.s.a.n)/\W.cell? ⟨F.g,50,none⟩=some (.int .u16 M.s.b.p)/\W.cell? ⟨F.g,51,none⟩=some (.int .u16 M.s.b.c)/\W.cell? ⟨F.g,52,none⟩=some (.int .u8 M.s.b.l)/\W.cell? ⟨F.g,53,none⟩=some (.bool M.s.b.h)/\W.cell? ⟨F.g,54,none⟩=some (.int .u16 M.s.b.n)/\W.cell? ⟨F.g,55,none⟩=some (.int .u16 M.s.c.p)/\W.cell? ⟨F.g,56,none⟩=some (.int .u16 M.s.c.c)/\W.cell? ⟨F.g,57,none⟩=some (.int .u8 M.s.c.l)/\W.cell? ⟨F.g,58,none⟩=some (.bool M.s.c.h)/\W.cell? ⟨F.g,59,none⟩=some (.int .u16 M.s.c.n)/\W.cell? ⟨F.g,60,none⟩=some (.int .i64 M.s.w)/\(∀ o,W.frozen? ⟨F.g,o,none⟩=false)/\F.g < W.heap.size :=
 ⟨h.at 45 _ rfl,h.at 46 _ rfl,h.at 47 _ rfl,h.at 48 _ rfl,h.at 49 _ rfl,h.at 50 _ rfl,h.at 51 _ rfl,h.at 52 _ rfl,h.at 53 _ rfl,h.at 54 _ rfl,h.at 55 _ rfl,h.at 56 _ rfl,h.at 57 _ rfl,h.at 58 _ rfl,h.at 59 _ rfl,h.at 60 _ rfl,h.bx.f,h.bx.z⟩
theorem Bd.sndR (h:Bd F W M tk):W.rangeAt F.g 45 (sndL M.s):=fun i v hi=>by
 have hl:=(List.getElem?_eq_some_iff.1 hi).1
 obtain ⟨d0,d1,d2,d3,d4,d5,d6,d7,d8,d9,da,db,dc,dd,de,df,_,_⟩:=h.snd
 have hc:i=0 \/ i=1 \/ i=2 \/ i=3 \/ i=4 \/ i=5 \/ i=6 \/ i=7 \/ i=8 \/ i=9 \/ i=10 \/ i=11 \/ i=12 \/ i=13 \/ i=14 \/ i=15:=by simp [sndL] at hl;omega
 rcases hc with rfl | rfl | rfl | rfl | rfl | rfl | rfl | rfl | rfl | rfl | rfl | rfl | rfl | rfl | rfl | rfl <;> (cases hi;assumption)
theorem info_write:(Tryz.prog.info? 62).map (fun i=>(i.zero,i.size,i.bytes))=some (some (.agg #[.int .i64 0,.int .i64 0,.int .u8 0]),3,24):=by kernel_rfl
theorem Bd.off_new (h:Bd F W M tk):F.off W.heap.size :=
 ⟨fun ht=>h.fresh ht,fun e=>by have:=h.mr.lt _ e;omega,fun e=>by have:=h.ar.lt _ e;omega,fun x u hx e=>by have:=(h.env x u hx).1;omega⟩
theorem putW (F:Fx) (M:Mach) (tk:Tk) (l:List Wt) (v:Value):(F.cells M tk).set 76 v=F.cells M (tk.app l v):=rfl
theorem Bd.wrote (h:Bd F W M tk) {w3:World} {x:Wt} {gg cap:Nat} (hg:W.grownBy w3 tk.v.ownBlock) (hown:w3.ownsRow F.B 62 3 (.slice (some ⟨gg,0,none⟩) (tk.l.length+1) cap) (tk.l.length+1) (wcs tk.l++[.int .i64 x.c,.int .i64 x.a,.int .u8 x.v])) (hat:tk.v.ownBlock=some gg \/ gg=W.heap.size) :
 Bd F (w3.setCell ⟨F.g,76,none⟩ (.slice (some ⟨gg,0,none⟩) (tk.l.length+1) cap)) M (tk.app [x] (.slice (some ⟨gg,0,none⟩) (tk.l.length+1) cap))/\Bw F W (w3.setCell ⟨F.g,76,none⟩ (.slice (some ⟨gg,0,none⟩) (tk.l.length+1) cap)):=by
 have hoff:F.off gg:=by
  rcases hat with e | e
  ·exact h.wd gg e
  ·rw [e];exact h.off_new
 have hne:∀ j,j < W.heap.size->F.T j->w3.heap[j]? = W.heap[j]?:=fun j hj ht=>hg.block j hj (fun e=>(h.wd j e.symm).1 ht)
 have hz:W.heap.size<=w3.heap.size:=hg.size
 have hz2:W.heap.size<=(w3.setCell ⟨F.g,76,none⟩ (.slice (some ⟨gg,0,none⟩) (tk.l.length+1) cap)).heap.size:=by rw [size_set];exact hz
 obtain ⟨d1,d2,d3,_⟩:=h.nd.d
 have n1:=fun e=>h.nd.mr (Or.inl e)
 have n2:=fun e=>h.nd.ar (Or.inl e)
 have hb:Bd F (w3.setCell ⟨F.g,76,none⟩ (.slice (some ⟨gg,0,none⟩) (tk.l.length+1) cap)) M (tk.app [x] (.slice (some ⟨gg,0,none⟩) (tk.l.length+1) cap)):=by
  refine ⟨putW F M tk [x] _ ▸ (h.bx.same hz (hne _ h.bx.z (Or.inl rfl))).set 76 _ (by rw [F.len];omega),?_,?_,?_,?_,?_,fun y u hy=>?_,h.nd,h.fit,Nat.le_trans h.big hz2,?_,?_⟩
  ·refine (h.mr.same2 hz (fun j e hj=>hg.block j hj (fun e2=>(h.wd j e2.symm).2.1 e))).same (by rw [size_set];exact Nat.le_refl _) (fun _=>heap_set_far n1)
  ·refine (h.ar.same2 hz (fun j e hj=>hg.block j hj (fun e2=>(h.wd j e2.symm).2.2.1 e))).same (by rw [size_set];exact Nat.le_refl _) (fun _=>heap_set_far n2)
  ·exact (h.ra.same hz (fun hk=>hne _ hk (Or.inr (Or.inl rfl)))).same (by rw [size_set];exact Nat.le_refl _) (fun _=>heap_set_far (Ne.symm d1))
  ·exact (h.ow.same hz (fun hk=>hne _ hk (Or.inr (Or.inr (Or.inl rfl))))).same (by rw [size_set];exact Nat.le_refl _) (fun _=>heap_set_far (Ne.symm d2))
  ·exact (h.vi.same hz (fun hk=>hne _ hk (Or.inr (Or.inr (Or.inr rfl))))).same (by rw [size_set];exact Nat.le_refl _) (fun _=>heap_set_far (Ne.symm d3))
  ·obtain ⟨e1,e2⟩:=h.env y u hy
   have hn:y ≠ F.g:=fun e=>h.nd.env y u hy (Or.inl e)
   exact ⟨Nat.lt_of_lt_of_le e1 hz2,((World.cell?_of_block (w:=w3) (heap_set_far hn)).trans (World.cell?_of_block (w:=W) (hg.block y e1 (fun e=>(h.wd y e.symm).2.2.2 y u hy rfl)))).trans e2⟩
  ·refine ows_of (w:=w3) ?_ (fun j e=>heap_set_far (fun e2=>?_))
   ·show w3.ownsRow F.B 62 3 _ (tk.l++[x]).length (wcs (tk.l++[x]))
    rw [List.length_append,wcs_app]
    exact hown
   ·have ej:gg=j:=by cases e;rfl
    exact hoff.1 (by rw [ej,e2];exact Or.inl rfl)
  ·intro j e
   have ej:gg=j:=by cases e;rfl
   rw [<- ej];exact hoff
 refine ⟨hb,(Bw.grown h hg).trans (Bt.w (Bt.set h.nd (Bt.refl F w3) 76 _))⟩
theorem ws_form (h:Bd F W M tk):∃ ua uc,tk.v = .slice ua tk.l.length uc:=by
 rcases h.ws.2 with ⟨e,e2⟩ | ⟨g,cap,cur,e,_⟩
 ·exact ⟨none,0,by rw [e,e2]⟩
 ·exact ⟨_,_,e⟩
theorem Bu.sound_w (h:Bd F W M tk) (k:Nat) (hk:k < 24) (n:Int) (hn:0<=n/\n<=255) (hl:tk.l.length<=1000000000):Calls Tryz.prog 167 #[.int .u8 n,pt (F.E.sb k) 0,pt (F.E.sa k) 0] W fun e w'=>e = .returned (.tuple #[])/\EndA F W w' { M with s:=M.s.put k n } tk [⟨M.clock,k,n⟩]:=by
 have hg:=h.bx.z
 obtain ⟨y1,e1⟩:=h.env _ _ (.sb k hk)
 obtain ⟨y2,e2⟩:=h.env _ _ (.sa k hk)
 have hs:=h.fit.s
 have hn1:F.E.sb k ≠ F.g:=fun e=>h.nd.env _ _ (.sb k hk) (Or.inl e)
 have hn2:F.E.sa k ≠ F.g:=fun e=>h.nd.env _ _ (.sa k hk) (Or.inl e)
 have H:=hid h
 clear h
 go_enter Tryz.func167,Tryz.ntmps167
 go_upto_region 0 with fail
 go_cut [] (fun Y=>Bd F Y { M with s:=M.s.put k n } tk/\Bt F W Y)
 case first =>
  refine wp_region_held_drew (S:=fun w'=>w'.cell? ⟨F.E.sb k,0,none⟩=some (pt F.g 0)/\w'.cell? ⟨F.E.sa k,0,none⟩=some (.int .i64 k)) (by kernel_rfl) ⟨e1,e2⟩ ?_
  intro hS
  refine wpAnyH_take (i:=0) (oi:=⟨some 5,_,_,_,_,none⟩) (v:=?_) rfl (by kernel_rfl) (by kernel_rfl) (by kernel_rfl) (fun _ _ _ h=>h) (Or.inl ⟨by rfl,?_⟩) hS ?_
  rotate_left 1
  focus (intro w hSw;(try dsimp only at hSw);go_simp;try (with_reducible rfl))
  simp only [Act.put,xA,xB,xC]
  refine wpAnyH_take (i:=1) (oi:=⟨some 6,_,_,_,_,none⟩) (v:=?_) rfl (by kernel_rfl) (by kernel_rfl) (by kernel_rfl) (fun _ _ _ h=>h) (Or.inl ⟨by rfl,?_⟩) hS ?_
  rotate_left 1
  focus (intro w hSw;(try dsimp only at hSw);go_simp;try (with_reducible rfl))
  simp only [Act.put,xA,xB,xC]
  refine wpAnyH_take (i:=2) (oi:=⟨some 7,_,_,_,_,none⟩) (v:=?_) rfl (by kernel_rfl) (by kernel_rfl) (by kernel_rfl) (fun _ _ _ h=>h) (Or.inl ⟨by rfl,?_⟩) hS ?_
  rotate_left 1
  focus (intro w hSw;(try dsimp only at hSw);go_simp;try (with_reducible rfl))
  simp only [Act.put,xA,xB,xC]
  refine wpAnyH_take (i:=3) (oi:=⟨some 8,_,_,_,_,none⟩) (v:=?_) rfl (by kernel_rfl) (by kernel_rfl) (by kernel_rfl) (fun _ _ _ h=>h) (Or.inl ⟨by rfl,?_⟩) hS ?_
  rotate_left 1
  focus (intro w hSw;(try dsimp only at hSw);go_simp;try (with_reducible rfl))
  simp only [Act.put,xA,xB,xC]
  refine wpAnyH_take (i:=4) (oi:=⟨some 9,_,_,_,_,none⟩) (v:=?_) rfl (by kernel_rfl) (by kernel_rfl) (by kernel_rfl) (fun _ _ _ h=>h) (Or.inl ⟨by rfl,?_⟩) hS ?_
  rotate_left 1
  focus (intro w hSw;(try dsimp only at hSw);go_simp;try (with_reducible rfl))
  simp only [Act.put,xA,xB,xC]
  refine wpAnyH_take (i:=6) (oi:=⟨some 11,_,_,_,_,none⟩) (v:=?_) rfl (by kernel_rfl) (by kernel_rfl) (by kernel_rfl) (fun _ _ _ h=>h) (Or.inl ⟨by rfl,?_⟩) hS ?_
  rotate_left 1
  focus (intro w hSw;(try dsimp only at hSw);go_simp;try (with_reducible rfl))
  simp only [Act.put,xA,xB,xC]
  refine wpAnyH_take (i:=7) (oi:=⟨some 12,_,_,_,_,none⟩) (v:=?_) rfl (by kernel_rfl) (by kernel_rfl) (by kernel_rfl) (fun _ _ _ h=>h) (Or.inl ⟨by rfl,?_⟩) hS ?_
  rotate_left 1
  focus (intro w hSw;(try dsimp only at hSw);go_simp;try (with_reducible rfl))
  simp only [Act.put,xA,xB,xC]
  refine wpAnyH_ready (rs:=[5]) (by kernel_rfl) (by simp) ?_
  refine AllReadyH.cons (o:=⟨some 10,_,_,_,_,none⟩) rfl (fun K hK=>?_) AllReadyH.nil
  refine step_load_mid rfl 36 _ rfl F.g 45 rfl (sndL M.s) _ H.out.drew.sndR Tryz.underlying36 rfl info_sound ?_
  refine hK.out _ _ hS (fun _=>?_)
  clear hK K
  simp only [Act.put,xA,xB,xC]
  refine wpAnyH_ready (rs:=[8]) (by kernel_rfl) (by simp) ?_
  refine AllReadyH.cons (o:=⟨some 13,_,_,_,_,none⟩) rfl (fun K hK=>?_) AllReadyH.nil
  unfold sndL
  go_simp
  go_at_call 168
  refine (put_any M.s k n _ hk hs hn).mono ?_
  rintro e w1 ⟨rfl,hb1⟩
  try go_wp2_with fail
  have HB1:=hid (H.out.drew.kept hb1)
  refine hK.out _ _ ⟨(HB1.out.env _ _ (.sb k hk)).2,(HB1.out.env _ _ (.sa k hk)).2⟩ (fun hS'=>?_)
  clear hK K hS
  have hS:=hS'
  clear hS'
  try simp only [Act.put,xA,xB,xC]
  refine wpAnyH_take (i:=9) (oi:=⟨some 4,_,_,_,_,none⟩) (v:=?_) rfl (by kernel_rfl) (by kernel_rfl) (by kernel_rfl) (fun _ _ _ h=>h) (Or.inl ⟨by rfl,?_⟩) hS ?_
  rotate_left 1
  focus (intro w hSw;(try dsimp only at hSw);go_simp;try (with_reducible rfl))
  simp only [Act.put,xA,xB,xC]
  refine wpAnyH_take (i:=10) (oi:=⟨some 14,_,_,_,_,none⟩) (v:=?_) rfl (by kernel_rfl) (by kernel_rfl) (by kernel_rfl) (fun _ _ _ h=>h) (Or.inl ⟨by rfl,?_⟩) hS ?_
  rotate_left 1
  focus (intro w hSw;(try dsimp only at hSw);go_simp;try (with_reducible rfl))
  simp only [Act.put,xA,xB,xC]
  refine wpAnyH_take (i:=11) (oi:=⟨some 15,_,_,_,_,none⟩) (v:=?_) rfl (by kernel_rfl) (by kernel_rfl) (by kernel_rfl) (fun _ _ _ h=>h) (Or.inl ⟨by rfl,?_⟩) hS ?_
  rotate_left 1
  focus (intro w hSw;(try dsimp only at hSw);go_simp;try (with_reducible rfl))
  simp only [Act.put,xA,xB,xC]
  refine wpAnyH_take (i:=12) (oi:=⟨some 16,_,_,_,_,none⟩) (v:=?_) rfl (by kernel_rfl) (by kernel_rfl) (by kernel_rfl) (fun _ _ _ h=>h) (Or.inl ⟨by rfl,?_⟩) hS ?_
  rotate_left 1
  focus (intro w hSw;(try dsimp only at hSw);go_simp;try (with_reducible rfl))
  simp only [Act.put,xA,xB,xC]
  refine wpAnyH_take (i:=13) (oi:=⟨some 17,_,_,_,_,none⟩) (v:=?_) rfl (by kernel_rfl) (by kernel_rfl) (by kernel_rfl) (fun _ _ _ h=>h) (Or.inl ⟨by rfl,?_⟩) hS ?_
  rotate_left 1
  focus (intro w hSw;(try dsimp only at hSw);go_simp;try (with_reducible rfl))
  simp only [Act.put,xA,xB,xC]
  refine wpAnyH_take (i:=14) (oi:=⟨some 18,_,_,_,_,none⟩) (v:=?_) rfl (by kernel_rfl) (by kernel_rfl) (by kernel_rfl) (fun _ _ _ h=>h) (Or.inl ⟨by rfl,?_⟩) hS ?_
  rotate_left 1
  focus (intro w hSw;(try dsimp only at hSw);go_simp;try (with_reducible rfl))
  simp only [Act.put,xA,xB,xC]
  refine wpAnyH_ready (rs:=[15]) (by kernel_rfl) (by simp) ?_
  refine AllReadyH.cons (o:=⟨none,_,_,_,_,none⟩) rfl (fun K hK=>?_) AllReadyH.nil
  refine step_store_mid rfl 36 _ _ rfl F.g 45 (sndL (M.s.put k n)).toArray rfl rfl (Bx.there HB1.out.bx 45 16 (by rw [Fx.len];omega)) info_sound (all16 (M.s.put k n)) ?_
  refine hK.out _ _ ⟨(World.cell?_of_block (heap_sets_far hn1 _ _ _)).trans hS.1,(World.cell?_of_block (heap_sets_far hn2 _ _ _)).trans hS.2⟩ (fun _=>?_)
  clear hK K
  refine wpAnyH_done (by kernel_rfl) ?_ _
  have hf:Mach.fit { M with s:=M.s.put k n }:=Mach.fit.of H.out.fit { H.out.fit with main:=H.out.fit.main,s:=Sd.put_ok H.out.fit.s k n hn } ⟨rfl,rfl,rfl,rfl,rfl⟩ (Sd.put_w _ _ _) ⟨rfl,rfl,rfl⟩ ⟨rfl,rfl⟩ (Or.inl rfl)
  have hp:=HB1.out.puts (M':={ M with s:=M.s.put k n }) (tk':=tk) 45 (sndL (M.s.put k n)) (by simp [sndL]) (F.putSnd M tk _) ⟨rfl,rfl,rfl,rfl,rfl⟩ hf
  have ht:=Bt.sets H.out.nd (sndL (M.s.put k n)) 45 _ (Bt.below H.out (stp (st0 W).drew hb1))
  go_simp
  rename_i hM _ _
  refine hM _ _ ?_
  go_meet
  exact ⟨hp,ht⟩
 case rest =>
 obtain ⟨hY1,hY2⟩:=hcut
 have HY1:=hid hY1
 have HY2:=hid hY2
 have z1:=(HY1.out.env _ _ (.sb k hk)).1
 have q1:=(HY1.out.env _ _ (.sb k hk)).2
 have z2:=(HY1.out.env _ _ (.sa k hk)).1
 have q2:=(HY1.out.env _ _ (.sa k hk)).2
 have zg:=HY1.out.bx.z
 obtain ⟨ua,uc,hv⟩:=ws_form HY1.out
 have q3:wc.cell? ⟨F.g,76,none⟩=some (.slice ua tk.l.length uc):=(HY1.out.at 76 tk.v rfl).trans (by rw [hv])
 have q4:wc.cell? ⟨F.g,72,none⟩=some (.int .i64 M.clock):=HY1.out.at 72 _ rfl
 have HV:=hid hv
 have HLN:=hid hl
 have HA:=hid ((HY1.out.over (.cells #[.int .i64 M.clock,.int .i64 k,.int .u8 n] 62)).drew)
 have HU:Hid (((wc.alloc (.cells #[.int .i64 M.clock,.int .i64 k,.int .u8 n] 62)).drew).ownsRow F.B 62 3 (.slice ua tk.l.length uc) tk.l.length (wcs tk.l)):=hv ▸ HA.out.ws
 have HN:Hid (∀ j u,([.int .i64 M.clock,.int .i64 k,.int .u8 n]:List Value)[j]? = some u->((wc.alloc (.cells #[.int .i64 M.clock,.int .i64 k,.int .u8 n] 62)).drew).cell? ((⟨wc.heap.size,0,none⟩:Addr).add j)=some u):=World.news_of_block (cs:=#[.int .i64 M.clock,.int .i64 k,.int .u8 n]) (t:=62) (fr:=(0,0)) (heap_alloc_new wc _)
 have HO:Hid (∀ u ∈ ([.int .i64 M.clock,.int .i64 k,.int .u8 n]:List Value),u.oneCell'=true):=by intro u hu;simp at hu;rcases hu with rfl | rfl | rfl <;> rfl
 have HZ:Hid (F.B<=((wc.alloc (.cells #[.int .i64 M.clock,.int .i64 k,.int .u8 n] 62)).drew).heap.size):=HA.out.big
 have H63:Hid (tk.l.length+1<=maxLen):=by show _<=_;unfold maxLen;omega
 have HBY:Hid ((tk.l.length+1) * 24<=140737488355328):=by show _<=_;omega
 have HGF:Hid (∀ w3,((wc.alloc (.cells #[.int .i64 M.clock,.int .i64 k,.int .u8 n] 62)).drew).grownBy w3 (Value.slice ua tk.l.length uc).ownBlock->w3.frozen? ⟨F.g,76,none⟩=false/\F.g < w3.heap.size/\w3.cell? ⟨F.g,76,none⟩=some (.slice ua tk.l.length uc)):=fun w3 hg3=>by
  have hx:=HA.out.bx.same hg3.size (hg3.block F.g HA.out.bx.z (fun e=>(HA.out.wd F.g (by rw [hv];exact e.symm)).1 (Or.inl rfl)))
  exact ⟨hx.f 76,hx.z,(hx.at 76 tk.v rfl).trans (by rw [hv])⟩
 have HK:Hid (∀ (gg cp:Nat) (w3:World),w3.ownsRow F.B 62 3 (.slice (some ⟨gg,0,none⟩) (tk.l.length+1) cp) (tk.l.length+1) (wcs tk.l++[.int .i64 M.clock,.int .i64 k,.int .u8 n])->((wc.alloc (.cells #[.int .i64 M.clock,.int .i64 k,.int .u8 n] 62)).drew).grownBy w3 (Value.slice ua tk.l.length uc).ownBlock->((Value.slice ua tk.l.length uc).ownBlock=some gg \/ gg=wc.heap.size+1) ->
  EndA F W (w3.setCell ⟨F.g,76,none⟩ (.slice (some ⟨gg,0,none⟩) (tk.l.length+1) cp)) { M with s:=M.s.put k n } tk [⟨M.clock,k,n⟩]):=fun gg cp w3 hown hg3 hat=>by
  rw [<- hv] at hg3 hat
  obtain ⟨x1,x2⟩:=HA.out.wrote (x:=⟨M.clock,k,n⟩) hg3 hown (hat.imp id (fun e=>by rw [e];show _=(wc.alloc _).heap.size;simp))
  exact ⟨⟨_,x1⟩,(HY2.out.w.trans (Bw.of_below HY1.out.big ((stA (st0 wc) _).drew))).trans x2⟩
 obtain ⟨i1,hj0,hy0,hy1,hy2⟩:=info_parts info_write
 have HSZ:Hid (((wc.alloc (.cells #[.int .i64 M.clock,.int .i64 k,.int .u8 n] 62)).drew).heap.size=wc.heap.size+1):=by show _=_;simp
 have HS2:Hid (((wc.alloc (.cells #[.int .i64 M.clock,.int .i64 k,.int .u8 n] 62)).drew).cell? ⟨F.E.sb k,0,none⟩=some (pt F.g 0)/\((wc.alloc (.cells #[.int .i64 M.clock,.int .i64 k,.int .u8 n] 62)).drew).cell? ⟨F.E.sa k,0,none⟩=some (.int .i64 k)/\((wc.alloc (.cells #[.int .i64 M.clock,.int .i64 k,.int .u8 n] 62)).drew).cell? ⟨F.g,72,none⟩=some (.int .i64 M.clock)):=⟨(HA.out.env _ _ (.sb k hk)).2,(HA.out.env _ _ (.sa k hk)).2,HA.out.at 72 _ rfl⟩
 have HQ5:Hid (((wc.alloc (.cells #[.int .i64 M.clock,.int .i64 k,.int .u8 n] 62)).drew).cell? ⟨F.g,76,none⟩=some (.slice ua tk.l.length uc)/\F.g < ((wc.alloc (.cells #[.int .i64 M.clock,.int .i64 k,.int .u8 n] 62)).drew).heap.size):=⟨(HA.out.at 76 tk.v rfl).trans (by rw [hv]),HA.out.bx.z⟩
 have HS3:Hid (∀ w3:World,((wc.alloc (.cells #[.int .i64 M.clock,.int .i64 k,.int .u8 n] 62)).drew).grownBy w3 (Value.slice ua tk.l.length uc).ownBlock->w3.cell? ⟨F.E.sb k,0,none⟩=some (pt F.g 0)/\w3.cell? ⟨F.E.sa k,0,none⟩=some (.int .i64 k)/\w3.cell? ⟨F.g,72,none⟩=some (.int .i64 M.clock)):=fun w3 hg3=>by
  have hfar:∀ x,x < ((wc.alloc (.cells #[.int .i64 M.clock,.int .i64 k,.int .u8 n] 62)).drew).heap.size->(∀ e:tk.v.ownBlock=some x,False)->w3.heap[x]? = ((wc.alloc (.cells #[.int .i64 M.clock,.int .i64 k,.int .u8 n] 62)).drew).heap[x]?:=fun x hx hne=>hg3.block x hx (fun e=>hne (by rw [hv];exact e.symm))
  obtain ⟨a1,a2⟩:=HA.out.env _ _ (.sb k hk)
  obtain ⟨b1,b2⟩:=HA.out.env _ _ (.sa k hk)
  exact ⟨(World.cell?_of_block (hfar _ a1 (fun e=>(HA.out.wd _ e).2.2.2 _ _ (.sb k hk) rfl))).trans a2,(World.cell?_of_block (hfar _ b1 (fun e=>(HA.out.wd _ e).2.2.2 _ _ (.sa k hk) rfl))).trans b2,(World.cell?_of_block (hfar _ HA.out.bx.z (fun e=>(HA.out.wd _ e).1 (Or.inl rfl)))).trans (HA.out.at 72 _ rfl)⟩
 have HS4:Hid (∀ (w3:World) (v:Value),(w3.cell? ⟨F.E.sb k,0,none⟩=some (pt F.g 0)/\w3.cell? ⟨F.E.sa k,0,none⟩=some (.int .i64 k)/\w3.cell? ⟨F.g,72,none⟩=some (.int .i64 M.clock))->(w3.setCell ⟨F.g,76,none⟩ v).cell? ⟨F.E.sb k,0,none⟩=some (pt F.g 0)/\(w3.setCell ⟨F.g,76,none⟩ v).cell? ⟨F.E.sa k,0,none⟩=some (.int .i64 k)/\(w3.setCell ⟨F.g,76,none⟩ v).cell? ⟨F.g,72,none⟩=some (.int .i64 M.clock)):=fun w3 v h=>⟨(World.cell?_of_block (heap_set_far hn1)).trans h.1,(World.cell?_of_block (heap_set_far hn2)).trans h.2.1,(World.cell?_setCell_other _ _ _ _ (by simp)).trans h.2.2⟩
 clear hY1 hY2 hv hl
 go_wp2
 refine wp_region_held_drew (S:=fun w'=>w'.cell? ⟨F.E.sb k,0,none⟩=some (pt F.g 0)/\w'.cell? ⟨F.E.sa k,0,none⟩=some (.int .i64 k)/\w'.cell? ⟨F.g,72,none⟩=some (.int .i64 M.clock)) (by kernel_rfl) ⟨q1,q2,q4⟩ ?_
 intro hS
 refine wpAnyH_take (i:=0) (oi:=⟨some 19,_,_,_,_,none⟩) (v:=?_) rfl (by kernel_rfl) (by kernel_rfl) (by kernel_rfl) (fun _ _ _ h=>h) (Or.inl ⟨by rfl,?_⟩) hS ?_
 rotate_left 1
 focus (intro w hSw;(try dsimp only at hSw);go_simp;try (with_reducible rfl))
 simp only [Act.put,xA,xB,xC]
 refine wpAnyH_take (i:=1) (oi:=⟨some 20,_,_,_,_,none⟩) (v:=?_) rfl (by kernel_rfl) (by kernel_rfl) (by kernel_rfl) (fun _ _ _ h=>h) (Or.inl ⟨by rfl,?_⟩) hS ?_
 rotate_left 1
 focus (intro w hSw;(try dsimp only at hSw);go_simp;try (with_reducible rfl))
 simp only [Act.put,xA,xB,xC]
 refine wpAnyH_take (i:=2) (oi:=⟨some 21,_,_,_,_,none⟩) (v:=?_) rfl (by kernel_rfl) (by kernel_rfl) (by kernel_rfl) (fun _ _ _ h=>h) (Or.inl ⟨by rfl,?_⟩) hS ?_
 rotate_left 1
 focus (intro w hSw;(try dsimp only at hSw);go_simp;try (with_reducible rfl))
 simp only [Act.put,xA,xB,xC]
 refine wpAnyH_take (i:=3) (oi:=⟨some 22,_,_,_,_,none⟩) (v:=?_) rfl (by kernel_rfl) (by kernel_rfl) (by kernel_rfl) (fun _ _ _ h=>h) (Or.inl ⟨by rfl,?_⟩) hS ?_
 rotate_left 1
 focus (intro w hSw;(try dsimp only at hSw);go_simp;try (with_reducible rfl))
 simp only [Act.put,xA,xB,xC]
 refine wpAnyH_take (i:=5) (oi:=⟨some 24,_,_,_,_,none⟩) (v:=?_) rfl (by kernel_rfl) (by kernel_rfl) (by kernel_rfl) (fun _ _ _ h=>h) (Or.inl ⟨by rfl,?_⟩) hS ?_
 rotate_left 1
 focus (intro w hSw;(try dsimp only at hSw);go_simp;try (with_reducible rfl))
 simp only [Act.put,xA,xB,xC]
 refine wpAnyH_take (i:=6) (oi:=⟨some 25,_,_,_,_,none⟩) (v:=?_) rfl (by kernel_rfl) (by kernel_rfl) (by kernel_rfl) (fun _ _ _ h=>h) (Or.inl ⟨by rfl,?_⟩) hS ?_
 rotate_left 1
 focus (intro w hSw;(try dsimp only at hSw);go_simp;try (with_reducible rfl))
 simp only [Act.put,xA,xB,xC]
 refine wpAnyH_take (i:=7) (oi:=⟨some 26,_,_,_,_,none⟩) (v:=?_) rfl (by kernel_rfl) (by kernel_rfl) (by kernel_rfl) (fun _ _ _ h=>h) (Or.inl ⟨by rfl,?_⟩) hS ?_
 rotate_left 1
 focus (intro w hSw;(try dsimp only at hSw);go_simp;try (with_reducible rfl))
 simp only [Act.put,xA,xB,xC]
 refine wpAnyH_take (i:=8) (oi:=⟨some 27,_,_,_,_,none⟩) (v:=?_) rfl (by kernel_rfl) (by kernel_rfl) (by kernel_rfl) (fun _ _ _ h=>h) (Or.inl ⟨by rfl,?_⟩) hS ?_
 rotate_left 1
 focus (intro w hSw;(try dsimp only at hSw);go_simp;try (with_reducible rfl))
 simp only [Act.put,xA,xB,xC]
 refine wpAnyH_take (i:=9) (oi:=⟨some 28,_,_,_,_,none⟩) (v:=?_) rfl (by kernel_rfl) (by kernel_rfl) (by kernel_rfl) (fun _ _ _ h=>h) (Or.inl ⟨by rfl,?_⟩) hS ?_
 rotate_left 1
 focus (intro w hSw;(try dsimp only at hSw);go_simp;try (with_reducible rfl))
 simp only [Act.put,xA,xB,xC]
 refine wpAnyH_take (i:=10) (oi:=⟨some 29,_,_,_,_,none⟩) (v:=?_) rfl (by kernel_rfl) (by kernel_rfl) (by kernel_rfl) (fun _ _ _ h=>h) (Or.inl ⟨by rfl,?_⟩) hS ?_
 rotate_left 1
 focus (intro w hSw;(try dsimp only at hSw);go_simp;try (with_reducible rfl))
 simp only [Act.put,xA,xB,xC]
 refine wpAnyH_take (i:=11) (oi:=⟨some 30,_,_,_,_,none⟩) (v:=?_) rfl (by kernel_rfl) (by kernel_rfl) (by kernel_rfl) (fun _ _ _ h=>h) (Or.inl ⟨by rfl,?_⟩) hS ?_
 rotate_left 1
 focus (intro w hSw;(try dsimp only at hSw);go_simp;try (with_reducible rfl))
 simp only [Act.put,xA,xB,xC]
 refine wpAnyH_take (i:=12) (oi:=⟨some 31,_,_,_,_,none⟩) (v:=?_) rfl (by kernel_rfl) (by kernel_rfl) (by kernel_rfl) (fun _ _ _ h=>h) (Or.inl ⟨by rfl,?_⟩) hS ?_
 rotate_left 1
 focus (intro w hSw;(try dsimp only at hSw);go_simp;try (with_reducible rfl))
 simp only [Act.put,xA,xB,xC]
 refine wpAnyH_ready (rs:=[4,13]) (by kernel_rfl) (by simp) ?_
 refine AllReadyH.cons (o:=⟨some 23,_,_,_,_,none⟩) rfl (fun K hK=>?_) (AllReadyH.cons (o:=⟨some 32,_,_,_,_,none⟩) rfl (fun K hK=>?_) AllReadyH.nil)
 ·go_simp
  refine hK.out _ _ hS (fun _=>?_)
  clear hK K
  try simp only [Act.put,xA,xB,xC]
  refine wpAnyH_ready (rs:=[13]) (by kernel_rfl) (by simp) ?_
  refine AllReadyH.cons (o:=⟨some 32,_,_,_,_,none⟩) rfl (fun K hK=>?_) AllReadyH.nil
  go_simp
  refine hK.out _ _ HS2.out (fun _=>?_)
  clear hK K
  try simp only [Act.put,xA,xB,xC]
  refine wpAnyH_ready (rs:=[14]) (by kernel_rfl) (by simp) ?_
  refine AllReadyH.cons (o:=⟨some 33,_,_,_,_,none⟩) rfl (fun K hK=>?_) AllReadyH.nil
  refine step_append_lies _ (by rfl) (.tmp 23) (.tmp 32) 48 (by rfl) F.B 62 i1 _ 3 24 Tryz.underlying48 hj0 hy0 hy1 hy2 rfl (by omega) (.slice ua tk.l.length uc) tk.l.length (wcs tk.l) rfl HU.out ⟨wc.heap.size,0,none⟩ 1 1 [.int .i64 M.clock,.int .i64 k,.int .u8 n] rfl rfl HN.out HO.out (by omega) H63.out HBY.out HZ.out (wc.heap.size+1) HSZ.out ?_
  intro gg cp w3 hown3 hgrow hat hlt3
  have hS3:=HS3.out w3 hgrow
  refine hK.out _ _ hS3 (fun _=>?_)
  clear hK K
  simp only [Act.put,xA,xB,xC]
  refine wpAnyH_take (i:=15) (oi:=⟨some 34,_,_,_,_,none⟩) (v:=?_) rfl (by kernel_rfl) (by kernel_rfl) (by kernel_rfl) (fun _ _ _ h=>h) (Or.inl ⟨by rfl,?_⟩) hS3 ?_
  rotate_left 1
  focus (intro w hSw;(try dsimp only at hSw);go_simp;try (with_reducible rfl))
  simp only [Act.put,xA,xB,xC]
  refine wpAnyH_take (i:=16) (oi:=⟨some 35,_,_,_,_,none⟩) (v:=?_) rfl (by kernel_rfl) (by kernel_rfl) (by kernel_rfl) (fun _ _ _ h=>h) (Or.inl ⟨by rfl,?_⟩) hS3 ?_
  rotate_left 1
  focus (intro w hSw;(try dsimp only at hSw);go_simp;try (with_reducible rfl))
  simp only [Act.put,xA,xB,xC]
  refine wpAnyH_ready (rs:=[17]) (by kernel_rfl) (by simp) ?_
  refine AllReadyH.cons (o:=⟨none,_,_,_,_,none⟩) rfl (fun K hK=>?_) AllReadyH.nil
  obtain ⟨f3,z3,d3⟩:=HGF.out w3 hgrow
  go_simp
  refine hK.out _ _ (HS4.out w3 _ hS3) (fun _=>?_)
  clear hK K
  refine wpAnyH_done (by kernel_rfl) ?_ _
  go_simp
  go_wp2
  go_end0
  exact ⟨rfl,HK.out gg cp w3 hown3 hgrow hat⟩
 ·go_simp
  refine hK.out _ _ HS2.out (fun _=>?_)
  clear hK K
  try simp only [Act.put,xA,xB,xC]
  refine wpAnyH_ready (rs:=[4]) (by kernel_rfl) (by simp) ?_
  refine AllReadyH.cons (o:=⟨some 23,_,_,_,_,none⟩) rfl (fun K hK=>?_) AllReadyH.nil
  have q5:=HQ5.out
  go_simp
  refine hK.out _ _ HS2.out (fun _=>?_)
  clear hK K q5
  try simp only [Act.put,xA,xB,xC]
  refine wpAnyH_ready (rs:=[14]) (by kernel_rfl) (by simp) ?_
  refine AllReadyH.cons (o:=⟨some 33,_,_,_,_,none⟩) rfl (fun K hK=>?_) AllReadyH.nil
  refine step_append_lies _ (by rfl) (.tmp 23) (.tmp 32) 48 (by rfl) F.B 62 i1 _ 3 24 Tryz.underlying48 hj0 hy0 hy1 hy2 rfl (by omega) (.slice ua tk.l.length uc) tk.l.length (wcs tk.l) rfl HU.out ⟨wc.heap.size,0,none⟩ 1 1 [.int .i64 M.clock,.int .i64 k,.int .u8 n] rfl rfl HN.out HO.out (by omega) H63.out HBY.out HZ.out (wc.heap.size+1) HSZ.out ?_
  intro gg cp w3 hown3 hgrow hat hlt3
  have hS3:=HS3.out w3 hgrow
  refine hK.out _ _ hS3 (fun _=>?_)
  clear hK K
  simp only [Act.put,xA,xB,xC]
  refine wpAnyH_take (i:=15) (oi:=⟨some 34,_,_,_,_,none⟩) (v:=?_) rfl (by kernel_rfl) (by kernel_rfl) (by kernel_rfl) (fun _ _ _ h=>h) (Or.inl ⟨by rfl,?_⟩) hS3 ?_
  rotate_left 1
  focus (intro w hSw;(try dsimp only at hSw);go_simp;try (with_reducible rfl))
  simp only [Act.put,xA,xB,xC]
  refine wpAnyH_take (i:=16) (oi:=⟨some 35,_,_,_,_,none⟩) (v:=?_) rfl (by kernel_rfl) (by kernel_rfl) (by kernel_rfl) (fun _ _ _ h=>h) (Or.inl ⟨by rfl,?_⟩) hS3 ?_
  rotate_left 1
  focus (intro w hSw;(try dsimp only at hSw);go_simp;try (with_reducible rfl))
  simp only [Act.put,xA,xB,xC]
  refine wpAnyH_ready (rs:=[17]) (by kernel_rfl) (by simp) ?_
  refine AllReadyH.cons (o:=⟨none,_,_,_,_,none⟩) rfl (fun K hK=>?_) AllReadyH.nil
  obtain ⟨f3,z3,d3⟩:=HGF.out w3 hgrow
  go_simp
  refine hK.out _ _ (HS4.out w3 _ hS3) (fun _=>?_)
  clear hK K
  refine wpAnyH_done (by kernel_rfl) ?_ _
  go_simp
  go_wp2
  go_end0
  exact ⟨rfl,HK.out gg cp w3 hown3 hgrow hat⟩
end
section
variable {F : Fx} {W : World} {M M' : Mach} {tk : Tk}
theorem two_0 (a b c d e f:Value) (w:World):(Instr.index 29 (.agg #[a,b,c,d,e,f]) (.int .i64 0)).run Tryz.prog w = .ok (.agg #[a,b,c]) w:=by kernel_rfl
theorem two_1 (a b c d e f:Value) (w:World):(Instr.index 29 (.agg #[a,b,c,d,e,f]) (.int .i64 1)).run Tryz.prog w = .ok (.agg #[d,e,f]) w:=by kernel_rfl
theorem Bd.padC (h:Bd F W M tk):W.cell? ⟨F.g,35,none⟩=some (.int .u8 M.p0.d)/\W.cell? ⟨F.g,36,none⟩=some (.bool M.p0.l)/\W.cell? ⟨F.g,37,none⟩=some (.int .u8 M.p0.s)/\W.cell? ⟨F.g,38,none⟩=some (.int .u8 M.p1.d)/\W.cell? ⟨F.g,39,none⟩=some (.bool M.p1.l)/\W.cell? ⟨F.g,40,none⟩=some (.int .u8 M.p1.s)/\(∀ o,W.frozen? ⟨F.g,o,none⟩=false)/\F.g < W.heap.size :=
 ⟨h.at 35 _ rfl,h.at 36 _ rfl,h.at 37 _ rfl,h.at 38 _ rfl,h.at 39 _ rfl,h.at 40 _ rfl,h.bx.f,h.bx.z⟩
theorem Bu.pads_w (h:Bd F W M tk) (n:Int) (hn:0<=n/\n<=255):Calls Tryz.prog 115 #[pt F.g 0,.int .u8 n] W fun e w'=>e = .returned (.tuple #[])/\Bd F w' (M.putM 0 n) tk/\Bt F W w':=by
 have i0:=two_0 (.int .u8 M.p0.d) (.bool M.p0.l) (.int .u8 M.p0.s) (.int .u8 M.p1.d) (.bool M.p1.l) (.int .u8 M.p1.s)
 have i1:=two_1 (.int .u8 M.p0.d) (.bool M.p0.l) (.int .u8 M.p0.s) (.int .u8 M.p1.d) (.bool M.p1.l) (.int .u8 M.p1.s)
 have H:=hid h
 obtain ⟨c0,c1,c2,c3,c4,c5,ff,hg⟩:=h.padC
 clear h
 go_enter Tryz.func115,Tryz.ntmps115
 go_wp2
 go_loopw [11] (fun i wr=>Bt F W wr/\((i = .int .i64 0/\Bd F wr M tk) \/ (i = .int .i64 1/\Bd F wr { M with p0:=M.p0.wr n } tk) \/ (i = .int .i64 2/\Bd F wr (M.putM 0 n) tk))) (fun i _=>2 - (intOf i).toNat)
 case atStart=>exact ⟨Bt.refl _ _,Or.inl ⟨rfl,H.out⟩⟩
 case round =>
  obtain ⟨hT,hrel⟩:=hrel
  have HT:=hid hT
  clear hT c0 c1 c2 c3 c4 c5 ff hg
  rcases hrel with ⟨rfl,hB⟩ | ⟨rfl,hB⟩ | ⟨rfl,hB⟩
  ·obtain ⟨c0,c1,c2,c3,c4,c5,ff,hg⟩:=hB.padC
   have HB:=hid hB
   clear hB
   go_wp2
   go_region_with (go_at_call 162;refine (write_any _ _ n _ _ hn).mono ?_;rintro e w1 ⟨rfl,hb1⟩;obtain ⟨x0,x1,x2,x3,x4,x5,xf,xg⟩:=((HB.out.over _).drew.kept hb1).padC)
   all_goals go_wp2
   all_goals
    refine ⟨⟨?_,Or.inr (Or.inl ⟨rfl,?_⟩)⟩,by decide⟩
    ·exact Bt.sets HB.out.nd [.int .u8 M.p0.d,.bool (odd n),.int .u8 (sel (odd n) M.p0.d M.p0.s)] 35 _ (Mv.trans HT.out (Bt.below HB.out (stp (stA (st0 _) _).drew hb1)))
    ·exact ((HB.out.over _).drew.kept hb1).puts (M':={ M with p0:=M.p0.wr n }) (tk':=tk) 35 [.int .u8 M.p0.d,.bool (odd n),.int .u8 (sel (odd n) M.p0.d M.p0.s)] (by simp) rfl ⟨rfl,rfl,rfl,rfl,rfl⟩ { HB.out.fit with main:=HB.out.fit.main,p0:=Pd.wr_ok HB.out.fit.p0 n }
  ·obtain ⟨c0,c1,c2,c3,c4,c5,ff,hg⟩:=hB.padC
   have HB:=hid hB
   clear hB
   go_wp2
   go_region_with (go_at_call 162;refine (write_any _ _ n _ _ hn).mono ?_;rintro e w1 ⟨rfl,hb1⟩;obtain ⟨x0,x1,x2,x3,x4,x5,xf,xg⟩:=((HB.out.over _).drew.kept hb1).padC)
   all_goals go_wp2
   all_goals
    refine ⟨⟨?_,Or.inr (Or.inr ⟨rfl,?_⟩)⟩,by decide⟩
    ·exact Bt.sets HB.out.nd [.int .u8 M.p1.d,.bool (odd n),.int .u8 (sel (odd n) M.p1.d M.p1.s)] 38 _ (Mv.trans HT.out (Bt.below HB.out (stp (stA (st0 _) _).drew hb1)))
    ·exact ((HB.out.over _).drew.kept hb1).puts (M':=M.putM 0 n) (tk':=tk) 38 [.int .u8 M.p1.d,.bool (odd n),.int .u8 (sel (odd n) M.p1.d M.p1.s)] (by simp) rfl ⟨rfl,rfl,rfl,rfl,rfl⟩ (show Mach.fit { M with p0:=M.p0.wr n,p1:=M.p1.wr n } from { HB.out.fit with main:=HB.out.fit.main,p1:=Pd.wr_ok HB.out.fit.p1 n })
  ·have HB:=hid hB
   clear hB
   go_wp2
   go_end0
   exact ⟨rfl,HB.out,HT.out⟩
end
end Go.Proofs.YtbhpfkjfijdmaaaGreatDoor
