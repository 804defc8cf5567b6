/-
  Parts of a proof, joined.
-/
import Derived.Test.YtbhpfkjfijdmaaaGreatDoorZy38
import Derived.Test.YtbhpfkjfijdmaaaGreatDoorZy28
import Derived.Test.YtbhpfkjfijdmaaaGreatDoorZy34
namespace Go.Proofs.YtbhpfkjfijdmaaaGreatDoor
open Go.ChangeShapes Go.WideShapes Go.ChangeAt Go.RowKit
set_option linter.unusedVariables false
set_option maxRecDepth 100000
set_option maxHeartbeats 6400000
def FEnd (M:Mach) (l:List Inp) (n:Int) (b:Mach->Bool) (f:Mach->List Dd) (X:Mach) (t:Bool) (er:Int) (acc:List Dd):Prop :=
 (er ≠ 0/\X=zeroM/\t=false/\(er=fErr M l n \/ 19000 < M.b.f)) \/
 (er=0/\fErr M l n=0/\M.fit/\InR M l /\ ∃ (js:List Nat) (j:Nat),Way M l n.toNat js j/\X=M.aft l j/\(∀ i ∈ js,b (M.aft l i)=false) /\
   ((t=false/\j=n.toNat/\acc=(js.map (fun i=>f (M.aft l i))).flatten) \/ (t=true/\j < n.toNat/\b X=true/\acc=(js.map (fun i=>f (M.aft l i))).flatten++f X)))
def clkAt (b:Nat) (w:World):Nat:=match w.cell? ⟨b,72,none⟩ with
 | some (.int _ c)=>c.toNat
 | _=>0
theorem clk_bx {b:Nat} {Y:World} {X:Mach} {SX:Sl} (h:Bx Y b (machL X SX)):clkAt b Y=X.clock.toNat:=by
 unfold clkAt
 rw [h.at 72 (.int .i64 X.clock) rfl]
theorem flat_len {f:Mach->List Dd} (hf:∀ X,(f X).length<=2) (K:Nat->Mach):∀ js:List Nat,((js.map (fun i=>f (K i))).flatten).length<=2 * js.length
 | []=>by simp
 | j :: js=>by
  have:=flat_len hf K js
  have:=hf (K j)
  simp only [List.map_cons,List.flatten_cons,List.length_append,List.length_cons]
  omega
theorem Wc.long {M X:Mach} {l:List Inp} {N j dd:Nat} (hf:M.fit) (hR:InR M l) (hN:N<=500) (hc:0<=M.clock/\M.clock+N<=200000) (hj:j < N) (hX:X=M.aft l j) (hfx:X.fit) (hd:dd=wnx M l N j - j) (h:runErr X (comes X.clock l) dd ≠ 0):19000 < M.b.f:=by
 refine Int.not_le.1 (fun h19=>h ?_)
 have hb:=wnx_bd hR hj
 have hk:=aft_clock hR j
 have h2:=(hR.aft j).ck
 rw [<- hX] at hk
 rw [<- hX,<- hk] at h2
 have hfr:X.b.f<=20000:=by rw [hX];exact aft_frame hf h19 (by omega)
 exact run_err0 (fit_chk hfx hfr) h2 ⟨by omega,by omega,by rw [hk];omega⟩
inductive FPost (M : Mach) (l : List Inp) (n : Int) (q : Nat) (J : List Dd -> Option Nat -> World -> Prop) (b : Mach -> Bool) (f : Mach -> List Dd) (w : World) (e : Ending) (w' : World) : Prop
 | mk (X:Mach) (SX:Sl) (t:Bool) (er:Int) (acc:List Dd) (g:Option Nat) (h:e = .returned (.tuple #[.agg (machL X SX).toArray,.bool t,.int .i64 er])) (h2:FEnd M l n b f X t er acc) (h3:J acc g w') (h4:SlAt w' SX X) (h5:Lw q none w w') (h6:SlNew w.heap.size SX)
theorem Wc.follow (M:Mach) (S:Sl) (v:Value) (l:List Inp) (n:Int) (fn:Nat) (cv:Value) (q:Nat) (J:List Dd->Option Nat->World->Prop) (b:Mach->Bool) (f:Mach->List Dd) (w0 w:World)
 (hcf:∀ (a:Array Value) (w:World),(callFunc fn a).run Tryz.prog w = .ok (.enter fn a) w)
 (hlook:∀ acc g X SX Y,J acc g Y->Below w0.heap.size w0 Y->SlAt Y SX X->X.fit->acc.length<=1000->Calls Tryz.prog fn #[.agg (machL X SX).toArray,cv] Y fun e w'=>e = .returned (.bool (b X)) /\ ∃ g',J (acc++f X) g' w'/\(g'=g \/ ∃ k,g'=some k/\Y.heap.size<=k)/\Lw q g Y w')
 (hf2:∀ X,(f X).length<=2) (hJ:Jw q J) (hq:w0.heap.size<=q/\q < w.heap.size) (hj0:J [] none w) (hlow:Below w0.heap.size w0 w)
 (hs:SlAt w0 S M) (hz:∀ j,j < 5->(M.byt j).length<=9223372036854775807) (hok:M.ok) (hsh:shapesAt w0) (hin:InpAt w0.heap.size w0 v l) (hdn:∀ x ∈ l,0<=x.d/\x.d<=255) (hn:-9223372036854775808<=n/\n<=9223372036854775807) :
 Calls Tryz.prog 38 #[.agg (machL M S).toArray,v,.int .i64 n,.func (.func fn) #[] #[cv]] w (FPost M l n q J b f w):=by
 obtain ⟨n1,n2⟩:=hn
 have hW1:Below w.heap.size w ((w.alloc (.cells (machL M S).toArray 41)).alloc (.cells (machL zeroM nilS).toArray 41)):=stA (stA (st0 w) _) _
 have hB0:=stp hlow hW1
 have HL1:=hid (Lw.of (q:=q) (g:=none) hW1)
 have HB4:=hid ((Bx.new w (machL M S) 41 (b:=w.heap.size) rfl).over (.cells (machL zeroM nilS).toArray 41))
 have HB8:=hid (Bx.new (w.alloc (.cells (machL M S).toArray 41)) (machL zeroM nilS) 41 (b:=w.heap.size+1) (by simp))
 have HJ1:=hid (hJ.same _ _ _ _ hj0 hW1.size (hW1.block _ hq.2) (fun k e=>by cases e))
 have hR0:=Lk.run_all M S v l 0 _ (hs.kept hB0) hz hok (shapes_same hsh (hB0.block _ (shapes_lt hsh))) ((hin.kept hB0).mono hB0.size) hdn (by omega)
 rw [show ((0:Nat):Int)=0 from rfl] at hR0
 obtain ⟨r,hre⟩:∃ r,r=runErr M l 0:=⟨_,rfl⟩
 rw [<- hre] at hR0
 have HR0:=hid hR0
 have HRE:=hid hre
 have HLK:=hid hlook
 have HF2:=hid hf2
 have HJ:=hid hJ
 have HQ:=hid hq
 have HLW:=hid hlow
 have HSH:=hid hsh
 have HIN:=hid hin
 have HDN:=hid hdn
 have HZ0:Hid (w0.heap.size<=w.heap.size):=hid hlow.size
 have HOK:=hid hok
 clear hR0 hre hlook hf2 hJ hq hlow hsh hin hdn hok hs hz hj0 hB0 hW1
 go_enter Tryz.func38,Tryz.ntmps38
 go_upto_region 2 with (first
  | (refine wpList_load_mid rfl 41 _ rfl w.heap.size 0 rfl (machL M S) _ HB4.out.c Tryz.underlying41 rfl info_mach ?_)
  | (go_at_call 10;refine HR0.out.mono ?_;rintro e w5 ⟨X,SX,a1,a2,a3,m1,m2,m3,c1,c2,c3,rfl,hs5,hn5,hb5,hx5⟩
     have hb6:Below w5.heap.size w5 (w5.alloc (.cells #[.slice none 0 0,.slice none 0 0,.slice none 0 0] 50)):=stA (st0 w5) _
     have HB45:=hid ((HB4.out.kept hb5).kept hb6)
     have HB85:=hid ((HB8.out.kept hb5).kept hb6)
     have HJ5:=hid (HJ.out.same _ _ _ _ HJ1.out (Nat.le_trans hb5.size hb6.size) ((hb6.block _ (Nat.lt_of_lt_of_le (HJ.out.q _ _ _ HJ1.out) hb5.size)).trans (hb5.block _ (HJ.out.q _ _ _ HJ1.out))) (fun k e=>by cases e))
     have HL5:=hid ((HL1.out.trans (Lw.of (g:=none) hb5) (fun k e=>by cases e)).trans (Lw.of (g:=none) hb6) (fun k e=>by cases e))
     have HS5:=hid hs5
     have HS6:=hid (hs5.kept hb6)
     have HN5:Hid (SlNew (w.heap.size+2) SX):=hid (hn5.mono (by simp))
     have HX5:=hid hx5
     have HZ5:Hid (w.heap.size+2<=w5.heap.size):=hid (by have:=hb5.size;simp at this;omega)
     have HS3:=hid (Bx.new w5 nil3 50 (b:=w5.heap.size) rfl)
     clear hs5 hn5 hb5 hx5 hb6)
  | (refine wpList_store_mid rfl 41 _ _ rfl w.heap.size 0 (machL X SX).toArray rfl rfl (HB45.out.there 0 75 (by rw [machL_len];omega)) info_mach (machL_one _ _ (isSl_of HS5.out)) ?_
     refine Pl.cutL (fun Y=>FI q w J X SX [] none Y/\Bx Y w5.heap.size nil3) ⟨FI.of HJ.out HQ.out.2 HL5.out HB45.out (machL_len _ _) HB85.out HJ5.out (fun k e=>by cases e) HS6.out HN5.out (fun j hj a m c e _ e'=>by cases e'),DW.bb HS3.out (by have:=HZ5.out;omega)⟩ ?_
     rintro Y1 ⟨hY1,hY1s⟩
     have HY1:=hid hY1
     have HY1s:=hid hY1s
     clear hY1 hY1s)
  | (refine wpList_store_mid rfl 50 _ _ rfl w5.heap.size 0 #[.slice a1 m1 c1,.slice a2 m2 c2,.slice a3 m3 c3] rfl rfl (HY1s.out.there 0 3 (by simp)) info_shown (one3 _ _ _ _ _ _ _ _ _) ?_
     refine Pl.cutL (FI q w J X SX [] none) (HY1.out.far HJ.out HQ.out.2 HZ5.out (fun j hj a m c e hm=>Nat.ne_of_lt (HS5.out.lt j hj a m c e hm)) (by simp) _) ?_
     intro Y2 hY2
     have HY2:=hid hY2
     clear hY2))
 clear HB4 HB8 HB45 HB85 HJ1 HJ5 HL1 HL5 HS3 HS5 HS6 HY1 HY1s HZ5 HN5 HR0
 by_cases hr:r=0
 case neg =>
  have HR:=hid hr
  go_wp2_with (refine wpList_store_mid rfl 41 _ _ rfl (w.heap.size+1) 0 (machL zeroM nilS).toArray rfl rfl (HY2.out.rb.there 0 75 (by rw [machL_len];omega)) info_mach (machL_one _ _ nilS_isSl) ?_
               refine Pl.cutL (FR q w J zeroM nilS _ _) (FI.ret HJ.out HQ.out.2 HY2.out (nil_slAt _) (nil_new _)) ?_
               intro V hV
               have HV:=hid hV
               clear hV)
  refine bodyPost_ret (v:=.tuple #[.agg (machL zeroM nilS).toArray,.bool false,.int .i64 r]) ?_ rfl ⟨zeroM,nilS,false,r,_,_,rfl,Or.inl ⟨HR.out,rfl,rfl,Or.inl (by unfold fErr;rw [<- HRE.out,if_neg HR.out])⟩,HV.out.jj,HV.out.sl,HV.out.low,HV.out.nw.mono (by omega)⟩
  have l1:=run_loadVar_mid V (w.heap.size+1) 0 41 _ _ HV.out.rb.c Tryz.underlying41 rfl info_mach
  simp only [results,Tryz.results38]
  simp
  show (Result.andThen (Sem.run Tryz.prog (loadVar 41 ⟨w.heap.size+1,0,none⟩) V) _)=_
  rw [l1]
  rfl
 case pos =>
  subst hr
  have hr0:=HRE.out.symm
  have h1:M.chk=0:=by
   unfold runErr at hr0
   split at hr0
   ·assumption
   ·exact hr0
  have h2:chkIn l M.clock=0:=by
   unfold runErr at hr0
   rw [if_pos h1] at hr0
   split at hr0
   ·assumption
   ·exact hr0
  have hX:=(HX5.out rfl).1
  have hXM:X=M:=hX
  subst hXM
  have hfit:=(HX5.out rfl).2
  have HR:=hid (InR.of h2 HDN.out)
  have HFIT:=hid hfit
  have hcl:=hfit.clock
  obtain ⟨cl0,cl1⟩:=hcl
  have x72:=HY2.out.bx.at 72 (.int .i64 X.clock) rfl
  have xz:=HY2.out.bx.z
  clear hX hr0 h1 h2 hfit
  by_cases hg:0<=n/\n<=500/\X.clock+n<=200000
  case neg =>
   have HG:Hid (fErr X l n=3):=hid (by unfold fErr;rw [<- HRE.out,if_pos rfl,if_neg hg])
   have hc:n < 0 \/ (¬ n < 0/\500 < n) \/ (¬ n < 0 /\ ¬ 500 < n/\200000 < X.clock+n/\IntKind.i64.wrap (X.clock+n)=X.clock+n):=by
    rw [IntKind.wrap_i64];omega
   clear hg
   rcases hc with g1 | ⟨g1,g2⟩ | ⟨g1,g2,g3,g4⟩
   all_goals
    go_wp2_with (refine wpList_store_mid rfl 41 _ _ rfl (w.heap.size+1) 0 (machL zeroM nilS).toArray rfl rfl (HY2.out.rb.there 0 75 (by rw [machL_len];omega)) info_mach (machL_one _ _ nilS_isSl) ?_
                 refine Pl.cutL (FR q w J zeroM nilS _ _) (FI.ret HJ.out HQ.out.2 HY2.out (nil_slAt _) (nil_new _)) ?_
                 intro V hV
                 have HV:=hid hV
                 clear hV)
    refine bodyPost_ret (v:=.tuple #[.agg (machL zeroM nilS).toArray,.bool false,.int .i64 3]) ?_ rfl ⟨zeroM,nilS,false,3,_,_,rfl,Or.inl ⟨by decide,rfl,rfl,Or.inl HG.out.symm⟩,HV.out.jj,HV.out.sl,HV.out.low,HV.out.nw.mono (by omega)⟩
    have l1:=run_loadVar_mid V (w.heap.size+1) 0 41 _ _ HV.out.rb.c Tryz.underlying41 rfl info_mach
    simp only [results,Tryz.results38]
    simp
    show (Result.andThen (Sem.run Tryz.prog (loadVar 41 ⟨w.heap.size+1,0,none⟩) V) _)=_
    rw [l1]
    rfl
  case pos =>
   obtain ⟨g0,g1,g2⟩:=hg
   have HG:Hid (fErr X l n=0):=hid (by unfold fErr;rw [<- HRE.out,if_pos rfl,if_pos ⟨g0,g1,g2⟩])
   obtain ⟨N,rfl⟩:=Int.eq_ofNat_of_zero_le g0
   obtain ⟨M,hM⟩:∃ M,M=X:=⟨_,rfl⟩
   subst hM
   have k1:¬ (N:Int) < 0:=by omega
   have k2:¬ 500 < (N:Int):=by omega
   have k3:¬ 200000 < M.clock+(N:Int):=by omega
   have k4:IntKind.i64.wrap (M.clock+(N:Int))=M.clock+N:=by rw [IntKind.wrap_i64];omega
   have HN5:Hid (N<=500):=hid (by omega)
   have HCL:Hid (0<=M.clock/\M.clock+N<=200000):=hid ⟨cl0,g2⟩
   have HTN:Hid (((N:Int)).toNat=N):=hid (by simp)
   clear g0 g1 g2
   go_wp2
   clear x72 xz k1 k2 k3 k4
   go_loopw [12] (fun v12 wr=>∃ (j:Nat) (js:List Nat) (X:Mach) (SX:Sl) (g:Option Nat),v12 = .int .i64 0/\Way M l N js j/\(∀ i ∈ js,b (M.aft l i)=false)/\X=M.aft l j/\X.fit/\FI q w J X SX ((js.map (fun i=>f (M.aft l i))).flatten) g wr) (fun _ wr=>M.clock.toNat+N - clkAt w.heap.size wr)
   case atStart=>exact ⟨0,[],M,SX,none,rfl,Way.nil,fun i hi=>by simp at hi,rfl,HFIT.out,HY2.out⟩
   case round =>
    clear HY2 HX5
    obtain ⟨j,js,X,TX,g,rfl,hWy,hbs,hX,hfx,hI⟩:=hrel
    have hXc:X.clock=M.clock+j:=by rw [hX];exact aft_clock HR.out j
    have hle:=hWy.le HR.out
    have x72:=hI.bx.at 72 (.int .i64 X.clock) rfl
    have xz:=hI.bx.z
    have HI0:=hid hI
    have HWY:=hid hWy
    have HBS:=hid hbs
    have HX:=hid hX
    have HFX:=hid hfx
    have HXE:=hid hXc
    have HLE:=hid hle
    clear hWy hbs hX hfx hI
    by_cases hlt:j < N
    ·have hd1:X.clock < M.clock+(N:Int):=by omega
     have hlk:=HLK.out ((js.map (fun i=>f (M.aft l i))).flatten) g X TX wr HI0.out.jj (HI0.out.low.below0 HLW.out HQ.out.1) HI0.out.sl HFX.out (by have:=flat_len HF2.out (M.aft l) js;have:=HN5.out;omega)
     obtain ⟨bb,hbb⟩:∃ bb,bb=b X:=⟨_,rfl⟩
     rw [<- hbb] at hlk
     have HLX:=hid hlk
     have HBB:=hid hbb
     have HXC:Hid (0<=X.clock/\X.clock<=200000):=hid (by have:=HCL.out;have:=HXE.out;omega)
     have HLT:=hid hlt
     have HIB:=hid HI0.out.bx
     clear hlk hbb hlt hle hXc
     cases bb
     ·obtain ⟨dd,hdd⟩:∃ dd,dd=wnx M l N j - j:=⟨_,rfl⟩
      have hwi:min X.next (M.clock+(N:Int)) - X.clock=(dd:Int):=by rw [HXE.out,HX.out,hdd];exact wnx_int HR.out HLT.out
      have hdb:=wnx_bd HR.out HLT.out
      have hdf:IntKind.i64.wrap (min X.next (M.clock+(N:Int)) - X.clock)=(dd:Int):=by rw [hwi,IntKind.wrap_i64];have:=HN5.out;omega
      have hrun:∀ (v1:Value) (Y:World),Below w0.heap.size w0 Y->SlAt Y TX X->InpAt w0.heap.size Y v1 (comes X.clock l)->Calls Tryz.prog 10 #[.agg (machL X TX).toArray,v1,.int .i64 dd] Y fun e w'=>∃ (X':Mach) (S':Sl) (a1 a2 a3:Option Addr) (n1 n2 n3 c1 c2 c3:Nat),e = .returned (.tuple #[.agg (machL X' S').toArray,.agg #[.slice a1 n1 c1,.slice a2 n2 c2,.slice a3 n3 c3],.int .i64 (runErr X (comes X.clock l) dd)])/\SlAt w' S' X'/\SlNew Y.heap.size S'/\Below Y.heap.size Y w'/\(runErr X (comes X.clock l) dd=0->X'=X.aft (comes X.clock l) dd/\X'.fit):=fun v1 Y hb hs hi=>by
       have hI:InR X (comes X.clock l):=by have:=HR.out.aft j;rw [<- HX.out,<- HXE.out] at this;exact this
       exact Lk.run_all X TX v1 (comes X.clock l) dd Y hs (fun k hk=>Nat.le_trans (fit_lens HFX.out k hk) (by decide)) { HFX.out with main:=HFX.out.main } (shapes_same HSH.out (hb.block _ (shapes_lt HSH.out))) (hi.mono hb.size) hI.dn (by have:=HN5.out;omega)
      obtain ⟨r2,hr2⟩:∃ r2,r2=runErr X (comes X.clock l) dd:=⟨_,rfl⟩
      rw [<- hr2] at hrun
      have HRUN:=hid hrun
      have HR2:=hid hr2
      have HDD:=hid hdd
      have HDB:=hid hdb
      have HWI:=hid hwi
      clear hrun hr2 hdd hdb hwi
      go_wp2_with (first
       | (refine wpList_load_mid rfl 41 _ rfl w.heap.size 0 rfl (machL X TX) _ HI0.out.bx.c Tryz.underlying41 rfl info_mach ?_)
       | (refine HLX.out.mono ?_;rintro e wl ⟨rfl,g2,hj2,hg2,hl2⟩;have HI:=hid (HI0.out.look HQ.out.2 hl2 hj2 hg2);clear hj2 hg2 hl2))
      refine wp_region_G (S:=fun w'=>Bx w' w.heap.size (machL X TX)) (st:=12) (by kernel_rfl) ?_
      have hS:=HI.out.bx.drew
      refine wpAnyG_pure (i:=1) (oi:=⟨some 53,_,_,_,_,none⟩) (v:=?_) rfl (by kernel_rfl) (by kernel_rfl) (by kernel_rfl) (by decide) (fun _ _ _ h=>h) (Or.inl ⟨by rfl,?_⟩) (fun _=>hS) ?_
      rotate_left 1
      focus (intro w hSw;go_simp;try (with_reducible rfl))
      simp only [Act.put,xA,xB,xC]
      refine wpAnyG_pure (i:=2) (oi:=⟨some 54,_,_,_,_,none⟩) (v:=?_) rfl (by kernel_rfl) (by kernel_rfl) (by kernel_rfl) (by decide) (fun _ _ _ h=>h) (Or.inl ⟨by rfl,?_⟩) (fun _=>hS) ?_
      rotate_left 1
      focus (intro w hSw;go_simp;try (with_reducible rfl))
      simp only [Act.put,xA,xB,xC]
      refine wpAnyG_pure (i:=7) (oi:=⟨some 59,_,_,_,_,none⟩) (v:=?_) rfl (by kernel_rfl) (by kernel_rfl) (by kernel_rfl) (by decide) (fun _ _ _ h=>h) (Or.inl ⟨by rfl,?_⟩) (fun _=>hS) ?_
      rotate_left 1
      focus (intro w hSw;go_simp;try (with_reducible rfl))
      simp only [Act.put,xA,xB,xC]
      refine wpAnyG_pure (i:=9) (oi:=⟨some 61,_,_,_,_,none⟩) (v:=?_) rfl (by kernel_rfl) (by kernel_rfl) (by kernel_rfl) (by decide) (fun _ _ _ h=>h) (Or.inl ⟨by rfl,?_⟩) (fun _=>hS) ?_
      rotate_left 1
      focus (intro w hSw;go_simp;try (with_reducible rfl))
      simp only [Act.put,xA,xB,xC]
      refine wpAnyG_take (i:=0) (oi:=⟨some 52,_,_,_,_,none⟩) (v:=.agg (machL X TX).toArray) rfl (by kernel_rfl) (by kernel_rfl) (by kernel_rfl) (by kernel_rfl) (by decide) (by kernel_rfl) (fun _ _ _ h=>h) (Or.inl ⟨by rfl,fun w' hSw=>exec_load_mid 41 _ rfl w.heap.size 0 rfl (machL X TX) _ hSw.c Tryz.underlying41 rfl info_mach⟩) hS ?_
      simp only [Act.put,xA,xB,xC]
      refine wpAnyG_take2 6 (i:=5) (oi:=⟨some 57,_,_,_,_,none⟩) (v:=.agg (machL X TX).toArray) rfl (by kernel_rfl) (by kernel_rfl) (by kernel_rfl) (by kernel_rfl) (by kernel_rfl) (by decide) (by decide) (by kernel_rfl) (by kernel_rfl) (fun _ _ _ h=>h) (Or.inl ⟨by rfl,fun w' hSw=>exec_load_mid 41 _ rfl w.heap.size 0 rfl (machL X TX) _ hSw.c Tryz.underlying41 rfl info_mach⟩) hS ?_
      simp only [Act.put,xA,xB,xC]
      refine wpAnyG_take2 4 (i:=3) (oi:=⟨some 55,_,_,_,_,none⟩) (v:=.int .i64 X.clock) rfl (by kernel_rfl) (by kernel_rfl) (by kernel_rfl) (by kernel_rfl) (by kernel_rfl) (by decide) (by decide) (by kernel_rfl) (by kernel_rfl) (fun _ _ _ h=>h) (Or.inl ⟨by rfl,?_⟩) hS ?_
      ·intro w' hSw
       have hcc:=hSw.at 72 (.int .i64 X.clock) rfl
       have hcz:=World.block_lt_of_cell? w' _ hcc
       go_simp
       try (with_reducible rfl)
      simp only [Act.put,xA,xB,xC]
      refine wpAnyG_take2 11 (i:=10) (oi:=⟨some 62,_,_,_,_,none⟩) (v:=.int .i64 X.clock) rfl (by kernel_rfl) (by kernel_rfl) (by kernel_rfl) (by kernel_rfl) (by kernel_rfl) (by decide) (by decide) (by kernel_rfl) (by kernel_rfl) (fun _ _ _ h=>h) (Or.inl ⟨by rfl,?_⟩) hS ?_
      ·intro w' hSw
       have hcc:=hSw.at 72 (.int .i64 X.clock) rfl
       have hcz:=World.block_lt_of_cell? w' _ hcc
       go_simp
       try (with_reducible rfl)
      simp only [Act.put,xA,xB,xC]
      refine wpAnyG_one (i:=4) (o:=⟨some 56,_,_,_,_,none⟩) (by kernel_rfl) rfl (fun K hK=>?_)
      go_simp
      go_at_call 63
      refine (Wc.coming l v w0.heap.size X.clock _ (HIN.out.kept (HI.out.low.below0 HLW.out HQ.out.1).drew)).mono ?_
      rintro e w1 ⟨⟨v1,rfl,hin1⟩,rfl⟩
      have HI1:=hid (HI.out.kept HJ.out (st0 wl).drew)
      have HN1:=hid hin1
      clear hin1
      try go_wp2_with fail
      refine hK.out _ _ (fun _=>HI1.out.bx) ?_
      clear hK K
      try simp only [Act.put,xA,xB,xC]
      clear hS
      have hS:=HI1.out.bx
      refine wpAnyG_one (i:=6) (o:=⟨some 58,_,_,_,_,none⟩) (by kernel_rfl) rfl (fun K hK=>?_)
      go_simp
      go_at_call 64
      refine (Wc.next X TX HXC.out _).mono ?_
      rintro e w2 ⟨rfl,hb2⟩
      have HI2:=hid (HI1.out.kept HJ.out hb2)
      have HB2:=hid hb2
      clear hb2
      try go_wp2_with fail
      refine hK.out _ _ (fun _=>HI2.out.bx) ?_
      clear hK K
      try simp only [Act.put,xA,xB,xC]
      clear hS
      have hS:=HI2.out.bx
      refine wpAnyG_pure (i:=8) (oi:=⟨some 60,_,_,_,_,none⟩) (v:=?_) rfl (by kernel_rfl) (by kernel_rfl) (by kernel_rfl) (by decide) (fun _ _ _ h=>h) (Or.inl ⟨by rfl,?_⟩) (fun _=>hS) ?_
      rotate_left 1
      focus (intro w hSw;go_simp;try (with_reducible rfl))
      simp only [Act.put,xA,xB,xC]
      refine wpAnyG_pure (i:=11) (oi:=⟨some 63,_,_,_,_,none⟩) (v:=?_) rfl (by kernel_rfl) (by kernel_rfl) (by kernel_rfl) (by decide) (fun _ _ _ h=>h) (Or.inl ⟨by rfl,?_⟩) (fun _=>hS) ?_
      rotate_left 1
      focus (intro w hSw;go_simp;try (with_reducible rfl))
      simp only [Act.put,xA,xB,xC]
      refine wpAnyG_one (i:=12) (o:=⟨some 64,_,_,_,_,none⟩) (by kernel_rfl) rfl (fun K hK=>?_)
      go_simp
      go_at_call 10
      refine (HRUN.out v1 w2 (HI2.out.low.below0 HLW.out HQ.out.1) HI2.out.sl (HN1.out.kept (HB2.out.mono (Nat.le_trans HZ0.out HI1.out.low.size)))).mono ?_
      rintro e w3 ⟨X',S',a1,a2,a3,n1,n2,n3,c1,c2,c3,rfl,hs3,hn3,hb3,hx3⟩
      have HI3:=hid (HI2.out.kept HJ.out hb3)
      have HS3:=hid hs3
      have HN3:Hid (SlNew (w.heap.size+2) S'):=hid (hn3.mono HI2.out.rb.z)
      have HO3:Hid (SlOff g2 S'):=hid (fun j hj a m c e _ e'=>by have:=HJ.out.g _ _ _ HI2.out.jj _ e';have:=hn3 j hj a m c e;omega)
      have HX3:=hid hx3
      clear hs3 hn3 hb3 hx3
      try go_wp2_with fail
      refine hK.out _ _ (fun h=>by simp at h) ?_
      clear hK K
      try simp only [Act.put,xA,xB,xC]
      clear hS
      refine wpAnyG_pure (i:=13) (oi:=⟨some 51,_,_,_,_,none⟩) (v:=?_) rfl (by kernel_rfl) (by kernel_rfl) (by kernel_rfl) (by decide) (fun _ _ _ h=>h) (Or.inl ⟨by rfl,?_⟩) (fun h=>by simp at h) ?_
      rotate_left 1
      focus (intro w hSw;go_simp;try (with_reducible rfl))
      simp only [Act.put,xA,xB,xC]
      refine wpAnyG_pure (i:=14) (oi:=⟨some 65,_,_,_,_,none⟩) (v:=?_) rfl (by kernel_rfl) (by kernel_rfl) (by kernel_rfl) (by decide) (fun _ _ _ h=>h) (Or.inl ⟨by rfl,?_⟩) (fun h=>by simp at h) ?_
      rotate_left 1
      focus (intro w hSw;go_simp;try (with_reducible rfl))
      simp only [Act.put,xA,xB,xC]
      refine wpAnyG_pure (i:=15) (oi:=⟨some 66,_,_,_,_,none⟩) (v:=?_) rfl (by kernel_rfl) (by kernel_rfl) (by kernel_rfl) (by decide) (fun _ _ _ h=>h) (Or.inl ⟨by rfl,?_⟩) (fun h=>by simp at h) ?_
      rotate_left 1
      focus (intro w hSw;go_simp;try (with_reducible rfl))
      simp only [Act.put,xA,xB,xC]
      refine wpAnyG_pure (i:=16) (oi:=⟨some 67,_,_,_,_,none⟩) (v:=?_) rfl (by kernel_rfl) (by kernel_rfl) (by kernel_rfl) (by decide) (fun _ _ _ h=>h) (Or.inl ⟨by rfl,?_⟩) (fun h=>by simp at h) ?_
      rotate_left 1
      focus (intro w hSw;go_simp;try (with_reducible rfl))
      simp only [Act.put,xA,xB,xC]
      refine wpAnyG_one (i:=17) (o:=⟨none,_,_,_,_,none⟩) (by kernel_rfl) rfl (fun K hK=>?_)
      refine step_store_mid rfl 41 _ _ rfl w.heap.size 0 (machL X' S').toArray rfl rfl (HI3.out.bx.there 0 75 (by rw [machL_len];omega)) info_mach (machL_one _ _ (isSl_of HS3.out)) ?_
      refine hK.out _ _ (fun h=>by simp at h) ?_
      clear hK K
      refine wpAnyG_pure (i:=18) (oi:=⟨some 12,_,_,_,_,none⟩) (v:=?_) rfl (by kernel_rfl) (by kernel_rfl) (by kernel_rfl) (by decide) (fun _ _ _ h=>h) (Or.inl ⟨by rfl,?_⟩) (fun h=>by simp at h) ?_
      rotate_left 1
      focus (intro w hSw;go_simp;try (with_reducible rfl))
      simp only [Act.put,xA,xB,xC]
      refine wpAnyG_done (by kernel_rfl) ?_ _
      refine Pl.cutE (FI q w J X' S' ((js.map (fun i=>f (M.aft l i))).flatten++f X) g2) (HI3.out.put HJ.out HQ.out.2 HS3.out HN3.out HO3.out) ?_
      intro V3 hV3
      have HV3:=hid hV3
      clear hV3 HI HI1 HI2 HI3 HI0 HB2 HN1 HLX hdf
      by_cases hr3:r2=0
      ·subst hr3
       go_wp2
       refine ⟨⟨wnx M l N j,js++[j],X',S',g2,rfl,Way.cons HWY.out HLT.out,?_,?_,(HX3.out rfl).2,?_⟩,?_⟩
       ·intro i hi
        rcases List.mem_append.1 hi with hi | hi
        ·exact HBS.out i hi
        ·rw [List.mem_singleton.1 hi,<- HX.out];exact HBB.out.symm
       ·rw [(HX3.out rfl).1,HX.out,aft_clock HR.out j,<- aft_add HR.out,HDD.out]
        congr 1
        have:=HDB.out
        omega
       ·rw [List.map_append,List.flatten_append]
        simp only [List.map_cons,List.map_nil,List.flatten_cons,List.flatten_nil,List.append_nil,<- HX.out]
        exact HV3.out
       ·rw [clk_bx HV3.out.bx,clk_bx HIB.out,(HX3.out rfl).1]
        have e1:(X.aft (comes X.clock l) dd).clock=M.clock+(wnx M l N j:Nat):=by
         rw [HX.out,aft_clock HR.out j,<- aft_add HR.out,aft_clock HR.out,HDD.out]
         have:=HDB.out
         omega
        rw [e1,HXE.out]
        have:=HDB.out;have:=HCL.out;have:=HLT.out
        omega
      ·have HR3:=hid hr3
       go_wp2_with (refine wpList_store_mid rfl 41 _ _ rfl (w.heap.size+1) 0 (machL zeroM nilS).toArray rfl rfl (HV3.out.rb.there 0 75 (by rw [machL_len];omega)) info_mach (machL_one _ _ nilS_isSl) ?_
                    refine Pl.cutL (FR q w J zeroM nilS _ _) (FI.ret HJ.out HQ.out.2 HV3.out (nil_slAt _) (nil_new _)) ?_
                    intro V hV
                    have HV:=hid hV
                    clear hV)
       refine bodyPost_ret (v:=.tuple #[.agg (machL zeroM nilS).toArray,.bool false,.int .i64 r2]) ?_ rfl ⟨zeroM,nilS,false,r2,_,_,rfl,Or.inl ⟨HR3.out,rfl,rfl,Or.inr (Wc.long HFIT.out HR.out HN5.out HCL.out HLT.out HX.out HFX.out HDD.out (HR2.out ▸ HR3.out))⟩,HV.out.jj,HV.out.sl,HV.out.low,HV.out.nw.mono (by omega)⟩
       have l1:=run_loadVar_mid V (w.heap.size+1) 0 41 _ _ HV.out.rb.c Tryz.underlying41 rfl info_mach
       simp only [results,Tryz.results38]
       simp
       show (Result.andThen (Sem.run Tryz.prog (loadVar 41 ⟨w.heap.size+1,0,none⟩) V) _)=_
       rw [l1]
       rfl
     ·go_wp2_with (first
       | (refine wpList_load_mid rfl 41 _ rfl w.heap.size 0 rfl (machL X TX) _ HI.out.bx.c Tryz.underlying41 rfl info_mach ?_)
       | (refine wpList_load_mid rfl 41 _ rfl w.heap.size 0 rfl (machL X TX) _ HI0.out.bx.c Tryz.underlying41 rfl info_mach ?_)
       | (refine HLX.out.mono ?_;rintro e wl ⟨rfl,g2,hj2,hg2,hl2⟩;have HI:=hid (HI0.out.look HQ.out.2 hl2 hj2 hg2);clear hj2 hg2 hl2)
       | (refine wpList_store_mid rfl 41 _ _ rfl (w.heap.size+1) 0 (machL X TX).toArray rfl rfl (HI.out.rb.there 0 75 (by rw [machL_len];omega)) info_mach (machL_one _ _ (isSl_of HI.out.sl)) ?_
          refine Pl.cutL (FR q w J X TX _ _) (FI.ret HJ.out HQ.out.2 HI.out HI.out.sl HI.out.nw) ?_
          intro V hV
          have HV:=hid hV
          clear hV))
      refine bodyPost_ret (v:=.tuple #[.agg (machL X TX).toArray,.bool true,.int .i64 0]) ?_ rfl ⟨X,TX,true,0,_,_,rfl,Or.inr ⟨rfl,HG.out,HFIT.out,HR.out,js,j,by rw [HTN.out];exact HWY.out,HX.out,HBS.out,Or.inr ⟨rfl,by rw [HTN.out];exact HLT.out,HBB.out.symm,rfl⟩⟩,HV.out.jj,HV.out.sl,HV.out.low,HV.out.nw.mono (by omega)⟩
      have l1:=run_loadVar_mid V (w.heap.size+1) 0 41 _ _ HV.out.rb.c Tryz.underlying41 rfl info_mach
      simp only [results,Tryz.results38]
      simp
      show (Result.andThen (Sem.run Tryz.prog (loadVar 41 ⟨w.heap.size+1,0,none⟩) V) _)=_
      rw [l1]
      rfl
    ·have hd1:¬ X.clock < M.clock+(N:Int):=by omega
     have HJN:Hid (j=N):=hid (by omega)
     clear hlt hle hXc
     go_wp2_with (first
      | (refine wpList_load_mid rfl 41 _ rfl w.heap.size 0 rfl (machL X TX) _ HI0.out.bx.c Tryz.underlying41 rfl info_mach ?_)
      | (refine wpList_store_mid rfl 41 _ _ rfl (w.heap.size+1) 0 (machL X TX).toArray rfl rfl (HI0.out.rb.there 0 75 (by rw [machL_len];omega)) info_mach (machL_one _ _ (isSl_of HI0.out.sl)) ?_
         refine Pl.cutL (FR q w J X TX _ _) (FI.ret HJ.out HQ.out.2 HI0.out HI0.out.sl HI0.out.nw) ?_
         intro V hV
         have HV:=hid hV
         clear hV))
     refine bodyPost_ret (v:=.tuple #[.agg (machL X TX).toArray,.bool false,.int .i64 0]) ?_ rfl ⟨X,TX,false,0,_,_,rfl,Or.inr ⟨rfl,HG.out,HFIT.out,HR.out,js,j,by rw [HTN.out];exact HWY.out,HX.out,HBS.out,Or.inl ⟨rfl,by rw [HTN.out];exact HJN.out,rfl⟩⟩,HV.out.jj,HV.out.sl,HV.out.low,HV.out.nw.mono (by omega)⟩
     have l1:=run_loadVar_mid V (w.heap.size+1) 0 41 _ _ HV.out.rb.c Tryz.underlying41 rfl info_mach
     simp only [results,Tryz.results38]
     simp
     show (Result.andThen (Sem.run Tryz.prog (loadVar 41 ⟨w.heap.size+1,0,none⟩) V) _)=_
     rw [l1]
     rfl
theorem Wc.many (g o n cap:Nat) (rom:List UInt8) (hl:rom.length=n) (pc:Nat) (hp:pc<=65535) (hc:n<=cap) (hn:n<=9223372036854775807) (hf:2<=n - pc) (w:World) (hg:g < w.heap.size) (hb:AsbytesAt w g o rom) (hF:AF w) :
 Calls Tryz.prog 66 #[.slice (some ⟨g,o,none⟩) n cap,.int .u16 pc] w fun e w'=>e = .returned (.string (Asmk (wtext rom pc)))/\Below w.heap.size w w':=by
 obtain ⟨m,hm⟩:∃ m,m=min ((n - pc) / 2 * 2) 4:=⟨_,rfl⟩
 have hmin:min (pc:Int) (n:Int)=(pc:Int):=by omega
 have h1:pc<=n:=by omega
 have h2:pc<=cap:=by omega
 have h3:decide (((n - pc:Nat):Int) < 2)=false:=by simp;omega
 have h3b:¬ (((n - pc:Nat):Int) < 2):=by omega
 have hw:IntKind.i64.wrap (pc:Int)=pc:=by rw [IntKind.wrap_i64];omega
 have hm4:min (((n - pc:Nat):Int) / 2 * 2) 4=(m:Int):=by omega
 have hsl:AssliceAt w (.slice (some ⟨g,o+pc,none⟩) m (cap - pc)) ((rom.drop pc).take m):=Or.inr ⟨g,o+pc,(cap - pc),by rw [List.length_take,List.length_drop,hl,Nat.min_eq_left (by omega)],by rw [List.length_take,List.length_drop,hl];omega,hg,fun j c hj=>by
  have hjm:j < m:=by
   have:=(List.getElem?_eq_some_iff.1 hj).1
   rw [List.length_take] at this;omega
  rw [List.getElem?_take_of_lt hjm] at hj
  exact hb.drop pc j c hj⟩
 have hlen:((rom.drop pc).take m).length=m:=by rw [List.length_take,List.length_drop,hl];omega
 have hres:listRes ((rom.drop pc).take m)=(S.list ((rom.drop pc).take m),0):=by
  unfold listRes
  rw [hlen,if_neg (by omega),if_neg (by omega)]
 have HL:=hid (list_any _ _ w hsl hF)
 rw [hres] at HL
 obtain ⟨T,hT⟩:∃ T,T=S.list ((rom.drop pc).take m):=⟨_,rfl⟩
 have hTl:T.length<=10000:=by
  rw [hT]
  unfold S.list
  have:=list_small ((rom.drop pc).take m).length ((rom.drop pc).take m)
  omega
 have hres2:wtext rom pc=(Lib.cut T [10]).1:=by
  unfold wtext
  rw [hl,if_neg (by omega),<- hm,<- hT]
 rw [<- hT] at HL
 rw [hres2]
 have HF:=hid hF
 have HTL:=hid hTl
 have h4:m<=(cap - pc):=by omega
 have h5:m<=n - pc:=by omega
 have h6:¬ cap=pc:=by omega
 clear hres hres2 hT hTl hlen hsl hF hb hm hf hl
 go_enter Tryz.func66,Tryz.ntmps66
 go_wp2_with (first
  | (go_at_call 57;refine (Wc.cut T HTL.out _ (HF.out.kept hb1)).mono ?_;rintro e w2 ⟨rfl,hb2⟩)
  | (go_at_call 104;refine HL.out.mono ?_;rintro e w1 ⟨rfl,hb1⟩))
 go_ret
 exact ⟨rfl,stp hb1 hb2⟩
end Go.Proofs.YtbhpfkjfijdmaaaGreatDoor
