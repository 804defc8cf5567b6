/-
  For any two programs, anything that is pressed and every number of frames the law TapeCounts of the program returns true and leaves its arguments as they were; the listed library variables are as the tied card says.
-/
import Derived.Test.YtbhpfkjfijdmaaaGreatDoorZv41
import Derived.Test.YtbhpfkjfijdmaaaGreatDoorZv42
import Derived.Test.YtbhpfkjfijdmaaaGreatDoorZv37
import Derived.Test.YtbhpfkjfijdmaaaGreatDoorZv39
import Derived.Test.YtbhpfkjfijdmaaaGreatDoorZv03
namespace Go.Proofs.YtbhpfkjfijdmaaaGreatDoor
open Go.ChangeShapes Go.WideShapes Go.ChangeAt Go.RowKit
set_option linter.unusedVariables false
set_option maxRecDepth 100000
set_option maxHeartbeats 6400000
structure Tp.Pr (w : World) (L1 L2 : List Value) (Y : World) : Prop where
 low:Below w.heap.size w Y
 b1:Bx Y w.heap.size L1
 b2:Bx Y (w.heap.size+1) L2
abbrev Tp.nil3:List Value:=[.slice none 0 0,.slice none 0 0,.slice none 0 0]
section
variable {w Y w1 : World} {L1 L2 : List Value} {F : Fx} {N : Nat} {k : Cs} {vln vsm vw : Value} {X : Mach}
theorem Tp.Pr.kept (h:Tp.Pr w L1 L2 Y) (hb:Below Y.heap.size Y w1):Tp.Pr w L1 L2 w1:=⟨stp h.low hb,h.b1.kept hb,h.b2.kept hb⟩
theorem Tp.Pr.start (w:World) (t t':TypeId):Tp.Pr w (machL zeroM nilS) Tp.nil3 ((w.alloc (.cells (machL zeroM nilS).toArray t)).alloc (.cells #[.slice none 0 0,.slice none 0 0,.slice none 0 0] t')) :=
 ⟨stA (stA (st0 w) _) _,(Bx.new w (machL zeroM nilS) t rfl).over _,Bx.new _ Tp.nil3 t' (by simp)⟩
theorem Tp.Pr.put1 (h:Tp.Pr w (machL zeroM nilS) L2 Y) (L:List Value) (hl:L.length=75):Tp.Pr w L L2 (Y.setCells w.heap.size 0 L):=by
 have hx:=h.b1.puts 0 L (by rw [machL_len];omega)
 rw [putL_whole _ _ (by rw [machL_len,hl])] at hx
 exact ⟨below_sets' h.low (by omega) _ _,hx,DW.bb h.b2 (by omega)⟩
theorem Tp.Pr.put2 {x y z x' y' z':Value} (h:Tp.Pr w L1 [x,y,z] Y):Tp.Pr w L1 [x',y',z'] (Y.setCells (w.heap.size+1) 0 [x',y',z']):=by
 have hx:=h.b2.puts 0 [x',y',z'] (by simp)
 rw [putL_whole _ _ (by simp)] at hx
 exact ⟨below_sets' h.low (by omega) _ _,DW.bb h.b1 (by omega),hx⟩
structure Tp.Pz (w : World) (F : Fx) (N : Nat) (k : Cs) (vln vsm vw : Value) (L1 L2 : List Value) (Y : World) : Prop where
 pr:Tp.Pr w L1 L2 Y
 told:Told F N k vln vsm vw Y
 new:SlNew F.B F.S
 bz:w.heap.size+2<=F.B/\F.B<=N
theorem Tp.Pz.put1 (h:Tp.Pz w F N k vln vsm vw (machL zeroM nilS) L2 Y) (L:List Value) (hl:L.length=75):Tp.Pz w F N k vln vsm vw L L2 (Y.setCells w.heap.size 0 L) :=
 ⟨h.pr.put1 L hl,h.told.far h.new (by have:=h.bz.1;omega) h.bz.2,h.new,h.bz⟩
theorem Tp.Pz.put2 {x y z x' y' z':Value} (h:Tp.Pz w F N k vln vsm vw L1 [x,y,z] Y):Tp.Pz w F N k vln vsm vw L1 [x',y',z'] (Y.setCells (w.heap.size+1) 0 [x',y',z']) :=
 ⟨h.pr.put2,h.told.far h.new (by have:=h.bz.1;omega) h.bz.2,h.new,h.bz⟩
end
structure Tp.Pm (w : World) (b : Nat) (M : Mach) (S : Sl) (v : Value) (l : List Inp) (Y : World) : Prop where
 pr:Tp.Pr w (machL zeroM nilS) Tp.nil3 Y
 bx:Bx Y b (machL M S)
 sl:SlAt Y S M
 inp:InpAt w.heap.size Y v l
theorem Tp.Pm.mk0 {w Y:World} {M:Mach} {S:Sl} {v:Value} {l:List Inp} (h:Tp.Pr w (machL zeroM nilS) Tp.nil3 Y) (hs:SlAt Y S M) (hi:InpAt w.heap.size Y v l) (t:TypeId):Tp.Pm w Y.heap.size M S v l ((Y.alloc (.cells (machL zeroM nilS).toArray t)).setCells Y.heap.size 0 (machL M S)):=by
 have hx:=(Bx.new Y (machL zeroM nilS) t (b:=Y.heap.size) rfl).puts 0 (machL M S) (by rw [machL_len,machL_len];omega)
 rw [putL_whole _ _ (by rw [machL_len,machL_len])] at hx
 have hb:Below Y.heap.size Y ((Y.alloc (.cells (machL zeroM nilS).toArray t)).setCells Y.heap.size 0 (machL M S)):=below_sets' (stA (st0 Y) _) (Nat.le_refl _) _ _
 exact ⟨h.kept hb,hx,hs.kept hb,hi.kept (hb.mono h.low.size)⟩
theorem Tp.play_bad (l1 l2:List UInt8) (v1 v2 v:Value) (f:Int) (w:World) (h1:sliceAt w v1 l1) (h2:sliceAt w v2 l2) (hl1:l1.length<=9223372036854775807) (hl2:l2.length<=9223372036854775807) (hc:¬ (l1.length<=1024/\l2.length<=1024)) :
 Calls Tryz.prog 16 #[v1,v2,v,.int .i64 f] w fun e w'=>e = .returned (.tuple #[.agg (machL zeroM nilS).toArray,.agg Tp.nil3.toArray,.int .i64 2])/\Below w.heap.size w w':=by
 have HR0:=hid (Tp.Pr.start w 41 50)
 have HN:=hid (Bu.new_bad l1 l2 v1 v2 _ (h1.kept HR0.out.low) (h2.kept HR0.out.low) hl1 hl2 hc)
 clear h1 h2 hl1 hl2 hc
 go_enter Tryz.func16,Tryz.ntmps16
 go_wp2_with (first
  | (refine wpList_store_mid rfl 50 _ _ rfl (w.heap.size+1) 0 #[.slice none 0 0,.slice none 0 0,.slice none 0 0] rfl rfl (HR3.out.b2.there 0 3 (by simp)) info_shown (by simp [Value.oneCell']) ?_;refine Pl.cutL (Tp.Pr w (machL zeroM nilS) Tp.nil3) HR3.out.put2 ?_;intro V hV;have HV:=hid hV;clear hV)
  | (refine wpList_store_mid rfl 41 _ _ rfl w.heap.size 0 (machL zeroM nilS).toArray rfl rfl (HR2.out.b1.there 0 75 (by rw [machL_len];omega)) info_mach (machL_one _ _ nilS_isSl) ?_;refine Pl.cutL (Tp.Pr w (machL zeroM nilS) Tp.nil3) (HR2.out.put1 _ (machL_len _ _)) ?_;intro Z3 hZ;have HR3:=hid hZ;clear hZ)
  | (refine wpList_store_mid rfl 41 _ _ rfl w1.heap.size 0 (machL zeroM nilS).toArray rfl rfl ((Bx.new w1 (machL zeroM nilS) _ (b:=w1.heap.size) rfl).there 0 75 (by rw [machL_len];omega)) info_mach (machL_one _ _ nilS_isSl) ?_;refine Pl.cutL (Tp.Pr w (machL zeroM nilS) Tp.nil3) (HR1.out.kept (below_sets' (stA (st0 w1) _) (Nat.le_refl _) _ _)) ?_;intro Z2 hZ;have HR2:=hid hZ;clear hZ)
  | (go_at_call 22;refine HN.out.mono ?_;rintro e w1 ⟨rfl,hb1⟩;have HR1:=hid (HR0.out.kept hb1);clear hb1))
 refine bodyPost_ret (v:=.tuple #[.agg (machL zeroM nilS).toArray,.agg Tp.nil3.toArray,.int .i64 2]) ?_ rfl ⟨rfl,HV.out.low⟩
 have l1:=run_loadVar_mid V w.heap.size 0 41 _ _ HV.out.b1.c Tryz.underlying41 rfl info_mach
 have l2:=run_loadVar_mid V (w.heap.size+1) 0 50 _ _ HV.out.b2.c Tryz.underlying50 rfl info_shown
 simp only [results,Tryz.results16]
 simp
 show (Result.andThen (Sem.run Tryz.prog (loadVar 41 ⟨w.heap.size,0,none⟩) V) _)=_
 rw [l1]
 show (Result.andThen (Sem.run Tryz.prog (loadVar 50 ⟨w.heap.size+1,0,none⟩) V) _)=_
 rw [l2]
 rfl
theorem newD_len (l1 l2:List UInt8) (h1:l1.length<=1024) (h2:l2.length<=1024):∀ j,j < 5->((newD l1 l2).byt j).length<=9223372036854775807:=by
 intro j hj
 have hc:j=0 \/ j=1 \/ j=2 \/ j=3 \/ j=4:=by omega
 rcases hc with rfl | rfl | rfl | rfl | rfl
 ·show l1.length<=_;omega
 ·show l2.length<=_;omega
 ·show (List.replicate 128 (0:UInt8)).length<=_;simp
 ·show (List.replicate 64 (0:UInt8)).length<=_;simp
 ·show (List.replicate 256 (0:UInt8)).length<=_;simp
theorem Sv9 {M:Mach} (h:M.fit):M.ok:={ h with main:=h.main }
theorem newD_fit (l1 l2:List UInt8) (h1:l1.length<=1024) (h2:l2.length<=1024):(newD l1 l2).fit/\(newD l1 l2).b=⟨0,0,false,0⟩/\(newD l1 l2).s.w=0/\(newD l1 l2).clock=0:=by
 have hok:=beg_ok _ _ (lookM_bd (newM l1 l2) 0) (lookM_bd (newM l1 l2) 1)
 have h0:=newM_fit l1 l2 h1 h2
 exact ⟨Mach.fit.of h0 { h0 with main:=hok } ⟨rfl,rfl,rfl,rfl,rfl⟩ rfl ⟨rfl,rfl,rfl⟩ ⟨rfl,rfl⟩ (Or.inl rfl),rfl,rfl,rfl⟩
theorem Tp.play_range (l1 l2:List UInt8) (v1 v2 v:Value) (l:List Inp) (f:Int) (w:World) (h1:sliceAt w v1 l1) (h2:sliceAt w v2 l2) (hl1:l1.length<=1024) (hl2:l2.length<=1024) (hin:InpAt w.heap.size w v l) (hf:f < 0 \/ 20 < f) :
 Calls Tryz.prog 16 #[v1,v2,v,.int .i64 f] w fun e w'=>e = .returned (.tuple #[.agg (machL zeroM nilS).toArray,.agg Tp.nil3.toArray,.int .i64 3])/\Below w.heap.size w w':=by
 have HR0:=hid (Tp.Pr.start w 41 50)
 have HN:=hid (Bu.new_ok l1 l2 v1 v2 _ (h1.kept HR0.out.low) (h2.kept HR0.out.low) hl1 hl2)
 have HIN:=hid hin
 have HDF:=hid (newD_fit l1 l2 hl1 hl2)
 clear h1 h2 hl1 hl2 hin
 have hfd:(decide (f < 0) || decide (20 < f))=true:=by rcases hf with h | h <;> simp [h]
 rcases hf with hf | hf
 all_goals
  go_enter Tryz.func16,Tryz.ntmps16
  go_wp2_with (first
  | (refine wpList_store_mid rfl 50 _ _ rfl (w.heap.size+1) 0 #[.slice none 0 0,.slice none 0 0,.slice none 0 0] rfl rfl (HR3.out.b2.there 0 3 (by simp)) info_shown (by simp [Value.oneCell']) ?_;refine Pl.cutL (Tp.Pr w (machL zeroM nilS) Tp.nil3) HR3.out.put2 ?_;intro V hV;have HV:=hid hV;clear hV)
  | (refine wpList_store_mid rfl 41 _ _ rfl w.heap.size 0 (machL zeroM nilS).toArray rfl rfl (HM2.out.pr.b1.there 0 75 (by rw [machL_len];omega)) info_mach (machL_one _ _ nilS_isSl) ?_;refine Pl.cutL (Tp.Pr w (machL zeroM nilS) Tp.nil3) (HM2.out.pr.put1 _ (machL_len _ _)) ?_;intro Z3 hZ;have HR3:=hid hZ;clear hZ)
  | (refine wpList_store_mid rfl 41 _ _ rfl w1.heap.size 0 (machL (newD l1 l2) S1).toArray rfl rfl ((Bx.new w1 (machL zeroM nilS) _ (b:=w1.heap.size) rfl).there 0 75 (by rw [machL_len];omega)) info_mach (machL_one _ _ (isSl_of HS1.out)) ?_;refine Pl.cutL (Tp.Pm w w1.heap.size (newD l1 l2) S1 v l) (Tp.Pm.mk0 HR1.out HS1.out HI1.out _) ?_;intro Z2 hZ;have HM2:=hid hZ;clear hZ)
  | (go_at_call 22;refine HN.out.mono ?_;rintro e w1 ⟨S1,rfl,hs1,hf1,hn1,hb1⟩;have HR1:=hid (HR0.out.kept hb1);have HS1:=hid hs1;have HI1:=hid ((HIN.out.kept HR0.out.low).kept (hb1.mono HR0.out.low.size));clear hs1 hf1 hn1 hb1))
  refine bodyPost_ret (v:=.tuple #[.agg (machL zeroM nilS).toArray,.agg (Tp.nil3).toArray,.int .i64 3]) ?_ rfl ⟨rfl,HV.out.low⟩
  have l1:=run_loadVar_mid V w.heap.size 0 41 _ _ HV.out.b1.c Tryz.underlying41 rfl info_mach
  have l2:=run_loadVar_mid V (w.heap.size+1) 0 50 _ _ HV.out.b2.c Tryz.underlying50 rfl info_shown
  simp only [results,Tryz.results16]
  simp
  show (Result.andThen (Sem.run Tryz.prog (loadVar 41 ⟨w.heap.size,0,none⟩) V) _)=_
  rw [l1]
  show (Result.andThen (Sem.run Tryz.prog (loadVar 50 ⟨w.heap.size+1,0,none⟩) V) _)=_
  rw [l2]
  rfl
theorem Tp.play_err (l1 l2:List UInt8) (v1 v2 v:Value) (l:List Inp) (f:Nat) (w:World) (h1:sliceAt w v1 l1) (h2:sliceAt w v2 l2) (hl1:l1.length<=1024) (hl2:l2.length<=1024) (hin:InpAt w.heap.size w v l) (hf:f<=20) (hr:runErr (newD l1 l2) l ((f:Int) * 640) ≠ 0) :
 Calls Tryz.prog 16 #[v1,v2,v,.int .i64 f] w fun e w'=>e = .returned (.tuple #[.agg (machL zeroM nilS).toArray,.agg Tp.nil3.toArray,.int .i64 (runErr (newD l1 l2) l ((f:Int) * 640))])/\Below w.heap.size w w':=by
 have HR0:=hid (Tp.Pr.start w 41 50)
 have HN:=hid (Bu.new_ok l1 l2 v1 v2 _ (h1.kept HR0.out.low) (h2.kept HR0.out.low) hl1 hl2)
 have HIN:=hid hin
 have HDF:=hid (newD_fit l1 l2 hl1 hl2)
 have HZ:Hid (∀ j,j < 5->((newD l1 l2).byt j).length<=9223372036854775807):=hid (newD_len l1 l2 hl1 hl2)
 have HRE:=hid hr
 have hf0:¬ (f:Int) < 0:=by omega
 have hf1:¬ (20:Int) < f:=by omega
 have hf2:(f:Int)<=20:=by omega
 have hf3:0<=(f:Int):=by omega
 clear h1 h2 hl1 hl2 hin
 obtain ⟨r,hre⟩:∃ r,r=runErr (newD l1 l2) l ((f:Int) * 640):=⟨_,rfl⟩
 have HRR:Hid (∀ W S,SlAt W S (newD l1 l2)->InpAt W.heap.size W v l->Calls Tryz.prog 10 #[.agg (machL (newD l1 l2) S).toArray,v,.int .i64 ((f:Int) * 640)] W fun e w'=>e = .returned (.tuple #[.agg (machL zeroM nilS).toArray,.agg #[.slice none 0 0,.slice none 0 0,.slice none 0 0],.int .i64 r])/\Below W.heap.size W w'):=hid (fun W S hs hi=>by
  rw [hre]
  exact Lk.run_bad (newD l1 l2) S v l ((f:Int) * 640) W hs HZ.out (Sv9 HDF.out.1) hi (by omega) HRE.out)
 rw [<- hre]
 clear hre hr hf
 go_enter Tryz.func16,Tryz.ntmps16
 go_wp2_with (first
  | (refine wpList_store_mid rfl 50 _ _ rfl (w.heap.size+1) 0 #[.slice none 0 0,.slice none 0 0,.slice none 0 0] rfl rfl (HR3.out.b2.there 0 3 (by simp)) info_shown (by simp [Value.oneCell']) ?_;refine Pl.cutL (Tp.Pr w (machL zeroM nilS) Tp.nil3) HR3.out.put2 ?_;intro V hV;have HV:=hid hV;clear hV)
  | (refine wpList_store_mid rfl 41 _ _ rfl w.heap.size 0 (machL zeroM nilS).toArray rfl rfl (HR4.out.b1.there 0 75 (by rw [machL_len];omega)) info_mach (machL_one _ _ nilS_isSl) ?_;refine Pl.cutL (Tp.Pr w (machL zeroM nilS) Tp.nil3) (HR4.out.put1 _ (machL_len _ _)) ?_;intro Z3 hZ;have HR3:=hid hZ;clear hZ)
  | (go_at_call 10;refine (HRR.out _ _ HM2.out.sl (HM2.out.inp.mono HM2.out.pr.low.size)).mono ?_;rintro e w4 ⟨rfl,hb4⟩;have HR4:=hid (HM2.out.pr.kept hb4);clear hb4)
  | (refine wpList_load_mid rfl 41 _ rfl w1.heap.size 0 rfl (machL (newD l1 l2) S1) _ HM2.out.bx.c Tryz.underlying41 rfl info_mach ?_)
  | (refine wpList_store_mid rfl 41 _ _ rfl w1.heap.size 0 (machL (newD l1 l2) S1).toArray rfl rfl ((Bx.new w1 (machL zeroM nilS) _ (b:=w1.heap.size) rfl).there 0 75 (by rw [machL_len];omega)) info_mach (machL_one _ _ (isSl_of HS1.out)) ?_;refine Pl.cutL (Tp.Pm w w1.heap.size (newD l1 l2) S1 v l) (Tp.Pm.mk0 HR1.out HS1.out HI1.out _) ?_;intro Z2 hZ;have HM2:=hid hZ;clear hZ)
  | (go_at_call 22;refine HN.out.mono ?_;rintro e w1 ⟨S1,rfl,hs1,hf1,hn1,hb1⟩;have HR1:=hid (HR0.out.kept hb1);have HS1:=hid hs1;have HI1:=hid ((HIN.out.kept HR0.out.low).kept (hb1.mono HR0.out.low.size));clear hs1 hf1 hn1 hb1))
 refine bodyPost_ret (v:=.tuple #[.agg (machL zeroM nilS).toArray,.agg (Tp.nil3).toArray,.int .i64 r]) ?_ rfl ⟨rfl,HV.out.low⟩
 have l1:=run_loadVar_mid V w.heap.size 0 41 _ _ HV.out.b1.c Tryz.underlying41 rfl info_mach
 have l2:=run_loadVar_mid V (w.heap.size+1) 0 50 _ _ HV.out.b2.c Tryz.underlying50 rfl info_shown
 simp only [results,Tryz.results16]
 simp
 show (Result.andThen (Sem.run Tryz.prog (loadVar 41 ⟨w.heap.size,0,none⟩) V) _)=_
 rw [l1]
 show (Result.andThen (Sem.run Tryz.prog (loadVar 50 ⟨w.heap.size+1,0,none⟩) V) _)=_
 rw [l2]
 rfl
theorem Tp.told_one {F:Fx} {N:Nat} {k:Cs} {vln vsm vw:Value} {w:World} (h:Told F N k vln vsm vw w):(#[vln,vsm,vw]:Array Value).all (·.oneCell')=true:=by
 obtain ⟨a1,c1,rfl⟩:=row_len h.ln
 obtain ⟨a2,c2,rfl⟩:=row_len h.sm
 obtain ⟨a3,c3,rfl⟩:=row_len h.ws
 exact one3 _ _ _ _ _ _ _ _ _
def Tp.K (l1 l2:List UInt8) (l:List Inp) (f:Nat):Cs:=Cs.clocks ⟨⟨newD l1 l2,0,[]⟩,l,[],[]⟩ (f * 640)
theorem Tp.play_ok (l1 l2:List UInt8) (v1 v2 v:Value) (l:List Inp) (f:Nat) (w:World) (h1:sliceAt w v1 l1) (h2:sliceAt w v2 l2) (hl1:l1.length<=1024) (hl2:l2.length<=1024) (hin:InpAt w.heap.size w v l) (hsh:shapesAt w) (hd:∀ x ∈ l,0<=x.d/\x.d<=255) (hf:f<=20) (hc:Go.Proofs.YtbhpfkjfijdmaaaGreatDoor.chkIn l 0=0) :
 Calls Tryz.prog 16 #[v1,v2,v,.int .i64 f] w fun e w'=>∃ (F:Fx) (N:Nat) (vln vsm vw:Value),e = .returned (.tuple #[.agg (machL (Tp.K l1 l2 l f).s.M F.S).toArray,.agg #[vln,vsm,vw],.int .i64 0])/\Told F N (Tp.K l1 l2 l f) vln vsm vw w'/\Below w.heap.size w w':=by
 have HR0:=hid (Tp.Pr.start w 41 50)
 have HN:=hid (Bu.new_ok l1 l2 v1 v2 _ (h1.kept HR0.out.low) (h2.kept HR0.out.low) hl1 hl2)
 have HIN:=hid hin
 have HDF:=hid (newD_fit l1 l2 hl1 hl2)
 have HSH:=hid hsh
 have hf0:¬ (f:Int) < 0:=by omega
 have hf1:¬ (20:Int) < f:=by omega
 have hf2:(f:Int)<=20:=by omega
 have hf3:0<=(f:Int):=by omega
 have HRR:Hid (∀ W S,SlAt W S (newD l1 l2)->shapesAt W->InpAt W.heap.size W v l->Calls Tryz.prog 10 #[.agg (machL (newD l1 l2) S).toArray,v,.int .i64 ((f:Int) * 640)] W fun e w'=>∃ (F:Fx) (N:Nat) (vln vsm vw:Value),e = .returned (.tuple #[.agg (machL (Tp.K l1 l2 l f).s.M F.S).toArray,.agg #[vln,vsm,vw],.int .i64 0])/\Told F N (Tp.K l1 l2 l f) vln vsm vw w'/\W.heap.size<=F.B/\F.B<=N/\SlNew F.B F.S/\Below W.heap.size W w'):=hid (fun W S hs hw hi=>by
  have h9:=Lk.run_ok (newD l1 l2) S v l (f * 640) W hs hw hi hd HDF.out.1 (by rw [HDF.out.2.1];decide) (by rw [HDF.out.2.2.2];exact hc) (by rw [HDF.out.2.2.2];omega)
  rw [show ((f * 640:Nat):Int)=(f:Int) * 640 by push_cast;rfl] at h9
  exact h9)
 clear h1 h2 hl1 hl2 hin hf hc hd hsh
 obtain ⟨kk,hkk⟩:∃ kk,kk=Tp.K l1 l2 l f:=⟨_,rfl⟩
 rw [<- hkk] at HRR ⊢
 clear hkk
 go_enter Tryz.func16,Tryz.ntmps16
 go_wp2_with (first
  | (refine wpList_store_mid rfl 50 _ _ rfl (w.heap.size+1) 0 #[vln,vsm,vw] rfl rfl (HZ3.out.pr.b2.there 0 3 (by simp)) info_shown HONE.out ?_;refine Pl.cutL (Tp.Pz w F N kk vln vsm vw (machL kk.s.M F.S) [vln,vsm,vw]) HZ3.out.put2 ?_;intro V hV;have HV:=hid hV;clear hV)
  | (refine wpList_store_mid rfl 41 _ _ rfl w.heap.size 0 (machL kk.s.M F.S).toArray rfl rfl (HZ4.out.pr.b1.there 0 75 (by rw [machL_len];omega)) info_mach (machL_one _ _ (isSl_of HZ4.out.told.sl)) ?_;refine Pl.cutL (Tp.Pz w F N kk vln vsm vw (machL kk.s.M F.S) Tp.nil3) (HZ4.out.put1 _ (machL_len _ _)) ?_;intro Z3 hZ;have HZ3:=hid hZ;clear hZ)
  | (go_at_call 10;refine (HRR.out _ _ HM2.out.sl (HSH.out.kept HM2.out.pr.low) (HM2.out.inp.mono HM2.out.pr.low.size)).mono ?_;rintro e w4 ⟨F,N,vln,vsm,vw,rfl,hT,hz1,hz2,hnw,hb4⟩;have HONE:=hid (Tp.told_one hT);have HZ4:Hid (Tp.Pz w F N kk vln vsm vw (machL zeroM nilS) Tp.nil3 w4):=hid ⟨HM2.out.pr.kept hb4,hT,hnw,⟨Nat.le_trans (Nat.succ_le_of_lt HM2.out.pr.b2.z) hz1,hz2⟩⟩;clear hT hz1 hz2 hnw hb4)
  | (refine wpList_load_mid rfl 41 _ rfl w1.heap.size 0 rfl (machL (newD l1 l2) S1) _ HM2.out.bx.c Tryz.underlying41 rfl info_mach ?_)
  | (refine wpList_store_mid rfl 41 _ _ rfl w1.heap.size 0 (machL (newD l1 l2) S1).toArray rfl rfl ((Bx.new w1 (machL zeroM nilS) _ (b:=w1.heap.size) rfl).there 0 75 (by rw [machL_len];omega)) info_mach (machL_one _ _ (isSl_of HS1.out)) ?_;refine Pl.cutL (Tp.Pm w w1.heap.size (newD l1 l2) S1 v l) (Tp.Pm.mk0 HR1.out HS1.out HI1.out _) ?_;intro Z2 hZ;have HM2:=hid hZ;clear hZ)
  | (go_at_call 22;refine HN.out.mono ?_;rintro e w1 ⟨S1,rfl,hs1,hf1,hn1,hb1⟩;have HR1:=hid (HR0.out.kept hb1);have HS1:=hid hs1;have HI1:=hid ((HIN.out.kept HR0.out.low).kept (hb1.mono HR0.out.low.size));clear hs1 hf1 hn1 hb1))
 refine bodyPost_ret (v:=.tuple #[.agg (machL kk.s.M F.S).toArray,.agg #[vln,vsm,vw],.int .i64 0]) ?_ rfl ⟨F,N,vln,vsm,vw,rfl,HV.out.told,HV.out.pr.low⟩
 have l1:=run_loadVar_mid V w.heap.size 0 41 _ _ HV.out.pr.b1.c Tryz.underlying41 rfl info_mach
 have l2:=run_loadVar_mid V (w.heap.size+1) 0 50 _ _ HV.out.pr.b2.c Tryz.underlying50 rfl info_shown
 simp only [results,Tryz.results16]
 simp
 show (Result.andThen (Sem.run Tryz.prog (loadVar 41 ⟨w.heap.size,0,none⟩) V) _)=_
 rw [l1]
 show (Result.andThen (Sem.run Tryz.prog (loadVar 50 ⟨w.heap.size+1,0,none⟩) V) _)=_
 rw [l2]
 rfl
def Tp.one:Tp.In:=⟨10,1,129⟩
def Tp.oneT:List UInt8:=[49,48,32,49,32,117,46,46,46,46,46,46,116,10]
theorem Tp.itoa_ten:Lib.itoa 10=[49,48]:=by
 have h:=Lib.itoa_nonneg 10
 rw [Lib.decDigits_two (by decide) (by decide)] at h
 exact h
theorem Tp.itoa_one:Lib.itoa 1=[49]:=by
 have h:=Lib.itoa_nonneg 1
 rw [Lib.decDigits_one (by decide)] at h
 exact h
theorem Tp.one_text:Tp.text [Tp.one]=Tp.oneT:=by
 unfold Tp.text Tp.one
 simp only [List.map_cons,List.map_nil,List.flatten_cons,List.flatten_nil,List.append_nil,Tp.In.line]
 rw [Tp.itoa_ten,Tp.itoa_one]
 rfl
theorem Tp.one_ok:∀ x ∈ [Tp.one],x.ok:=fun x hx=>by
 rw [List.mem_singleton] at hx
 subst hx
 exact ⟨by decide,by decide,by decide,by decide,by decide⟩
theorem Tp.one_chk:Tp.chkIn [Tp.one] 0=0:=by decide
theorem Tp.one_prs:Tp.prsL Tp.oneT=[Tp.one]/\Tp.prsN Tp.oneT=0/\Tp.prsE Tp.oneT=0:=by
 have h:=Tp.prs_text Tp.one_ok (by rw [Tp.one_text];decide) Tp.one_chk
 rw [Tp.one_text] at h
 exact h
theorem Tp.rw_new (w:World) (x:Tp.In) (t:TypeId) {b:Nat} (hb:b=w.heap.size):Tp.Rw (w.alloc (.cells #[.int .i64 x.c,.int .i64 x.p,.int .u8 x.d] t)) (.slice (some ⟨b,0,none⟩) 1 1) 1 3 (Tp.ics [x]) :=
 ⟨rfl,Or.inr ⟨b,0,1,rfl,Nat.le_refl _,by subst hb;simp,fun j u hj=>by rw [Nat.zero_add];exact Tp.in_cells w x t hb j u hj⟩⟩
theorem Tp.taped (w:World) (hF:Tp.F w):Calls Tryz.prog 17 #[] w fun e w'=>e = .returned (.bool true)/\Below w.heap.size w w':=by
 have HP:=hid (Tp.parse_any Tp.oneT w hF)
 obtain ⟨e1,e2,e3⟩:=Tp.one_prs
 rw [e1,e2,e3] at HP
 have HF0:=hid hF
 have hpr:Tp.printS [Tp.one]=Tp.oneT:=by unfold Tp.printS;rw [if_pos Tp.one_chk];exact Tp.one_text
 have HPR:Hid (∀ (v:Value) (B:Nat) (W:World),Tp.InAt B W v [Tp.one]->B<=W.heap.size->Tp.F W->Calls Tryz.prog 36 #[v] W fun e w'=>e = .returned (.tuple #[.string (mk Tp.oneT),.int .i64 0])/\Below W.heap.size W w'):=hid (fun v B W h hB hF=>by
  have h9:=Tp.print_any [Tp.one] v B W h hB Tp.one_ok hF
  rw [hpr,Tp.one_chk] at h9
  exact h9)
 have hst:((mk Tp.oneT).toList == [49,48,32,49,32,117,46,46,46,46,46,46,116,10])=true:=by rw [mk_toList];rfl
 have rb:=Tp.run_bin 10 1 129
 clear hF e1 e2 e3 hpr
 go_enter Tryz.func17,Tryz.ntmps17
 go_wp2_with (first
  | (go_at_call 35;refine HP.out.mono ?_;rintro e w1 ⟨v,rfl,hv,_,hb1⟩;obtain ⟨a1,c1,rfl⟩:=Tp.row_len hv;have HV1:=hid (Tp.own_in hv);have HB1:=hid hb1;clear hv hb1)
  | (go_at_call 36;refine (HPR.out _ _ _ HV1.out (Nat.le_refl _) (HF0.out.kept HB1.out)).mono ?_;rintro e w2 ⟨rfl,hb2⟩;have HV2:=hid (HV1.out.kept hb2);have HB2:=hid (stp HB1.out hb2);clear hb2)
  | (go_at_call 37;refine (Tp.sameIn _ _ [Tp.one] _ ((HV2.out.rw).kept (stA (st0 w2) _)) (Tp.rw_new w2 Tp.one 54 rfl) (by decide)).mono ?_;rintro e w3 ⟨rfl,hb3⟩;have HB3:=hid (stp (stA HB2.out _) hb3);clear hb3))
 go_ret
 exact ⟨rfl,HB3.out⟩
theorem Tp.counts_bad (v1 v2 v:Value) (f c:Int) (w:World) (hF:Tp.F w) (hp:Calls Tryz.prog 16 #[v1,v2,v,.int .i64 f] w fun e w'=>e = .returned (.tuple #[.agg (machL zeroM nilS).toArray,.agg Tp.nil3.toArray,.int .i64 c])/\Below w.heap.size w w') (hc:c ≠ 0) :
 Calls Tryz.prog 4 #[v1,v2,v,.int .i64 f] w fun e w'=>e = .returned (.bool true)/\Below w.heap.size w w':=by
 have HF:=hid hF
 have HP:=hid hp
 have hne:(c != 0)=true:=by simpa using hc
 clear hF hp hc
 go_enter Tryz.func4,Tryz.ntmps4
 go_wp2_with (first
  | (go_at_call 16;refine HP.out.mono ?_;rintro e w1 ⟨rfl,hb1⟩;have HL1:=hid hb1;clear hb1)
  | (refine wpList_store_mid rfl 41 _ _ rfl w1.heap.size 0 (machL zeroM nilS).toArray rfl rfl (R3.th1 w1) info_mach (machL_one _ _ zero_sl) ?_;refine Pl.cutL (R3 w1 zeroM nilS nil3) (R3.mk1 w1 zeroM nilS) ?_;intro Y1 hY1;have HY1:=hid hY1;clear hY1)
  | (refine wpList_store_mid rfl 50 _ _ rfl (w1.heap.size+1) 0 #[.slice none 0 0,.slice none 0 0,.slice none 0 0] rfl rfl (HY1.out.s.there 0 3 (by simp)) info_shown (one3 _ _ _ _ _ _ _ _ _) ?_;refine Pl.cutL (R3 w1 zeroM nilS nil3) HY1.out.put ?_;intro Y2 hY2;have HY2:=hid (stp HL1.out hY2.old);clear hY2)
  | (go_at_call 17;have hq3:=HL3.out;clear hq3;refine (Tp.taped _ (HF.out.kept HL3.out)).mono ?_;rintro e w4 ⟨rfl,hb4⟩;have HL4:=hid (stp HL3.out hb4);clear hb4)
  | (go_at_call 17;refine (Tp.taped _ (HF.out.kept HY2.out)).mono ?_;rintro e w3 ⟨rfl,hb3⟩;have HL3:=hid (stp HY2.out hb3);clear hb3))
 go_ret
 exact ⟨rfl,HL4.out⟩
theorem Tp.k_counts (l1 l2:List UInt8) (l:List Inp) (f:Nat) (h1:l1.length<=1024) (h2:l2.length<=1024) (hf:f<=20) :
 (Tp.K l1 l2 l f).ln.map (fun x=>(x.f,x.l))=Tp.blks f/\(Tp.K l1 l2 l f).sm.length=40 * f/\(Tp.K l1 l2 l f).s.M.b.f=f:=by
 obtain ⟨hfit,hb,hw,hcl⟩:=newD_fit l1 l2 h1 h2
 have hbo:BOk (newD l1 l2).b.l (newD l1 l2).b.a (newD l1 l2).b.f:=by rw [hb];exact ⟨by decide,by decide,by decide,by decide,by decide,by decide⟩
 have hc:=counts_of (newD l1 l2) l (f * 640) hfit hbo (by rw [hb];decide) (by omega) (clock_at _ _)
 have hr:=clocks_runs ⟨⟨newD l1 l2,0,[]⟩,l,[],[]⟩ hbo (by show (newD l1 l2).b.f<=19000;rw [hb];decide) (f * 640) (by omega)
 refine ⟨?_,?_,?_⟩
 ·have h9:=hc.ln
  rw [hb] at h9
  rw [<- Tp.lines_frames,Nat.mul_comm 640 f]
  exact h9
 ·have h9:=hc.sm
  rw [hw] at h9
  have h8:((Tp.K l1 l2 l f).sm.length:Int)=_:=h9
  by_cases h0:f=0
  ·subst h0
   rw [if_neg (by decide)] at h8
   omega
  ·rw [if_pos (by push_cast;omega)] at h8
   push_cast at h8
   omega
 ·have h9:(Tp.K l1 l2 l f).s.M.b.f=bmF (newD l1 l2).b.l (newD l1 l2).b.a (newD l1 l2).b.f ((f * 640:Nat):Int):=hr.f
  rw [hb] at h9
  rw [h9]
  unfold bmF
  push_cast
  omega
theorem Tp.row_rw2 {w:World} {B z n:Nat} {t:TypeId} {v:Value} {xs:List Value} (h:w.ownsRow B t z v n xs):Tp.Rw w v n z xs:=by
 refine ⟨h.1,?_⟩
 by_cases h0:n=0
 ·obtain ⟨a,c,e⟩:=Tp.row_len h
  exact Or.inl ⟨h0,a,c,by rw [<- h0];exact e⟩
 ·obtain ⟨g,cap,e,h1,h2,h3⟩:=Tp.row_cells h (by omega)
  exact Or.inr ⟨g,0,cap,e,h1,h2,fun j x hj=>by rw [Nat.zero_add];exact h3 j x hj⟩
structure Tp.Cw (w w1 : World) (k : Cs) (Sx : Sl) (v1 v2 v3 : Value) (Z : World) : Prop where
 low:Below w.heap.size w Z
 r3:R3 w1 k.s.M Sx [v1,v2,v3] Z
 ln:Tp.Rw Z v1 (k.ln.map Tp.ofLin).length 18 (Tp.lncs (k.ln.map Tp.ofLin))
theorem Tp.Cw.kept {w w1:World} {k:Cs} {Sx:Sl} {v1 v2 v3:Value} {Z Z':World} (h:Tp.Cw w w1 k Sx v1 v2 v3 Z) (hb:Below Z.heap.size Z Z'):Tp.Cw w w1 k Sx v1 v2 v3 Z':=⟨stp h.low hb,h.r3.kept hb,h.ln.kept hb⟩
theorem Tp.counts_ok (l1 l2:List UInt8) (v1 v2 v:Value) (l:List Inp) (f:Nat) (w:World) (hF:Tp.F w) (h1:sliceAt w v1 l1) (h2:sliceAt w v2 l2) (hl1:l1.length<=1024) (hl2:l2.length<=1024) (hin:InpAt w.heap.size w v l) (hsh:shapesAt w) (hd:∀ x ∈ l,0<=x.d/\x.d<=255) (hf:f<=20) (hc:Go.Proofs.YtbhpfkjfijdmaaaGreatDoor.chkIn l 0=0) :
 Calls Tryz.prog 4 #[v1,v2,v,.int .i64 f] w fun e w'=>e = .returned (.bool true)/\Below w.heap.size w w':=by
 have HF:=hid hF
 have HP:=hid (Tp.play_ok l1 l2 v1 v2 v l f w h1 h2 hl1 hl2 hin hsh hd hf hc)
 obtain ⟨c1,c2,c3⟩:=Tp.k_counts l1 l2 l f hl1 hl2 hf
 have hmap:((Tp.K l1 l2 l f).ln.map Tp.ofLin).map (fun x=>(x.f,x.l))=Tp.blks f:=by
  rw [List.map_map,<- c1]
  rfl
 have hlen:(Tp.K l1 l2 l f).ln.length=8 * f:=by
  have h9:=congrArg List.length c1
  rw [List.length_map,Tp.blks_len] at h9
  exact h9
 generalize Tp.K l1 l2 l f=kk at *
 have HFI:Hid (∀ (j:Nat) (W:World) (z1 z2 z3:Value),j < f->Tp.Rw W z1 (kk.ln.map Tp.ofLin).length 18 (Tp.lncs (kk.ln.map Tp.ofLin))->Calls Tryz.prog 18 #[.agg #[z1,z2,z3],.int .i64 j] W fun e w'=>∃ u c,e = .returned (.tuple #[.slice u 8 c,.int .i64 0])/\Below W.heap.size W w'):=hid (fun j W z1 z2 z3 hj hr=>by
  have h8:=Tp.pick_in f _ hmap j hj
  refine (Tp.frame_any z1 z2 z3 _ j W hr (by rw [List.length_map];omega)).mono fun e w' ⟨u,he,hu,hb⟩=>?_
  unfold Tp.frmE at he
  unfold Tp.frmL at hu
  rw [if_pos h8] at he hu
  obtain ⟨a,c,rfl⟩:=Tp.row_len hu
  rw [h8] at he
  exact ⟨a,c,he,hb⟩)
 have HFO:Hid (∀ (W:World) (z1 z2 z3:Value),Tp.Rw W z1 (kk.ln.map Tp.ofLin).length 18 (Tp.lncs (kk.ln.map Tp.ofLin))->Calls Tryz.prog 18 #[.agg #[z1,z2,z3],.int .i64 f] W fun e w'=>∃ u,e = .returned (.tuple #[u,.int .i64 5])/\Below W.heap.size W w'):=hid (fun W z1 z2 z3 hr=>by
  have h8:=Tp.pick_out hmap
  refine (Tp.frame_any z1 z2 z3 _ f W hr (by rw [List.length_map];omega)).mono fun e w' ⟨u,he,hu,hb⟩=>?_
  unfold Tp.frmE at he
  rw [h8,if_neg (by decide)] at he
  exact ⟨u,he,hb⟩)
 have hf2:(f:Int)<=20:=by omega
 have hf3:0<=(f:Int):=by omega
 have q1:(((kk.ln.length:Nat):Int) == 8 * (f:Int))=true:=by rw [beq_iff_eq];omega
 have q2:(((kk.sm.length:Nat):Int) == 40 * (f:Int))=true:=by rw [beq_iff_eq];omega
 have q3:(kk.s.M.b.f == (f:Int))=true:=by rw [beq_iff_eq];exact c3
 clear hF h1 h2 hl1 hl2 hin hsh hd hf hc c1 c2 c3 hmap hlen
 go_enter Tryz.func4,Tryz.ntmps4
 go_wp2_with (first
  | (go_at_call 16;refine HP.out.mono ?_;rintro e w1 ⟨F,N,vln,vsm,vw,rfl,hT,hb1⟩;have HSL:=hid (isSl_of hT.sl);have HRW:=hid (Tp.row_rw2 hT.ln);obtain ⟨ta,tc,rfl⟩:=row_len hT.ln;obtain ⟨sa,sc,rfl⟩:=row_len hT.sm;obtain ⟨wa,wc,rfl⟩:=row_len hT.ws;have HL1:=hid hb1;clear hb1 hT)
  | (refine wpList_store_mid rfl 41 _ _ rfl w1.heap.size 0 (machL kk.s.M F.S).toArray rfl rfl (R3.th1 w1) info_mach (machL_one _ _ HSL.out) ?_;refine Pl.cutL (R3 w1 kk.s.M F.S nil3) (R3.mk1 w1 kk.s.M F.S) ?_;intro Y1 hY1;have HY1:=hid hY1;clear hY1)
  | (refine wpList_store_mid rfl 50 _ _ rfl (w1.heap.size+1) 0 #[.slice ta kk.ln.length tc,.slice sa kk.sm.length sc,.slice wa kk.s.l.length wc] rfl rfl (HY1.out.s.there 0 3 (by simp)) info_shown (one3 _ _ _ _ _ _ _ _ _) ?_;refine Pl.cutL (R3 w1 kk.s.M F.S [.slice ta kk.ln.length tc,.slice sa kk.sm.length sc,.slice wa kk.s.l.length wc]) HY1.out.put ?_;intro Y2 hY2;have HY2:Hid (Tp.Cw w w1 kk F.S (.slice ta kk.ln.length tc) (.slice sa kk.sm.length sc) (.slice wa kk.s.l.length wc) Y2):=hid ⟨stp HL1.out hY2.old,hY2,(by rw [List.length_map,Tp.lncs_of];exact HRW.out.kept hY2.old)⟩;clear hY2)
  | (go_at_call 17;refine (Tp.taped _ (HF.out.kept HY2.out.low)).mono ?_;rintro e w3 ⟨rfl,hb3⟩;have HY3:=hid (HY2.out.kept hb3);clear hb3))
 go_loopw [34] (fun i wr=>∃ j:Nat,j<=f/\i = .int .i64 j/\Tp.Cw w w1 kk F.S (.slice ta kk.ln.length tc) (.slice sa kk.sm.length sc) (.slice wa kk.s.l.length wc) wr) (fun i _=>f - (intOf i).toNat)
 case atStart=>exact ⟨0,Nat.zero_le _,rfl,HY3.out⟩
 case round =>
  obtain ⟨j,hj,rfl,hC⟩:=hrel
  have HC:=hid hC
  have x0:=hC.r3.s.at 0 _ rfl
  have x1:=hC.r3.s.at 1 _ rfl
  have x2:=hC.r3.s.at 2 _ rfl
  have xz:=hC.r3.s.z
  by_cases hlt:j < f
  ·have hji:(j:Int) < f:=by omega
   have hj0:(0:Int)<=j:=by omega
   clear hC
   go_wp2_with (go_at_call 18;refine (HFI.out j _ _ _ _ hlt HC.out.ln).mono ?_;rintro e w4 ⟨u,c,rfl,hb4⟩;have HC4:=hid (HC.out.kept hb4);clear hb4)
   exact ⟨⟨j+1,by omega,by simp,HC4.out⟩,by simp [intOf];omega⟩
  ·have hj2:j=f:=by omega
   subst hj2
   have hnl:¬ (j:Int) < j:=by omega
   clear hC
   go_wp2_with (go_at_call 18;refine (HFO.out _ _ _ _ HC.out.ln).mono ?_;rintro e w4 ⟨u,rfl,hb4⟩;have HC4:=hid (HC.out.kept hb4);have y0:=HC4.out.r3.s.at 0 _ rfl;have y1:=HC4.out.r3.s.at 1 _ rfl;have yz:=HC4.out.r3.s.z;have m0:=HC4.out.r3.x.at 64 (.int .i64 kk.s.M.b.f) rfl;have mz:=HC4.out.r3.x.z;clear hb4)
   go_ret
   exact ⟨rfl,HC4.out.low⟩
theorem Tp.runErr_chk {M:Mach} {l:List Inp} {n:Int} (h:runErr M l n=0):Go.Proofs.YtbhpfkjfijdmaaaGreatDoor.chkIn l M.clock=0:=by
 unfold runErr at h
 split at h
 ·split at h
  ·rename_i h2
   exact h2
  ·rename_i h2
   exact absurd h h2
 ·rename_i h1
  exact absurd h h1
theorem tapeCounts_walk:TapeCountsWalk:=by
 intro H enc W base v0 v1 v2 v3 d0 d1 d2 d3 p0 p1 p2 p3 hF k0 t0 k1 t1 k2 t2 k3 t3
 obtain ⟨a0,n0,c0,rfl⟩:=okWide_slice (t:=26) Tryz.underlying26 k0
 obtain ⟨f0,hf0⟩:=t0
 obtain ⟨l1,hv1,hl1⟩:=opn_bytes (v:=.slice a0 n0 c0) hf0
 obtain ⟨a1,n1,c1,rfl⟩:=okWide_slice (t:=26) Tryz.underlying26 k1
 obtain ⟨f1,hf1⟩:=t1
 obtain ⟨l2,hv2,hl2⟩:=opn_bytes (v:=.slice a1 n1 c1) hf1
 unfold maxLen at hl1 hl2
 obtain ⟨l,hin,hll,hlf⟩:=open_inputs k2 t2
 obtain ⟨a,rfl,_,_,wa⟩:=open_int Tryz.underlying3 k3 t3
 by_cases hc:l1.length<=1024/\l2.length<=1024
 ·by_cases hr:0<=a/\a<=20
  ·obtain ⟨f,rfl⟩:=Int.eq_ofNat_of_zero_le hr.1
   have hf:f<=20:=by omega
   by_cases he:runErr (newD l1 l2) l ((f:Int) * 640)=0
   ·have h0:=Tp.runErr_chk he
    rw [(newD_fit l1 l2 hc.1 hc.2).2.2.2] at h0
    exact Tp.counts_ok l1 l2 _ _ v2 l f W hF.1 hv1 hv2 hc.1 hc.2 hin hF.2 (fun x hx=>(hlf x hx).d) hf h0
   ·exact Tp.counts_bad _ _ v2 _ _ W hF.1 (Tp.play_err l1 l2 _ _ v2 l f W hv1 hv2 hc.1 hc.2 hin hf he) he
  ·exact Tp.counts_bad _ _ v2 _ _ W hF.1 (Tp.play_range l1 l2 _ _ v2 l a W hv1 hv2 hc.1 hc.2 hin (by omega)) (by decide)
 ·exact Tp.counts_bad _ _ v2 _ _ W hF.1 (Tp.play_bad l1 l2 _ _ v2 a W hv1 hv2 (by omega) (by omega) hc) (by decide)
theorem tapeCounts_holds:Rows.TapeCountsCardSaid:=tapeCounts_card tapeCounts_walk
end Go.Proofs.YtbhpfkjfijdmaaaGreatDoor
