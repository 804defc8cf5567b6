/-
  Parts of a proof, joined.
-/
import Derived.Test.YtbennamieealbaaGreatDoorZc05
import Derived.Deep.RegionHeld3
import Derived.Deep.QuietTactic
import Derived.BigQuiet
import Derived.Defers
import Derived.Recover
import Derived.Laws.Pointers
import Derived.Shelf.LaysM
import Derived.Shelf.LaysC
import Derived.Shelf.Bytes.SlSearch0
import Derived.Test.YtbennamieealbaaGreatDoorProg
import Derived.Laws.BytesArg
import Derived.Test.YtbennamieealbaaGreatDoorZc00
import Derived.Lib.LaidTab
import Derived.Test.YtbennamieealbaaGreatDoorChecked
import GoSem.PinnedTables
import GoSem.Claim
import GoSem.ClaimJoined
import GoSem.ClaimMapViews
import Derived.JoinedTies
import Derived.KernelRfl
import Derived.WalkKit
import Derived.ProofKit
import Derived.OpenShut
import Derived.WalkSpells
import Derived.Outline
import Derived.Below
import Derived.Deep.Strs
import Derived.Laws.StructEq
import Derived.Deep.MidRow
import Derived.Deep.Fields
import Derived.Lib.Builder
import Derived.Deep.RegionWith
import Derived.Test.YtbennamieealbaaGreatDoorZc01
set_option linter.unusedVariables false
set_option maxRecDepth 100000
set_option maxHeartbeats 1600000
namespace Go.Proofs.YtbennamieealbaaGreatDoor
open Go.ChangeShapes Go.WideShapes Go.ChangeAt Go.RowKit
/-! ### what holds of what a reader has read -/
def Inv (st:S.St):Prop:=st.rom.length<=1024/\(∀ u∈st.uses,u.2.1+2<=st.rom.length) /\ ∀ p∈st.places,p.2<=1024
theorem zkN {ws:List Int} {nm:S.By} {ln:Nat} {st st':S.St} (hi:Inv st) (h0:0<ws.length) (h:S.put ws nm ln st = .ok st'):Inv st':=by
 obtain ⟨hm,rfl⟩:=zfA h
 obtain ⟨i1,i2,i3⟩:=hi
 refine ⟨by simp [zba];exact hm,λu hu=>?_,i3⟩
 simp only [List.length_append,zba] at hu ⊢
 split at hu
 ·have:=i2 u hu;omega
 ·rcases List.mem_append.1 hu with hu|hu
  ·have:=i2 u hu;omega
  ·simp at hu;subst hu;simp only;omega
theorem znF {l:S.By} {ln:Nat} {st st':S.St} (hi:Inv st) (h:S.readLine l ln st = .ok st'):Inv st':=by
 unfold S.readLine at h
 split at h
 ·obtain ⟨_,_,rfl⟩:=zdG h
  obtain ⟨i1,i2,i3⟩:=hi
  refine ⟨i1,i2,λp hp=>?_⟩
  rcases List.mem_append.1 hp with hp|hp
  ·exact i3 p hp
  ·simp at hp;subst hp;exact i1
 ·split at h
  ·match hp:S.partsOf (Lib.cut l [32]).2.1,h with
   | [p],h=>obtain ⟨v,nm,_,_,_,hput⟩:=zfB h;exact zkN hi (by simp) hput
   | [],h=>cases h
   | _::_::_,h=>cases h
  ·obtain ⟨k,o,nm,_,_,_,_,_,_,hput⟩:=zcG h
   exact zkN hi (zg1 k o) hput
theorem zg6:∀ (f:Nat) (s:S.By) (ln:Nat) (st stF:S.St),Inv st->S.readLines f s ln st = .ok stF->Inv stF
 | 0,s,ln,st,stF,hi,h=>by cases h;exact hi
 | f+1,s,ln,st,stF,hi,h=>by
  by_cases hs:s=[]
  ·subst hs;rw [S.readLines_nil] at h;cases h;exact hi
  ·obtain ⟨_,st',hl,hn⟩:=zdH hs h
   exact zg6 f _ _ _ _ (znF hi hl) hn
theorem znG:Inv S.St.zero:=⟨by simp [S.St.zero],by simp [S.St.zero],by simp [S.St.zero]⟩
section
variable {w : World} {B b mo mp : Nat} {ua : Option Addr} {uc rc rg : Nat} {st : S.St} {ln : Nat}
theorem Rd.set_rom (h:Rd w B b mo mp ua uc (some ⟨rg,0,none⟩) rc st ln) (i:Nat) (x:UInt8):Rd (w.setCell ⟨rg,i,none⟩ (.int .u8 x.toNat)) B b mo mp ua uc (some ⟨rg,0,none⟩) rc { st with rom:=st.rom.set i x } ln:=by
 obtain ⟨hs,hg⟩:=h.rom.stored i (.int .u8 x.toNat)
 have hb:(Value.slice (some ⟨rg,0,none⟩) st.rom.length rc).ownBlock=some rg:=rfl
 refine ⟨h.hB,?_,h.ops.of_block (zaA hg h.ops.lt (λe=>h.rom_mo (hb.trans e.symm))),h.places.of_block (zaA hg h.places.lt (λe=>h.rom_mp (hb.trans e.symm))),h.hmp,h.ne,h.uses.kept hg (h.rows.imp id (λhh=>by rw [hb] at hh;exact hh)),?_⟩
 ·simp only [List.length_set]
  exact (zaA hg h.lt (λe=>h.rom_b (hb.trans e.symm))).trans h.blk
 ·simp only [List.length_set]
  have e:Lib.byteCells (st.rom.set i x)=(Lib.byteCells st.rom).set i (.int .u8 x.toNat):=by unfold Lib.byteCells;rw [List.map_set]
  rw [e];exact hs
theorem Rd.rg_ne (h:Rd w B b mo mp ua uc (some ⟨rg,0,none⟩) rc st ln):rg≠b/\rg<w.heap.size/\B<=rg:=by
 have h1:=h.rom_b
 have h2:=h.rom.lt rg rfl
 exact ⟨λe=>h1 (by rw [e];rfl),h2.2,h2.1⟩
end
theorem zdI:∀ (us:List (S.By × Nat × Nat)) (j:Nat) (u:S.By × Nat × Nat),us[j]? = some u->(useCells us)[j*3]? = some (.string (Asmk u.1))/\(useCells us)[j*3+1]? = some (.int .i64 u.2.1)/\(useCells us)[j*3+2]? = some (.int .i64 u.2.2)
 | [],j,u,h=>by simp at h
 | v::us,0,u,h=>by simp at h;subst h;exact ⟨rfl,rfl,rfl⟩
 | v::us,j+1,u,h=>by
  have ih:=zdI us j u (by simpa using h)
  rw [show (j+1)*3=j*3+3 by omega,show j*3+3+1=(j*3+1)+3 by omega,show j*3+3+2=(j*3+2)+3 by omega]
  exact ih
theorem zia (w:World) (B b mo mp:Nat) (ua ra:Option Addr) (uc rc:Nat) (st:S.St) (ln:Nat) (hR:Rd w B b mo mp ua uc ra rc st ln) (hu:st.uses=[]) :
 Calls Tryz.prog 85 #[.pointer (some ⟨b,0,none⟩)] w λe w'=>e = .returned (.tuple #[])/\w'=w:=by
 have c2:w.cell? ⟨b,2,none⟩=some (.slice ua 0 uc):=by have:=hR.cell 2;rw [hu] at this;exact this
 have hlt:=hR.lt
 clear hR
 go_enter Tryz.func85,Tryz.ntmps85
 go_wp2
 go_loop [11] (λi=>i = .int .i64 0) (λ_=>0)
 case atStart=>rfl
 case round =>
  subst hrel
  go_wp2
  go_end0
  exact ⟨rfl,rfl⟩
theorem zg7 {w:World} {mp:Nat} {ps:List (S.By × Nat)} (h:mapS w mp (pl ps)) (c:S.By) (p:S.By × Nat) (hf:ps.find? (λp=>p.1 == c)=some p):(Instr.lookup 174 (.map (some mp)) (.string (Asmk c)) true).run Tryz.prog w = .ok (.tuple #[.int .i64 p.2,.bool true]) w:=by
 have:=zfy (P:=Tryz.prog) Tryz.underlying174 Tryz.underlying9 h (Asmk c) (zfC w)
 rw [zkK,bs_mk,hf] at this
 exact this
theorem zpY {ps:List (S.By × Nat)} {u:S.By × Nat × Nat} {us:List (S.By × Nat × Nat)} {rom romF:S.By} (h:S.lay ps (u::us) rom = .ok romF):∃ p,ps.find? (λp=>p.1 == u.1)=some p/\S.lay ps us ((rom.set u.2.1 (UInt8.ofNat (p.2/256))).set (u.2.1+1) (UInt8.ofNat (p.2%256))) = .ok romF:=by
 unfold S.lay at h
 split at h
 ·cases h
 ·rename_i p hp
  exact ⟨p,hp,h⟩
theorem zib (w:World) (B b mo mp ug uc rg rc:Nat) (st:S.St) (ln:Nat) (hR:Rd w B b mo mp (some ⟨ug,0,none⟩) uc (some ⟨rg,0,none⟩) rc st ln) (hu:0<st.uses.length) (hul:st.uses.length<=100000) (hi:Inv st) (romF:S.By) (hS:S.lay st.places st.uses st.rom = .ok romF) (hBw:B<=w.heap.size) :
 Calls Tryz.prog 85 #[.pointer (some ⟨b,0,none⟩)] w λe w'=>e = .returned (.tuple #[])/\Rd w' B b mo mp (some ⟨ug,0,none⟩) uc (some ⟨rg,0,none⟩) rc { st with rom:=romF } ln/\Below B w w':=by
 have c2:w.cell? ⟨b,2,none⟩=some (.slice (some ⟨ug,0,none⟩) st.uses.length uc):=hR.cell 2
 have hlt:=hR.lt
 have hBb:=hR.hB
 have HR:=hid hR
 have HS:=hid hS
 have HI:=hid hi
 clear hR hS hi
 go_enter Tryz.func85,Tryz.ntmps85
 go_wp2
 go_loopw [11] (λi wr=>∃ (j:Nat) (rom:S.By),j<=st.uses.length/\i = .int .i64 j/\rom.length=st.rom.length/\S.lay st.places (st.uses.drop j) rom = .ok romF/\Rd wr B b mo mp (some ⟨ug,0,none⟩) uc (some ⟨rg,0,none⟩) rc { st with rom:=rom } ln/\Below B w wr) (λi _=>st.uses.length-(intOf i).toNat)
 case atStart=>exact ⟨0,st.rom,by omega,rfl,rfl,HS.out,HR.out,Below.refl _ _⟩
 case round =>
  obtain ⟨j,rom,hj,rfl,hrl,hlay,hR1,hbl⟩:=hrel
  have hszr:=Nat.le_trans hBw hbl.size
  by_cases hlt2:j<st.uses.length
  ·have hjI:(j:Int)<st.uses.length:=by omega
   obtain ⟨u,huj⟩:∃ u,st.uses[j]? = some u:=⟨_,List.getElem?_eq_getElem hlt2⟩
   rw [drop_at huj] at hlay
   obtain ⟨p,hfp,hnext⟩:=zpY hlay
   obtain ⟨nm,at',ul⟩:=u
   obtain ⟨pn,pv⟩:=p
   obtain ⟨i1,i2,i3⟩:=HI.out
   have hat:=i2 _ (List.mem_of_getElem? huj)
   have hpv:=i3 _ (List.mem_of_find?_eq_some hfp)
   simp only at hat hpv hnext hfp
   obtain ⟨k0,k1,k2⟩:=zdI _ _ _ huj
   have hug:=hR1.uses.lt ug rfl
   have u0:wr.cell? ⟨ug,j*3,none⟩=some (.string (Asmk nm)):=by rw [hR1.uses.cellAt (j*3) (by simp only;omega)];exact k0
   have u1':wr.cell? ⟨ug,j*3+1,none⟩=some (.int .i64 at'):=by rw [hR1.uses.cellAt (j*3+1) (by simp only;omega)];exact k1
   have u2':wr.cell? ⟨ug,j*3+2,none⟩=some (.int .i64 ul):=by rw [hR1.uses.cellAt (j*3+2) (by simp only;omega)];exact k2
   have hugr:ug<wr.heap.size:=hug.2
   have c1:wr.cell? ⟨b,1,none⟩=some (.map (some mp)):=hR1.cell 1
   have c3:wr.cell? ⟨b,3,none⟩=some (.slice (some ⟨rg,0,none⟩) st.rom.length rc):=by have:=hR1.cell 3;simp only [hrl] at this;exact this
   have hbr:=hR1.lt
   obtain ⟨hgb,hgl,hgB⟩:=hR1.rg_ne
   have hRa:=hid (hR1.kept (stA (st0 wr) (.cells #[.string (Asmk nm),.int .i64 at',.int .i64 ul] 254)))
   have hlk:∀ q,(Instr.lookup 174 (.map (some mp)) (.string (Asmk nm)) true).run Tryz.prog ((wr.alloc (.cells #[.string (Asmk nm),.int .i64 at',.int .i64 ul] 254)).drewN q) = .ok (.tuple #[.int .i64 pv,.bool true]) ((wr.alloc (.cells #[.string (Asmk nm),.int .i64 at',.int .i64 ul] 254)).drewN q):=λq =>
    zg7 ((hRa.out.kept (zdy (st0 _) q)).places) nm (pn,pv) hfp
   have HN:=hid hnext
   have HFP:=hid hfp
   have HRr:=hid hR1
   have hr1:st.rom.length<=1024:=i1
   clear hlay hnext hfp huj k0 k1 k2 i1 i2 i3 hR1
   have hatI:(at':Int)<st.rom.length:=by omega
   have hatJ:(at':Int)+1<st.rom.length:=by omega
   have hatK:(0:Int)<=(at':Int)+1:=by omega
   have hatL:(0:Int)<=(at':Int):=by omega
   have hn1:rg≠wr.heap.size:=by omega
   obtain ⟨va,da⟩:∃ v,wr.cell? ⟨rg,at',none⟩=some v:=⟨_,(HRr.out.rom.cellAt at' (by simp only;omega)).trans (List.getElem?_eq_getElem (by rw [zcD];simp only;omega))⟩
   obtain ⟨vb,db⟩:∃ v,wr.cell? ⟨rg,at'+1,none⟩=some v:=⟨_,(HRr.out.rom.cellAt (at'+1) (by simp only;omega)).trans (List.getElem?_eq_getElem (by rw [zcD];simp only;omega))⟩
   have fa:wr.frozen? ⟨rg,at',none⟩=false:=HRr.out.rom.frozenAt at'
   have fb:wr.frozen? ⟨rg,at'+1,none⟩=false:=HRr.out.rom.frozenAt (at'+1)
   have hpvI:(pv:Int)<=65535:=by omega
   have hwp:IntKind.u16.wrap (pv:Int)=pv:=by rw [IntKind.wrap_u16];omega
   have hwa:IntKind.i64.wrap ((at':Int)+1)=(at':Int)+1:=by rw [IntKind.wrap_i64];omega
   go_wp2
   go_quiet (fail)
   go_wp2
   go_region_held3 (λw'=>w'.cell? ⟨b,3,none⟩=some (.slice (some ⟨rg,0,none⟩) st.rom.length rc)/\w'.cell? ⟨wr.heap.size,1,none⟩=some (.int .i64 at'))
    (first
      | go_keep
      | (go_split_ands
         refine ⟨?_,?_⟩
         ·(rw [World.cell?_setCell_other _ _ _ _ (by simp;omega)];assumption)
         ·(rw [World.cell?_setCell_other _ _ _ _ (by simp;omega)];assumption)))
    ((go_at_call 159;refine (zeY pv _ (by omega) (by omega)).mono ?_;rintro e w' ⟨rfl,rfl⟩))
   go_wp2
   have e1:(.int .u8 ((pv:Int)/256):Value) = .int .u8 ((UInt8.ofNat (pv/256)).toNat:Nat):=by rw [show (UInt8.ofNat (pv/256)).toNat=pv/256 by simp;omega];rfl
   have e2:(.int .u8 ((pv:Int)%256):Value) = .int .u8 ((UInt8.ofNat (pv%256)).toNat:Nat):=by rw [show (UInt8.ofNat (pv%256)).toNat=pv%256 by simp];rfl
   rw [e1,e2]
   refine ⟨⟨j+1,(rom.set at' (UInt8.ofNat (pv/256))).set (at'+1) (UInt8.ofNat (pv%256)),by omega,by simp,by simp [hrl],HN.out,((hRa.out.kept (zdy (st0 _) (nq+1))).set_rom at' _).set_rom (at'+1) _,?_⟩,by simp [intOf];omega⟩
   have hd:Below B w ((wr.alloc (.cells #[.string (Asmk nm),.int .i64 at',.int .i64 ul] 254)).drewN (nq+1)):=(hbl.alloc hszr _).trans (bB (by simp;omega) (zdy (st0 _) (nq+1)))
   exact (hd.setCell hgB _).setCell hgB _
  ·have hjn:j=st.uses.length:=by omega
   subst hjn
   rw [List.drop_length] at hlay
   cases hlay
   go_wp2
   go_end0
   exact ⟨rfl,hR1,hbl⟩
theorem zg8 (w:World) (B b mo mp:Nat) (ua ra:Option Addr) (uc rc:Nat) (st:S.St) (ln:Nat) (hR:Rd w B b mo mp ua uc ra rc st ln) (hul:st.uses.length<=100000) (hi:Inv st) (romF:S.By) (hS:S.lay st.places st.uses st.rom = .ok romF) (hBw:B<=w.heap.size) :
 Calls Tryz.prog 85 #[.pointer (some ⟨b,0,none⟩)] w λe w'=>e = .returned (.tuple #[])/\Rd w' B b mo mp ua uc ra rc { st with rom:=romF } ln/\Below B w w':=by
 by_cases hu:st.uses=[]
 ·rw [hu] at hS
  cases hS
  exact (zia w B b mo mp ua ra uc rc st ln hR hu).mono λe w' hh=>⟨hh.1,hh.2 ▸ hR,hh.2 ▸ Below.refl _ _⟩
 ·have hup:0<st.uses.length:=by cases h:st.uses <;> simp_all
  obtain ⟨u,hu0⟩:∃ u,u∈st.uses:=by cases h:st.uses with
   | nil=>exact absurd h hu
   | cons a l=>exact ⟨a,by simp⟩
  have hrl:=hi.2.1 u hu0
  have hua:∃ ug,ua=some ⟨ug,0,none⟩:=by
   rcases hR.uses.2 with ⟨h,h0⟩|⟨g,cap,cur,h,_⟩
   ·omega
   ·exact ⟨g,by injection h⟩
  have hra:∃ rg,ra=some ⟨rg,0,none⟩:=by
   rcases hR.rom.2 with ⟨h,h0⟩|⟨g,cap,cur,h,_⟩
   ·omega
   ·exact ⟨g,by injection h⟩
  obtain ⟨ug,rfl⟩:=hua
  obtain ⟨rg,rfl⟩:=hra
  exact zib w B b mo mp ug uc rg rc st ln hR hup hul hi romF hS hBw
theorem zjA (p q r:Option Addr) (w:World) :
 CallsD Tryz.prog 82 #[.pointer p,.pointer q,.pointer r] .returning w λe u' w'=>e = .returned (.tuple #[])/\u' = .returning/\w'=w:=by
 refine callsD_of_wpS Tryz.func82 rfl λc₀ cs hu=>?_
 apply wpS_seq
 apply wpS_region
 simp [wpOpsS,go_sem,recoverD,hu,Tryz.ntmps82,Exit.thenS]
 apply wpS_seq
 apply wpS_seq
 apply wpS_region
 simp [wpOpsS,go_sem,Exit.thenS]
 refine wpS_cond (t:=true) (by simp [Act.eval,Array.replicate]) ?_
 simp only [if_true]
 refine wpS_of_wp (wp_ret ?_)
 cases c₀
 simp_all [Exit.thenS,bodyPostS,results,Tryz.results82]
theorem zic {w:World} {B:Nat} {ra:Option Addr} {rc:Nat} {rom:S.By} (h:w.ownsRow B 5 1 (.slice ra rom.length rc) rom.length (Lib.byteCells rom)):AssliceAt w (.slice ra rom.length rc) rom:=by
 by_cases h0:rom.length=0
 ·have:rom=[]:=List.length_eq_zero_iff.1 h0
  subst this
  exact Or.inl ⟨ra,rc,rfl,rfl⟩
 ·obtain ⟨g,cap,hv,_,hg,hc,hcell⟩:=zdE h (by omega)
  injection hv with h1 h2 h3
  subst h1;subst h3
  refine Or.inr ⟨g,0,rc,rfl,hc,hg,λj c hj=>?_⟩
  rw [Nat.zero_add,hcell j (List.getElem?_eq_some_iff.1 hj).1]
  unfold Lib.byteCells
  rw [List.getElem?_map,hj];rfl
theorem zpZ (w1:World) (B:Nat) (hm:mapS w1 B (opsTo 32)) (hB:B<=w1.heap.size) :
 Rd ((w1.alloc (.map #[] 0)).alloc (.cells #[.map (some B),.map (some w1.heap.size),.slice none 0 0,.slice none 0 0,.int .i64 0] 178)) B (w1.heap.size+1) B w1.heap.size none 0 none 0 S.St.zero 0:=by
 have hlt:=hm.lt
 have h1:(w1.alloc (.map #[] 0)).heap.size=w1.heap.size+1:=by simp
 refine ⟨by omega,?_,?_,?_,hB,by omega,⟨rfl,Or.inl ⟨rfl,rfl⟩⟩,⟨rfl,Or.inl ⟨rfl,rfl⟩⟩⟩
 ·rw [<- h1];exact heap_alloc_new _ _
 ·exact hm.of_block ((heap_alloc_old _ _ (by omega)).trans (heap_alloc_old _ _ hlt))
 ·exact (zgW w1).of_block (heap_alloc_old _ _ (by omega))
theorem ze0:∀ (f:Nat) (s:S.By) (ln:Nat) (st stF:S.St),s.length<=f->S.readLines f s ln st = .ok stF->stF.uses.length<=st.uses.length+s.length
 | 0,s,ln,st,stF,hf,h=>by cases h;omega
 | f+1,s,ln,st,stF,hf,h=>by
  by_cases hs:s=[]
  ·subst hs;rw [S.readLines_nil] at h;cases h;omega
  ·obtain ⟨hc,st',hl,hn⟩:=zdH hs h
   have h1:=zi1 s hs hc
   have h2:=ze0 f _ _ _ _ (by omega) hn
   have h3:=zg4 hl
   omega
theorem zes (w1:World) (B:Nat) (hm:mapS w1 B (opsTo 32)) (hB:B<=w1.heap.size) (s:S.By) (hl:s.length<=4000) (stF:S.St) (hS:S.readLines s.length s 0 S.St.zero = .ok stF) (hF:∀ w',Below B w1 w'->AF w') :
 Calls Tryz.prog 84 #[.pointer (some ⟨w1.heap.size+1,0,none⟩),.string (Asmk s)] ((w1.alloc (.map #[] 0)).alloc (.cells #[.map (some B),.map (some w1.heap.size),.slice none 0 0,.slice none 0 0,.int .i64 0] 178)) λe w' =>
  e = .returned (.tuple #[])/\(∃ lnF ua' uc' ra' rc',Rd w' B (w1.heap.size+1) B w1.heap.size ua' uc' ra' rc' stF lnF)/\Below B w1 w':=by
 have h0:Below B w1 ((w1.alloc (.map #[] 0)).alloc (.cells #[.map (some B),.map (some w1.heap.size),.slice none 0 0,.slice none 0 0,.int .i64 0] 178)):=((Below.refl B w1).alloc hB _).alloc (by simp;omega) _
 exact (zg5 _ B (w1.heap.size+1) B w1.heap.size none none 0 0 S.St.zero stF (zpZ w1 B hm hB) rfl s hl hS (by simp;omega) (hF _ h0) (hid (λw' hb=>hF w' (h0.trans hb)))).mono λe w' ⟨he,h1,h2⟩=>⟨he,h1,h0.trans h2⟩
theorem zkO {w w3:World} {o1 o2 o3:Value} {t1 t2 t3:TypeId} (h:Below (w.heap.size+1+1+1) (((w.alloc (.cells #[o1] t1)).alloc (.cells #[o2] t2)).alloc (.cells #[o3] t3)) w3) :
 (w3.heap[w.heap.size]? = some (.cells #[o1] t1 (0,0))/\w3.heap[w.heap.size+1]? = some (.cells #[o2] t2 (0,0))/\w3.heap[w.heap.size+1+1]? = some (.cells #[o3] t3 (0,0)))/\w.heap.size+1+1+1<=w3.heap.size:=by
 have s1:(w.alloc (.cells #[o1] t1)).heap.size=w.heap.size+1:=by simp
 have s2:((w.alloc (.cells #[o1] t1)).alloc (.cells #[o2] t2)).heap.size=w.heap.size+1+1:=by simp
 refine ⟨⟨?_,?_,?_⟩,by have:=h.size;simp at this;omega⟩
 ·rw [h.block _ (by omega),heap_alloc_old _ _ (by omega),heap_alloc_old _ _ (by omega)];exact heap_alloc_new _ _
 ·rw [h.block _ (by omega),heap_alloc_old _ _ (by omega),<- s1];exact heap_alloc_new _ _
 ·rw [h.block _ (by omega),<- s2];exact heap_alloc_new _ _
theorem zid (s:S.By) (hl:s.length<=4000) (stF:S.St) (romF:S.By) (hS:S.readLines s.length s 0 S.St.zero = .ok stF) (hL:S.lay stF.places stF.uses stF.rom = .ok romF) (w:World) (hF:AF w) :
 Calls Tryz.prog 50 #[.string (Asmk s)] w λe w'=>∃ v,e = .returned (.tuple #[v,.int .i64 0,.int .i64 0])/\AssliceAt w' v romF/\Below w.heap.size w w':=by
 have hmf:∀ (fn:Fn) (first cap:Array Value) (w:World),(Instr.makeFunc fn first cap).run Tryz.prog w = .ok (.func fn first cap) w:=λ_ _ _ _=>rfl
 have hmm:=@run_makeMap Tryz.prog
 have hul:stF.uses.length<=100000:=by have:=ze0 _ _ _ _ _ (Nat.le_refl _) hS;simp [S.St.zero] at this;omega
 have HI:=hid (zg6 _ _ _ _ _ znG hS)
 have HF:=hid hF
 have HS:=hid hS
 have HL:=hid hL
 have hB3:Hid (Below w.heap.size w (((w.alloc (.cells #[.slice none 0 0] 26)).alloc (.cells #[.int .i64 0] 3)).alloc (.cells #[.int .i64 0] 44))):=stA (stA (stA (st0 w) _) _) _
 have hsz:Hid ((((w.alloc (.cells #[.slice none 0 0] 26)).alloc (.cells #[.int .i64 0] 3)).alloc (.cells #[.int .i64 0] 44)).heap.size=w.heap.size+1+1+1):=by show _=_;simp
 clear hF hS hL
 go_enter_defers Tryz.func50,Tryz.ntmps50
 go_wp2_with (first
  | (go_at_call 83;refine (zfz _ (zdx (zdx (zdx HF.out _) _) _).shapes).mono ?_;rintro e w1 ⟨rfl,hm1,hb1⟩;rw [hsz.out] at hm1 hb1;have hz1:=hm1.lt)
  | (go_at_call 84;refine (zes w1 (w.heap.size+1+1+1) hm1 (Nat.le_of_lt hz1) s hl stF HS.out (λw' hb=>HF.out.kept (hB3.out.trans ((hb1.trans hb).mono (Nat.le_add_right _ 3))))).mono ?_;rintro e w2 ⟨rfl,⟨lnF,ua,uc,ra,rc,hR2⟩,hb2⟩)
  | (go_at_call 85;refine (zg8 w2 _ _ _ _ ua ra uc rc stF lnF hR2 hul HI.out romF HL.out (Nat.le_trans (Nat.le_of_lt hz1) hb2.size)).mono ?_;rintro e w3 ⟨rfl,hR3,hb3⟩;have hbb:=(hb1.trans hb2).trans hb3;obtain ⟨⟨k1,k2,k3⟩,hz3⟩:=zkO hbb;have c3:w3.cell? ⟨w1.heap.size+1,3,none⟩=some (.slice ra romF.length rc):=hR3.cell 3;have z3:=hR3.lt;have d1:w3.cell? ⟨w.heap.size,0,none⟩=some (.slice none 0 0):=Lib.cell_of_heap k1 0;have d2:w3.cell? ⟨w.heap.size+1,0,none⟩=some (.int .i64 0):=Lib.cell_of_heap k2 0;have d3:w3.cell? ⟨w.heap.size+1+1,0,none⟩=some (.int .i64 0):=Lib.cell_of_heap k3 0;have f1:=Lib.frozen_of_heap k1 0;have f2:=Lib.frozen_of_heap k2 0;have f3:=Lib.frozen_of_heap k3 0;have HR3:=hid hR3;clear hR3 hR2 k1 k2 k3))
 refine leaves_cons (f:=82) (args:=#[.pointer (some ⟨w.heap.size,0,none⟩),.pointer (some ⟨w.heap.size+1,0,none⟩),.pointer (some ⟨w.heap.size+1+1,0,none⟩)]) (by simp) (by simp [go_sem]) ?_
 refine (zjA _ _ _ _).mono ?_
 rintro e u' w'' ⟨rfl,rfl,rfl⟩
 simp [Leaves,settle,results,Tryz.results50,go_sem,d1,d2,d3]
 have hrow:=HR3.out.rom
 have hlt:=λk hk=>(hrow.lt k hk).1
 have hne:∀ i,i<w.heap.size+1+1+1->(Value.slice ra romF.length rc).ownBlock≠some i:=λi hi h=>by have:=hlt i h;omega
 refine ⟨zic (((hrow.kept (zbM _ _ _ _) (Or.inr (hne _ (by omega)))).kept (zbM _ _ _ _) (Or.inr (hne _ (by omega)))).kept (zbM _ _ _ _) (Or.inr (hne _ (by omega)))),?_⟩
 exact (((hB3.out.trans (hbb.mono (by omega))).setCell (Nat.le_refl _) _).setCell (by simp) _).setCell (by simp;omega) _
theorem znH {s rom:S.By} (h:S.readText s = .ok rom):∃ stF,S.readLines s.length s 0 S.St.zero = .ok stF/\S.lay stF.places stF.uses stF.rom = .ok rom:=by
 unfold S.readText at h
 split at h
 ·rename_i st hst
  exact ⟨st,hst,h⟩
 ·cases h
theorem zie (s:S.By) (w:World):Calls Tryz.prog 49 #[.string (Asmk s),.string ⟨#[10]⟩] w λe w'=>e = .returned (.int .i64 (s.count 10:Nat))/\w=w' :=
 (Tryz.strings_Count_one (Asmk s) 10 w).mono λe w' hh=>⟨hh.1,hh.2.symm⟩
theorem znI (s rom:S.By) (hl:s.length<=4000) (hc:s.count 10<=300) (hS:S.readText s = .ok rom) (w:World) (hF:AF w) :
 Calls Tryz.prog 24 #[.string (Asmk s)] w λe w'=>∃ v,e = .returned (.tuple #[v,.int .i64 0,.int .i64 0])/\AssliceAt w' v rom/\Below w.heap.size w w':=by
 obtain ⟨stF,h1,h2⟩:=znH hS
 have HT:=hid (zid s hl stF rom h1 h2 w hF)
 have hl1:¬ (4000:Int)<(Asmk s).size:=by rw [zcs];omega
 have hc1:¬ (300:Int)<(s.count 10:Nat):=by omega
 clear hF hS h1 h2
 go_enter Tryz.func24,Tryz.ntmps24
 go_wp2_with (first
  | (go_at_call 49;refine (zie s _).mono ?_;rintro e w' ⟨rfl,rfl⟩)
  | (go_at_call 50;refine HT.out.mono ?_;rintro e w1 ⟨v,rfl,hv,hb1⟩))
 go_ret3
 exact ⟨v,rfl,hv,hb1⟩
/-! ### bytes -/
/-! ### the closed fact -/
theorem zif {W:World} {l:List (String × DataW Unit)} (h:laidMet Tryz.prog l W) (hm:("internal/strconv.uint64pow10",Rows.laid_internal_strconv_uint64pow10)∈l) :
 Lib.TabIs Tryz.prog W "internal/strconv.uint64pow10" .u64 Lib.pow10Tab:=by
 obtain ⟨g,t,cs,fuel,p,hg,ht,hv,hd⟩:=Lib.laidMet.reads h hm
 have e2:(Tryz.prog.globals[8]?).map (·.type)=some 428:=by kernel_rfl
 obtain rfl:=Option.some.inj (g_pow.symm.trans hg)
 obtain rfl:=Option.some.inj (e2.symm.trans ht)
 have e3:(Rows.laid_internal_strconv_uint64pow10:DataW Unit)=Lib.tabData .u64 Lib.pow10Tab:=by kernel_rfl
 rw [e3] at hd
 unfold Lib.TabIs
 rw [hv,<- Lib.cells_of_tab Tryz.underlying428 Tryz.underlying365 (by kernel_rfl) (by kernel_rfl) hd]
theorem af_of {W:World} {l:List (String × DataW Unit)} (h:laidMet Tryz.prog l W) (hs:W.ShapedOpen Tryz.prog) (h1:("internal/strconv.uint64pow10",Rows.laid_internal_strconv_uint64pow10)∈l) (h2:("marquee/order.shapes",Rows.laid_marquee_order_shapes)∈l):AF W :=
 ⟨zif h h1,zh2 hs,zem h h2⟩
end Go.Proofs.YtbennamieealbaaGreatDoor
namespace Go.Proofs.YtbennamieealbaaGreatDoor
open Go.ChangeShapes Go.WideShapes Go.ChangeAt Go.RowKit
open Go
section
variable {P : Program} {ops : Array Oper} {Q : Exit -> Act -> World -> Prop} {md : Region.Mode} {S : World -> Prop} {st : Nat}
def wpAnyG (P:Program) (md:Region.Mode) (ops:Array Oper) (Q:Exit->Act->World->Prop) (S:World->Prop) (st:Nat):Nat->Array Bool->Act->World->Prop
 | 0,listed,a,w=>Region.ready md ops listed=[]/\Q .normal a w
 | fuel+1,listed,a,w =>
  (Region.ready md ops listed=[]->Q .normal a w) /\
  ∀ i∈Region.ready md ops listed,wpOp P ops Q i (λa' w'=>((listed.setIfInBounds i true).getD st true=false->S w')/\wpAnyG P md ops Q S st fuel (listed.setIfInBounds i true) a' w') a w
theorem ze1:∀ (fuel:Nat) (listed:Array Bool) (a:Act) (w:World),wpAnyG P md ops Q S st fuel listed a w->wpAny P md ops Q fuel listed a w
 | 0,_,_,_,h=>h
 | fuel+1,_,_,_,h=>⟨h.1,λi hi=>wpOp_mono (λa' w' h'=>ze1 fuel _ a' w' h'.2) (h.2 i hi)⟩
def waits (md:Region.Mode) (ops:Array Oper) (st i:Nat):Bool :=
 match ops[st]? with
 | some o=>o.after.toList.any λe=>Region.binds md e && e.on == i
 | none=>false
theorem zc3 {i:Nat} (h:waits md ops st i=true):∃ os,ops[st]? = some os /\ ∃ e∈os.after,Region.binds md e=true/\e.on=i:=by
 unfold waits at h
 cases hs:ops[st]? with
 | none=>rw [hs] at h;cases h
 | some os =>
  rw [hs] at h
  obtain ⟨e,he,h2⟩:=List.any_eq_true.1 h
  simp only [Bool.and_eq_true,beq_iff_eq] at h2
  exact ⟨os,rfl,e,by simpa using he,h2.1,h2.2⟩
theorem zhq {i:Nat} {oi:Oper} {v:Value} (hi:ops[i]? = some oi) (hsel:∀ (j:Nat) (o:Oper) cs b,ops[j]? = some o->o.op ≠ .select cs b)
 (hQ:∀ c a w,Q (.panic c) (a.put oi.dst v) w->Q (.panic c) a w) (hw:waits md ops st i=true) (hsi:st≠i) :
 ∀ (fuel:Nat) (listed:Array Bool) (a:Act) (w:World),
  (∀ j oj,ops[j]? = some oj->j≠i->listed.getD j true=false->(∀ e∈oj.after,Region.binds md e=true->e.on≠i)->oi.apart ops oj=true) ->
  i∈Region.ready md ops listed->YieldsIf P ops S oi v a->S w->listed.getD st true=false ->
  wpAnyG P md ops Q S st fuel (listed.setIfInBounds i true) (a.put oi.dst v) w->wpAnyG P md ops Q S st (fuel+1) listed a w:=by
 intro fuel
 induction fuel with
 | zero =>
  intro listed a w _ hr hy hS _ H
  refine ⟨λh=>(by rw [h] at hr;cases hr),λj hj=>?_⟩
  by_cases hji:j=i
  ·subst hji;exact hy.wpOp hi hS ⟨λ_=>hS,H⟩
  ·have:=ready_mono hj hji
   rw [H.1] at this
   cases this
 | succ fuel ih =>
  intro listed a w hfree hr hy hS hun H
  refine ⟨λh=>(by rw [h] at hr;cases hr),λj hj=>?_⟩
  by_cases hji:j=i
  ·subst hji;exact hy.wpOp hi hS ⟨λ_=>hS,H⟩
  ·have h1:=H.2 j (ready_mono hj hji)
   obtain ⟨hjun,oj,hoj,hall⟩:=mem_ready.1 hj
   have hnot:∀ e∈oj.after,Region.binds md e=true->e.on≠i:=λe he hb heq=>by
    have h1:=hall e he hb
    have h0:=(mem_ready.1 hr).1
    rw [heq] at h1
    rcases Nat.lt_or_ge i listed.size with h'|h'
    ·simp [h'] at h0 h1;rw [h0] at h1;cases h1
    ·simp [Array.getElem?_eq_none h'] at h1
   have hjs:j≠st:=λe=>by
    obtain ⟨os,hos,e',he',hb',hon⟩:=zc3 hw
    rw [e,hos] at hoj
    cases hoj
    exact hnot e' he' hb' hon
   have h2:=wpOp_putIf hoj (hfree j oj hoj hji hjun hnot) (λcs b=>hsel i oi cs b hi) (λcs b=>hsel j oj cs b hoj) hQ hy h1
   have hun2:(listed.setIfInBounds j true).getD st true=false:=by rw [getD_set_ne true hjs];exact hun
   have hun3:((listed.setIfInBounds i true).setIfInBounds j true).getD st true=false:=by rw [getD_set_ne true hjs,getD_set_ne true (Ne.symm hsi)];exact hun
   have hfree':∀ k ok,ops[k]? = some ok->k≠i->(listed.setIfInBounds j true).getD k true=false ->
    (∀ e∈ok.after,Region.binds md e=true->e.on≠i)->oi.apart ops ok=true:=λk ok hk hki hun hno=>by
    refine hfree k ok hk hki ?_ hno
    by_cases hjk:j=k
    ·subst hjk;exact hjun
    ·rw [getD_set_ne true hjk] at hun;exact hun
   refine wpOp_mono (λa' w' h3=>⟨λ_=>h3.2.1 hun3,ih (listed.setIfInBounds j true) a' w' hfree' (ready_mono hr (Ne.symm hji)) h3.1 (h3.2.1 hun3) hun2 ?_⟩) h2
   rw [Array.setIfInBounds_comm _ _ hji]
   exact h3.2.2
theorem zac {i:Nat} {oi:Oper} {v:Value} {fuel:Nat} {listed:Array Bool} {a:Act} {w:World} (hi:ops[i]? = some oi)
 (hs:Region.noSelect ops=true) (hf:Region.free md ops listed i=true) (hr:(Region.ready md ops listed).contains i=true) (hw:waits md ops st i=true) (hsi:st≠i) (hun:listed.getD st true=false)
 (hQ:∀ c a w,Q (.panic c) (a.put oi.dst v) w->Q (.panic c) a w) (hy:YieldsIf P ops S oi v a) (hS:S w)
 (h:wpAnyG P md ops Q S st fuel (listed.setIfInBounds i true) (a.put oi.dst v) w):wpAnyG P md ops Q S st (fuel+1) listed a w :=
 zhq hi (Region.noSelect_spec hs) hQ hw hsi fuel listed a w (Region.free_spec hi hf) (by simpa using hr) hy hS hun h
theorem zf6 {i:Nat} {oi:Oper} {v:Value} (hi:ops[i]? = some oi) (hsel:∀ (j:Nat) (o:Oper) cs b,ops[j]? = some o->o.op ≠ .select cs b)
 (hQ:∀ c a w,Q (.panic c) (a.put oi.dst v) w->Q (.panic c) a w) (hsi:st≠i) :
 ∀ (fuel:Nat) (listed:Array Bool) (a:Act) (w:World),
  (∀ j oj,ops[j]? = some oj->j≠i->listed.getD j true=false->(∀ e∈oj.after,Region.binds md e=true->e.on≠i)->oi.apart ops oj=true) ->
  i∈Region.ready md ops listed->YieldsIf P ops (λ_=>True) oi v a->(listed.getD st true=false->S w) ->
  wpAnyG P md ops Q S st fuel (listed.setIfInBounds i true) (a.put oi.dst v) w->wpAnyG P md ops Q S st (fuel+1) listed a w:=by
 have down:∀ (l:Array Bool) (j:Nat),(l.setIfInBounds j true).getD st true=false->l.getD st true=false:=λl j h=>by
  by_cases hj:j=st
  ·subst hj
   simp [Array.getD] at h
  ·rw [getD_set_ne true hj] at h;exact h
 intro fuel
 induction fuel with
 | zero =>
  intro listed a w _ hr hy hS H
  refine ⟨λh=>(by rw [h] at hr;cases hr),λj hj=>?_⟩
  by_cases hji:j=i
  ·subst hji;exact hy.wpOp hi trivial ⟨λh=>hS (down _ _ h),H⟩
  ·have:=ready_mono hj hji
   rw [H.1] at this
   cases this
 | succ fuel ih =>
  intro listed a w hfree hr hy hS H
  refine ⟨λh=>(by rw [h] at hr;cases hr),λj hj=>?_⟩
  by_cases hji:j=i
  ·subst hji;exact hy.wpOp hi trivial ⟨λh=>hS (down _ _ h),H⟩
  ·have h1:=H.2 j (ready_mono hj hji)
   obtain ⟨hjun,oj,hoj,hall⟩:=mem_ready.1 hj
   have hnot:∀ e∈oj.after,Region.binds md e=true->e.on≠i:=λe he hb heq=>by
    have h1:=hall e he hb
    have h0:=(mem_ready.1 hr).1
    rw [heq] at h1
    rcases Nat.lt_or_ge i listed.size with h'|h'
    ·simp [h'] at h0 h1;rw [h0] at h1;cases h1
    ·simp [Array.getElem?_eq_none h'] at h1
   have h2:=wpOp_putIf hoj (hfree j oj hoj hji hjun hnot) (λcs b=>hsel i oi cs b hi) (λcs b=>hsel j oj cs b hoj) hQ hy h1
   have hfree':∀ k ok,ops[k]? = some ok->k≠i->(listed.setIfInBounds j true).getD k true=false ->
    (∀ e∈ok.after,Region.binds md e=true->e.on≠i)->oi.apart ops ok=true:=λk ok hk hki hun hno=>by
    refine hfree k ok hk hki ?_ hno
    by_cases hjk:j=k
    ·subst hjk;exact hjun
    ·rw [getD_set_ne true hjk] at hun;exact hun
   refine wpOp_mono (λa' w' h3=>?_) h2
   ·have up:(listed.setIfInBounds j true).getD st true=false->((listed.setIfInBounds i true).setIfInBounds j true).getD st true=false:=λh=>by
     rw [Array.setIfInBounds_comm _ _ (Ne.symm hji),getD_set_ne true (Ne.symm hsi)];exact h
    refine ⟨λh=>h3.2.1 (up h),ih (listed.setIfInBounds j true) a' w' hfree' (ready_mono hr (Ne.symm hji)) h3.1 (λh=>h3.2.1 (up h)) ?_⟩
    rw [Array.setIfInBounds_comm _ _ hji]
    exact h3.2.2
theorem zaX {i:Nat} {oi:Oper} {v:Value} {fuel:Nat} {listed:Array Bool} {a:Act} {w:World} (hi:ops[i]? = some oi)
 (hs:Region.noSelect ops=true) (hf:Region.free md ops listed i=true) (hr:(Region.ready md ops listed).contains i=true) (hsi:st≠i)
 (hQ:∀ c a w,Q (.panic c) (a.put oi.dst v) w->Q (.panic c) a w) (hy:YieldsIf P ops (λ_=>True) oi v a) (hS:listed.getD st true=false->S w)
 (h:wpAnyG P md ops Q S st fuel (listed.setIfInBounds i true) (a.put oi.dst v) w):wpAnyG P md ops Q S st (fuel+1) listed a w :=
 zf6 hi (Region.noSelect_spec hs) hQ hsi fuel listed a w (Region.free_spec hi hf) (by simpa using hr) hy hS h
theorem zam {fuel:Nat} {listed:Array Bool} {a:Act} {w:World} {i:Nat} {o:Oper} (hr:Region.ready md ops listed=[i]) (ho:ops[i]? = some o)
 (h:∀ K':Act->World->Prop,Shut (∀ a w,((listed.setIfInBounds i true).getD st true=false->S w)->wpAnyG P md ops Q S st fuel (listed.setIfInBounds i true) a w->K' a w)->if Region.wanted o (yielded ops a.tmps)=true then Oper.wp P o a w K' Q else K' (a.put o.dst undef) w) :
 wpAnyG P md ops Q S st (fuel+1) listed a w :=
 And.intro (λh0=>(by rw [hr] at h0;cases h0)) (λj hj=>(by
  rw [hr] at hj
  rcases List.mem_cons.1 hj with rfl|hj
  ·exact wpOp_step ho (λK' hK=>h K' (λa w hS hW=>hK a w ⟨hS,hW⟩))
  ·cases hj))
theorem zaM {listed:Array Bool} {a:Act} {w:World} (hr:Region.ready md ops listed=[]) (h:Q .normal a w) :
 ∀ fuel,wpAnyG P md ops Q S st fuel listed a w
 | 0=>⟨hr,h⟩
 | _+1=>⟨λ_=>h,by rw [hr];simp⟩
theorem zaN {id:Nat} {a:Act} {w:World} (hm:P.follows .mixedOrders=true)
 (h:wpAnyG P .any ops Q S st ops.size (Array.replicate ops.size false) a w.drew):(Code.region id ops true).wp P Q a w :=
 wp_region_any hm (ze1 _ _ _ _ h)
end
end Go.Proofs.YtbennamieealbaaGreatDoor
namespace Go.Proofs.YtbennamieealbaaGreatDoor
open Go.ChangeShapes Go.WideShapes Go.ChangeAt Go.RowKit
open Go
section
variable {P : Program} {ops : Array Oper} {Q : Exit -> Act -> World -> Prop} {md : Region.Mode} {S : World -> Prop} {st : Nat}
theorem zf7 {i j0:Nat} {oi:Oper} {v:Value} (hi:ops[i]? = some oi) (hsel:∀ (j:Nat) (o:Oper) cs b,ops[j]? = some o->o.op ≠ .select cs b)
 (hQ:∀ c a w,Q (.panic c) (a.put oi.dst v) w->Q (.panic c) a w) (hw1:waits md ops st j0=true) (hw:waits md ops j0 i=true) (hsi:st≠i) (hj0:j0≠i) :
 ∀ (fuel:Nat) (listed:Array Bool) (a:Act) (w:World),
  (∀ j oj,ops[j]? = some oj->j≠i->listed.getD j true=false->(∀ e∈oj.after,Region.binds md e=true->e.on≠i)->oi.apart ops oj=true) ->
  i∈Region.ready md ops listed->YieldsIf P ops S oi v a->S w->listed.getD st true=false->listed.getD j0 true=false ->
  wpAnyG P md ops Q S st fuel (listed.setIfInBounds i true) (a.put oi.dst v) w->wpAnyG P md ops Q S st (fuel+1) listed a w:=by
 intro fuel
 induction fuel with
 | zero =>
  intro listed a w _ hr hy hS _ _ H
  refine ⟨λh=>(by rw [h] at hr;cases hr),λj hj=>?_⟩
  by_cases hji:j=i
  ·subst hji;exact hy.wpOp hi hS ⟨λ_=>hS,H⟩
  ·have:=ready_mono hj hji
   rw [H.1] at this
   cases this
 | succ fuel ih =>
  intro listed a w hfree hr hy hS hun hun0 H
  refine ⟨λh=>(by rw [h] at hr;cases hr),λj hj=>?_⟩
  by_cases hji:j=i
  ·subst hji;exact hy.wpOp hi hS ⟨λ_=>hS,H⟩
  ·have h1:=H.2 j (ready_mono hj hji)
   obtain ⟨hjun,oj,hoj,hall⟩:=mem_ready.1 hj
   have hnot:∀ e∈oj.after,Region.binds md e=true->e.on≠i:=λe he hb heq=>by
    have h1:=hall e he hb
    have h0:=(mem_ready.1 hr).1
    rw [heq] at h1
    rcases Nat.lt_or_ge i listed.size with h'|h'
    ·simp [h'] at h0 h1;rw [h0] at h1;cases h1
    ·simp [Array.getElem?_eq_none h'] at h1
   have hnot0:∀ e∈oj.after,Region.binds md e=true->e.on≠j0:=λe he hb heq=>by
    have h1:=hall e he hb
    have h0:=hun0
    rw [heq] at h1
    rcases Nat.lt_or_ge j0 listed.size with h'|h'
    ·simp [h'] at h0 h1;rw [h0] at h1;cases h1
    ·simp [Array.getElem?_eq_none h'] at h1
   have hjj:j≠j0:=λe=>by
    obtain ⟨os,hos,e',he',hb',hon⟩:=zc3 hw
    rw [e,hos] at hoj
    cases hoj
    exact hnot e' he' hb' hon
   have hjs:j≠st:=λe=>by
    obtain ⟨os,hos,e',he',hb',hon⟩:=zc3 hw1
    rw [e,hos] at hoj
    cases hoj
    exact hnot0 e' he' hb' hon
   have h2:=wpOp_putIf hoj (hfree j oj hoj hji hjun hnot) (λcs b=>hsel i oi cs b hi) (λcs b=>hsel j oj cs b hoj) hQ hy h1
   have hun2:(listed.setIfInBounds j true).getD st true=false:=by rw [getD_set_ne true hjs];exact hun
   have hun4:(listed.setIfInBounds j true).getD j0 true=false:=by rw [getD_set_ne true hjj];exact hun0
   have hun3:((listed.setIfInBounds i true).setIfInBounds j true).getD st true=false:=by rw [getD_set_ne true hjs,getD_set_ne true (Ne.symm hsi)];exact hun
   have hfree':∀ k ok,ops[k]? = some ok->k≠i->(listed.setIfInBounds j true).getD k true=false ->
    (∀ e∈ok.after,Region.binds md e=true->e.on≠i)->oi.apart ops ok=true:=λk ok hk hki hun hno=>by
    refine hfree k ok hk hki ?_ hno
    by_cases hjk:j=k
    ·subst hjk;exact hjun
    ·rw [getD_set_ne true hjk] at hun;exact hun
   refine wpOp_mono (λa' w' h3=>⟨λ_=>h3.2.1 hun3,ih (listed.setIfInBounds j true) a' w' hfree' (ready_mono hr (Ne.symm hji)) h3.1 (h3.2.1 hun3) hun2 hun4 ?_⟩) h2
   rw [Array.setIfInBounds_comm _ _ hji]
   exact h3.2.2
theorem zbB (j0:Nat) {i:Nat} {oi:Oper} {v:Value} {fuel:Nat} {listed:Array Bool} {a:Act} {w:World} (hi:ops[i]? = some oi)
 (hs:Region.noSelect ops=true) (hf:Region.free md ops listed i=true) (hr:(Region.ready md ops listed).contains i=true) (hw1:waits md ops st j0=true) (hw:waits md ops j0 i=true) (hsi:st≠i) (hj0:j0≠i) (hun:listed.getD st true=false) (hun0:listed.getD j0 true=false)
 (hQ:∀ c a w,Q (.panic c) (a.put oi.dst v) w->Q (.panic c) a w) (hy:YieldsIf P ops S oi v a) (hS:S w)
 (h:wpAnyG P md ops Q S st fuel (listed.setIfInBounds i true) (a.put oi.dst v) w):wpAnyG P md ops Q S st (fuel+1) listed a w :=
 zf7 hi (Region.noSelect_spec hs) hQ hw1 hw hsi hj0 fuel listed a w (Region.free_spec hi hf) (by simpa using hr) hy hS hun hun0 h
end
def sel (l:Bool) (a b:Int):Int:=if l then a else b
theorem zig {P:Int->Prop} (l:Bool) {a b:Int} (ha:P a) (hb:P b):P (sel l a b):=by cases l <;> assumption
theorem Pl.new (w:World) (cs:Array Value) (t:TypeId) (b:Nat) (h:b=w.heap.size) {k:Nat}:(w.alloc (.cells cs t)).cell? ⟨b,k,none⟩=cs[k]?:=by subst h;exact World.cell?_alloc_new ..
theorem zaR (w:World) (cs:Array Value) (t:TypeId) (n b:Nat) (hb:b=w.heap.size) (h:cs.size=n):(w.alloc (.cells cs t)).there b 0 n:=λj hj=>by
 subst hb
 refine ⟨?_,Lib.frozen_of_heap (heap_alloc_new w _) _⟩
 rw [Pl.new _ _ _ _ rfl,Array.getElem?_eq_getElem (by omega)]
 rfl
theorem zbC {w w':World} {b n:Nat} (h:w.there b 0 n) (hb:Below w.heap.size w w') (hlt:b<w.heap.size):w'.there b 0 n:=λj hj=>by
 have:=h j hj
 rw [hb.cell (p:=⟨b,0+j,none⟩) hlt,hb.frozen (p:=⟨b,0+j,none⟩) hlt]
 exact this
theorem Pl.below {n:Nat} {a:World} {b:Nat} (hb:n<=b):∀ (vs:List Value) (o:Nat) (w:World),Below n a w->Below n a (w.setCells b o vs)
 | [],o,w,h=>h
 | v::vs,o,w,h=>Pl.below hb vs (o+1) _ (h.setCell hb v)
theorem Pl.fin {w w0 w1:World} {b:Nat} (L:List Value) (hth:w0.there b 0 L.length) (hb0:Below w.heap.size w w0) (hb1:Below w0.heap.size w0 w1) (hlt:b<w0.heap.size) (hw:w.heap.size<=b):Below w.heap.size w (w1.setCells b 0 L)/\(w1.setCells b 0 L).rangeAt b 0 L :=
 ⟨Pl.below hw L 0 w1 (stp hb0 hb1),World.rangeAt_setCells_same w1 b 0 L (zbC hth hb1 hlt)⟩
theorem Pl.cutW {P:Program} {code:Code} {Q:Exit->Act->World->Prop} {a:Act} {w:World} (K:World->Prop) (h:K w) (k:∀ w',K w'->code.wp P Q a w'):code.wp P Q a w:=k w h
theorem Pl.cutB {P:Program} {fn:Func} {R:Ending->World->Prop} {e:Exit} {a:Act} {w:World} (K:World->Prop) (h:K w) (k:∀ w',K w'->bodyPost P fn R e a w'):bodyPost P fn R e a w:=k w h
theorem Pl.spot {w:World} {a:Addr} {v:Value} (h:w.cell? a=some v):a.spot=none:=by
 unfold World.cell? at h
 split at h
 ·split at h
  ·cases h
  ·rename_i hs
   cases hh:a.spot with
   | none=>rfl
   | some x=>rw [hh] at hs;simp at hs
 ·cases h
def isAt (k:IntKind) (w:World) (v:Value) (l:List Int):Prop:=(∃ a cap,v = .slice a 0 cap/\l=[]) \/ ∃ g o cap,v = .slice (some ⟨g,o,none⟩) l.length cap/\g<w.heap.size /\ ∀ j x,l[j]? = some x->w.cell? ⟨g,o+j,none⟩=some (.int k x)
theorem isAt.kept {k:IntKind} {w w':World} {v:Value} {l:List Int} (h:isAt k w v l) (hb:Below w.heap.size w w'):isAt k w' v l:=by
 rcases h with h|⟨g,o,cap,h1,h3,h4⟩
 ·exact Or.inl h
 ·exact Or.inr ⟨g,o,cap,h1,Nat.lt_of_lt_of_le h3 hb.size,λj x hj=>(hb.cell (p:=⟨g,o+j,none⟩) h3).trans (h4 j x hj)⟩
theorem ret_v {a b:Value} (h:a=b):Ending.returned a = .returned b:=by rw [h]
theorem xA {α:Type} {l:List α} {i:Nat} {a:α}:l.toArray.setIfInBounds i a=(l.set i a).toArray:=List.setIfInBounds_toArray _ _ _
theorem xB {α:Type} {a b:α} {l:List α}:(a::l).set 0 b=b::l:=List.set_cons_zero
theorem xC {α:Type} {a b:α} {l:List α} {n:Nat}:(a::l).set (n+1) b=a::l.set n b:=List.set_cons_succ
end Go.Proofs.YtbennamieealbaaGreatDoor
