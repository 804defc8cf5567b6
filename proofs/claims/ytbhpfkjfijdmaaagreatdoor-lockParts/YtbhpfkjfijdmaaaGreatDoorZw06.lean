/-
  Parts of a proof, joined.
-/
import Derived.Test.YtbhpfkjfijdmaaaGreatDoorZw05
import Derived.Deep.RegionHeld3
import Derived.Deep.QuietTactic
import Derived.BigQuiet
import Derived.Defers
import Derived.Recover
import Derived.Laws.Pointers
import Derived.Shelf.LaysM
import Derived.Shelf.LaysC
import Derived.Shelf.Bytes.SlSearch0
import Derived.Test.YtbhpfkjfijdmaaaGreatDoorProg
import Derived.Laws.BytesArg
import Derived.Lib.LaidTab
import Derived.Test.YtbhpfkjfijdmaaaGreatDoorCards
import Derived.Test.YtbhpfkjfijdmaaaGreatDoorTie
import Derived.SevenTiedAt
import Derived.Test.YtbhpfkjfijdmaaaGreatDoorZw01
import Derived.Test.YtbhpfkjfijdmaaaGreatDoorZw00
namespace Go.Proofs.YtbhpfkjfijdmaaaGreatDoor
open Go.ChangeShapes Go.WideShapes Go.ChangeAt Go.RowKit
set_option linter.unusedVariables false
set_option maxRecDepth 100000
set_option maxHeartbeats 1600000
/-! ### what holds of what a reader has read -/
def Inv (st:S.St):Prop:=st.rom.length<=1024/\(∀ u ∈ st.uses,u.2.1+2<=st.rom.length) /\ ∀ p ∈ st.places,p.2<=1024
theorem inv_put {ws:List Int} {nm:S.By} {ln:Nat} {st st':S.St} (hi:Inv st) (h0:0 < ws.length) (h:S.put ws nm ln st = .ok st'):Inv st':=by
 obtain ⟨hm,rfl⟩:=put_spec h
 obtain ⟨i1,i2,i3⟩:=hi
 refine ⟨by simp [bytesOf_len];exact hm,fun u hu=>?_,i3⟩
 simp only [List.length_append,bytesOf_len] at hu ⊢
 split at hu
 ·have:=i2 u hu;omega
 ·rcases List.mem_append.1 hu with hu | hu
  ·have:=i2 u hu;omega
  ·simp at hu;subst hu;simp only;omega
theorem inv_line {l:S.By} {ln:Nat} {st st':S.St} (hi:Inv st) (h:S.readLine l ln st = .ok st'):Inv st':=by
 unfold S.readLine at h
 split at h
 ·obtain ⟨_,_,rfl⟩:=place_inv h
  obtain ⟨i1,i2,i3⟩:=hi
  refine ⟨i1,i2,fun p hp=>?_⟩
  rcases List.mem_append.1 hp with hp | hp
  ·exact i3 p hp
  ·simp at hp;subst hp;exact i1
 ·split at h
  ·match hp:S.partsOf (Lib.cut l [32]).2.1,h with
   | [p],h=>obtain ⟨v,nm,_,_,_,hput⟩:=word_inv h;exact inv_put hi (by simp) hput
   | [],h=>cases h
   | _ :: _ :: _,h=>cases h
  ·obtain ⟨k,o,nm,_,_,_,_,_,_,hput⟩:=order_inv h
   exact inv_put hi (words_pos k o) hput
theorem inv_lines:∀ (f:Nat) (s:S.By) (ln:Nat) (st stF:S.St),Inv st->S.readLines f s ln st = .ok stF->Inv stF
 | 0,s,ln,st,stF,hi,h=>by cases h;exact hi
 | f+1,s,ln,st,stF,hi,h=>by
  by_cases hs:s=[]
  ·subst hs;rw [S.readLines_nil] at h;cases h;exact hi
  ·obtain ⟨_,st',hl,hn⟩:=lines_inv hs h
   exact inv_lines f _ _ _ _ (inv_line hi hl) hn
theorem inv_zero:Inv S.St.zero:=⟨by simp [S.St.zero],by simp [S.St.zero],by simp [S.St.zero]⟩
section
variable {w : World} {B b mo mp : Nat} {ua : Option Addr} {uc rc rg : Nat} {st : S.St} {ln : Nat}
theorem Rd.set_rom (h:Rd w B b mo mp ua uc (some ⟨rg,0,none⟩) rc st ln) (i:Nat) (x:UInt8):Rd (w.setCell ⟨rg,i,none⟩ (.int .u8 x.toNat)) B b mo mp ua uc (some ⟨rg,0,none⟩) rc { st with rom:=st.rom.set i x } ln:=by
 obtain ⟨hs,hg⟩:=h.rom.stored i (.int .u8 x.toNat)
 have hb:(Value.slice (some ⟨rg,0,none⟩) st.rom.length rc).ownBlock=some rg:=rfl
 refine ⟨h.hB,?_,h.ops.of_block (grown_blk hg h.ops.lt (fun e=>h.rom_mo (hb.trans e.symm))),h.places.of_block (grown_blk hg h.places.lt (fun e=>h.rom_mp (hb.trans e.symm))),h.hmp,h.ne,h.uses.kept hg (h.rows.imp id (fun hh=>by rw [hb] at hh;exact hh)),?_⟩
 ·simp only [List.length_set]
  exact (grown_blk hg h.lt (fun e=>h.rom_b (hb.trans e.symm))).trans h.blk
 ·simp only [List.length_set]
  have e:Lib.byteCells (st.rom.set i x)=(Lib.byteCells st.rom).set i (.int .u8 x.toNat):=by unfold Lib.byteCells;rw [List.map_set]
  rw [e];exact hs
theorem Rd.rg_ne (h:Rd w B b mo mp ua uc (some ⟨rg,0,none⟩) rc st ln):rg ≠ b/\rg < w.heap.size/\B<=rg:=by
 have h1:=h.rom_b
 have h2:=h.rom.lt rg rfl
 exact ⟨fun e=>h1 (by rw [e];rfl),h2.2,h2.1⟩
end
theorem useCells_at:∀ (us:List (S.By × Nat × Nat)) (j:Nat) (u:S.By × Nat × Nat),us[j]? = some u->(useCells us)[j * 3]? = some (.string (Asmk u.1))/\(useCells us)[j * 3+1]? = some (.int .i64 u.2.1)/\(useCells us)[j * 3+2]? = some (.int .i64 u.2.2)
 | [],j,u,h=>by simp at h
 | v :: us,0,u,h=>by simp at h;subst h;exact ⟨rfl,rfl,rfl⟩
 | v :: us,j+1,u,h=>by
  have ih:=useCells_at us j u (by simpa using h)
  rw [show (j+1) * 3=j * 3+3 by omega,show j * 3+3+1=(j * 3+1)+3 by omega,show j * 3+3+2=(j * 3+2)+3 by omega]
  exact ih
theorem layPlaces_0 (w:World) (B b mo mp:Nat) (ua ra:Option Addr) (uc rc:Nat) (st:S.St) (ln:Nat) (hR:Rd w B b mo mp ua uc ra rc st ln) (hu:st.uses=[]) :
 Calls Tryz.prog 74 #[.pointer (some ⟨b,0,none⟩)] w fun e w'=>e = .returned (.tuple #[])/\w'=w:=by
 have c2:w.cell? ⟨b,2,none⟩=some (.slice ua 0 uc):=by have:=hR.cell 2;rw [hu] at this;exact this
 have hlt:=hR.lt
 clear hR
 go_enter Tryz.func74,Tryz.ntmps74
 go_wp2
 go_loop [11] (fun i=>i = .int .i64 0) (fun _=>0)
 case atStart=>rfl
 case round =>
  subst hrel
  go_wp2
  go_end0
  exact ⟨rfl,rfl⟩
theorem lookup_place {w:World} {mp:Nat} {ps:List (S.By × Nat)} (h:mapS w mp (pl ps)) (c:S.By) (p:S.By × Nat) (hf:ps.find? (fun p=>p.1 == c)=some p):(Instr.lookup 163 (.map (some mp)) (.string (Asmk c)) true).run Tryz.prog w = .ok (.tuple #[.int .i64 p.2,.bool true]) w:=by
 have:=lookup_s (P:=Tryz.prog) Tryz.underlying163 Tryz.underlying9 h (Asmk c) (zero_int w)
 rw [pl_find,bs_mk,hf] at this
 exact this
theorem lay_inv {ps:List (S.By × Nat)} {u:S.By × Nat × Nat} {us:List (S.By × Nat × Nat)} {rom romF:S.By} (h:S.lay ps (u :: us) rom = .ok romF):∃ p,ps.find? (fun p=>p.1 == u.1)=some p/\S.lay ps us ((rom.set u.2.1 (UInt8.ofNat (p.2 / 256))).set (u.2.1+1) (UInt8.ofNat (p.2 % 256))) = .ok romF:=by
 unfold S.lay at h
 split at h
 ·cases h
 ·rename_i p hp
  exact ⟨p,hp,h⟩
theorem layPlaces_n (w:World) (B b mo mp ug uc rg rc:Nat) (st:S.St) (ln:Nat) (hR:Rd w B b mo mp (some ⟨ug,0,none⟩) uc (some ⟨rg,0,none⟩) rc st ln) (hu:0 < st.uses.length) (hul:st.uses.length<=100000) (hi:Inv st) (romF:S.By) (hS:S.lay st.places st.uses st.rom = .ok romF) (hBw:B<=w.heap.size) :
 Calls Tryz.prog 74 #[.pointer (some ⟨b,0,none⟩)] w fun e w'=>e = .returned (.tuple #[])/\Rd w' B b mo mp (some ⟨ug,0,none⟩) uc (some ⟨rg,0,none⟩) rc { st with rom:=romF } ln/\Below B w w':=by
 have c2:w.cell? ⟨b,2,none⟩=some (.slice (some ⟨ug,0,none⟩) st.uses.length uc):=hR.cell 2
 have hlt:=hR.lt
 have hBb:=hR.hB
 have HR:=hid hR
 have HS:=hid hS
 have HI:=hid hi
 clear hR hS hi
 go_enter Tryz.func74,Tryz.ntmps74
 go_wp2
 go_loopw [11] (fun i wr=>∃ (j:Nat) (rom:S.By),j<=st.uses.length/\i = .int .i64 j/\rom.length=st.rom.length/\S.lay st.places (st.uses.drop j) rom = .ok romF/\Rd wr B b mo mp (some ⟨ug,0,none⟩) uc (some ⟨rg,0,none⟩) rc { st with rom:=rom } ln/\Below B w wr) (fun i _=>st.uses.length - (intOf i).toNat)
 case atStart=>exact ⟨0,st.rom,by omega,rfl,rfl,HS.out,HR.out,Below.refl _ _⟩
 case round =>
  obtain ⟨j,rom,hj,rfl,hrl,hlay,hR1,hbl⟩:=hrel
  have hszr:=Nat.le_trans hBw hbl.size
  by_cases hlt2:j < st.uses.length
  ·have hjI:(j:Int) < st.uses.length:=by omega
   obtain ⟨u,huj⟩:∃ u,st.uses[j]? = some u:=⟨_,List.getElem?_eq_getElem hlt2⟩
   rw [drop_at huj] at hlay
   obtain ⟨p,hfp,hnext⟩:=lay_inv hlay
   obtain ⟨nm,at',ul⟩:=u
   obtain ⟨pn,pv⟩:=p
   obtain ⟨i1,i2,i3⟩:=HI.out
   have hat:=i2 _ (List.mem_of_getElem? huj)
   have hpv:=i3 _ (List.mem_of_find?_eq_some hfp)
   simp only at hat hpv hnext hfp
   obtain ⟨k0,k1,k2⟩:=useCells_at _ _ _ huj
   have hug:=hR1.uses.lt ug rfl
   have u0:wr.cell? ⟨ug,j * 3,none⟩=some (.string (Asmk nm)):=by rw [hR1.uses.cellAt (j * 3) (by simp only;omega)];exact k0
   have u1':wr.cell? ⟨ug,j * 3+1,none⟩=some (.int .i64 at'):=by rw [hR1.uses.cellAt (j * 3+1) (by simp only;omega)];exact k1
   have u2':wr.cell? ⟨ug,j * 3+2,none⟩=some (.int .i64 ul):=by rw [hR1.uses.cellAt (j * 3+2) (by simp only;omega)];exact k2
   have hugr:ug < wr.heap.size:=hug.2
   have c1:wr.cell? ⟨b,1,none⟩=some (.map (some mp)):=hR1.cell 1
   have c3:wr.cell? ⟨b,3,none⟩=some (.slice (some ⟨rg,0,none⟩) st.rom.length rc):=by have:=hR1.cell 3;simp only [hrl] at this;exact this
   have hbr:=hR1.lt
   obtain ⟨hgb,hgl,hgB⟩:=hR1.rg_ne
   have hRa:=hid (hR1.kept (stA (st0 wr) (.cells #[.string (Asmk nm),.int .i64 at',.int .i64 ul] 198)))
   have hlk:∀ q,(Instr.lookup 163 (.map (some mp)) (.string (Asmk nm)) true).run Tryz.prog ((wr.alloc (.cells #[.string (Asmk nm),.int .i64 at',.int .i64 ul] 198)).drewN q) = .ok (.tuple #[.int .i64 pv,.bool true]) ((wr.alloc (.cells #[.string (Asmk nm),.int .i64 at',.int .i64 ul] 198)).drewN q):=fun q =>
    lookup_place ((hRa.out.kept (st_drewN (st0 _) q)).places) nm (pn,pv) hfp
   have HN:=hid hnext
   have HFP:=hid hfp
   have HRr:=hid hR1
   have hr1:st.rom.length<=1024:=i1
   clear hlay hnext hfp huj k0 k1 k2 i1 i2 i3 hR1
   have hatI:(at':Int) < st.rom.length:=by omega
   have hatJ:(at':Int)+1 < st.rom.length:=by omega
   have hatK:(0:Int)<=(at':Int)+1:=by omega
   have hatL:(0:Int)<=(at':Int):=by omega
   have hn1:rg ≠ wr.heap.size:=by omega
   obtain ⟨va,da⟩:∃ v,wr.cell? ⟨rg,at',none⟩=some v:=⟨_,(HRr.out.rom.cellAt at' (by simp only;omega)).trans (List.getElem?_eq_getElem (by rw [byteCells_len];simp only;omega))⟩
   obtain ⟨vb,db⟩:∃ v,wr.cell? ⟨rg,at'+1,none⟩=some v:=⟨_,(HRr.out.rom.cellAt (at'+1) (by simp only;omega)).trans (List.getElem?_eq_getElem (by rw [byteCells_len];simp only;omega))⟩
   have fa:wr.frozen? ⟨rg,at',none⟩=false:=HRr.out.rom.frozenAt at'
   have fb:wr.frozen? ⟨rg,at'+1,none⟩=false:=HRr.out.rom.frozenAt (at'+1)
   have hpvI:(pv:Int)<=65535:=by omega
   have hwp:IntKind.u16.wrap (pv:Int)=pv:=by rw [IntKind.wrap_u16];omega
   have hwa:IntKind.i64.wrap ((at':Int)+1)=(at':Int)+1:=by rw [IntKind.wrap_i64];omega
   go_wp2
   go_quiet (fail)
   go_wp2
   go_region_held3 (fun w'=>w'.cell? ⟨b,3,none⟩=some (.slice (some ⟨rg,0,none⟩) st.rom.length rc)/\w'.cell? ⟨wr.heap.size,1,none⟩=some (.int .i64 at'))
    (first
      | go_keep
      | (go_split_ands
         refine ⟨?_,?_⟩
         ·(rw [World.cell?_setCell_other _ _ _ _ (by simp;omega)];assumption)
         ·(rw [World.cell?_setCell_other _ _ _ _ (by simp;omega)];assumption)))
    ((go_at_call 109;refine (bytesW_any pv _ (by omega) (by omega)).mono ?_;rintro e w' ⟨rfl,rfl⟩))
   go_wp2
   have e1:(.int .u8 ((pv:Int) / 256):Value) = .int .u8 ((UInt8.ofNat (pv / 256)).toNat:Nat):=by rw [show (UInt8.ofNat (pv / 256)).toNat=pv / 256 by simp;omega];rfl
   have e2:(.int .u8 ((pv:Int) % 256):Value) = .int .u8 ((UInt8.ofNat (pv % 256)).toNat:Nat):=by rw [show (UInt8.ofNat (pv % 256)).toNat=pv % 256 by simp];rfl
   rw [e1,e2]
   refine ⟨⟨j+1,(rom.set at' (UInt8.ofNat (pv / 256))).set (at'+1) (UInt8.ofNat (pv % 256)),by omega,by simp,by simp [hrl],HN.out,((hRa.out.kept (st_drewN (st0 _) (nq+1))).set_rom at' _).set_rom (at'+1) _,?_⟩,by simp [intOf];omega⟩
   have hd:Below B w ((wr.alloc (.cells #[.string (Asmk nm),.int .i64 at',.int .i64 ul] 198)).drewN (nq+1)):=(hbl.alloc hszr _).trans (bB (by simp;omega) (st_drewN (st0 _) (nq+1)))
   exact (hd.setCell hgB _).setCell hgB _
  ·have hjn:j=st.uses.length:=by omega
   subst hjn
   rw [List.drop_length] at hlay
   cases hlay
   go_wp2
   go_end0
   exact ⟨rfl,hR1,hbl⟩
theorem layPlaces_ok (w:World) (B b mo mp:Nat) (ua ra:Option Addr) (uc rc:Nat) (st:S.St) (ln:Nat) (hR:Rd w B b mo mp ua uc ra rc st ln) (hul:st.uses.length<=100000) (hi:Inv st) (romF:S.By) (hS:S.lay st.places st.uses st.rom = .ok romF) (hBw:B<=w.heap.size) :
 Calls Tryz.prog 74 #[.pointer (some ⟨b,0,none⟩)] w fun e w'=>e = .returned (.tuple #[])/\Rd w' B b mo mp ua uc ra rc { st with rom:=romF } ln/\Below B w w':=by
 by_cases hu:st.uses=[]
 ·rw [hu] at hS
  cases hS
  exact (layPlaces_0 w B b mo mp ua ra uc rc st ln hR hu).mono fun e w' hh=>⟨hh.1,hh.2 ▸ hR,hh.2 ▸ Below.refl _ _⟩
 ·have hup:0 < st.uses.length:=by cases h:st.uses <;> simp_all
  obtain ⟨u,hu0⟩:∃ u,u ∈ st.uses:=by cases h:st.uses with
   | nil=>exact absurd h hu
   | cons a l=>exact ⟨a,by simp⟩
  have hrl:=hi.2.1 u hu0
  have hua:∃ ug,ua=some ⟨ug,0,none⟩:=by
   rcases hR.uses.2 with ⟨h,h0⟩ | ⟨g,cap,cur,h,_⟩
   ·omega
   ·exact ⟨g,by injection h⟩
  have hra:∃ rg,ra=some ⟨rg,0,none⟩:=by
   rcases hR.rom.2 with ⟨h,h0⟩ | ⟨g,cap,cur,h,_⟩
   ·omega
   ·exact ⟨g,by injection h⟩
  obtain ⟨ug,rfl⟩:=hua
  obtain ⟨rg,rfl⟩:=hra
  exact layPlaces_n w B b mo mp ug uc rg rc st ln hR hup hul hi romF hS hBw
theorem catch_idle (p q r:Option Addr) (w:World) :
 CallsD Tryz.prog 71 #[.pointer p,.pointer q,.pointer r] .returning w fun e u' w'=>e = .returned (.tuple #[])/\u' = .returning/\w'=w:=by
 refine callsD_of_wpS Tryz.func71 rfl fun c₀ cs hu=>?_
 apply wpS_seq
 apply wpS_region
 simp [wpOpsS,go_sem,recoverD,hu,Tryz.ntmps71,Exit.thenS]
 apply wpS_seq
 apply wpS_seq
 apply wpS_region
 simp [wpOpsS,go_sem,Exit.thenS]
 refine wpS_cond (t:=true) (by simp [Act.eval,Array.replicate]) ?_
 simp only [if_true]
 refine wpS_of_wp (wp_ret ?_)
 cases c₀
 simp_all [Exit.thenS,bodyPostS,results,Tryz.results71]
theorem own_sliceAt {w:World} {B:Nat} {ra:Option Addr} {rc:Nat} {rom:S.By} (h:w.ownsRow B 5 1 (.slice ra rom.length rc) rom.length (Lib.byteCells rom)):AssliceAt w (.slice ra rom.length rc) rom:=by
 by_cases h0:rom.length=0
 ·have:rom=[]:=List.length_eq_zero_iff.1 h0
  subst this
  exact Or.inl ⟨ra,rc,rfl,rfl⟩
 ·obtain ⟨g,cap,hv,_,hg,hc,hcell⟩:=Asrow_slice h (by omega)
  injection hv with h1 h2 h3
  subst h1;subst h3
  refine Or.inr ⟨g,0,rc,rfl,hc,hg,fun j c hj=>?_⟩
  rw [Nat.zero_add,hcell j (List.getElem?_eq_some_iff.1 hj).1]
  unfold Lib.byteCells
  rw [List.getElem?_map,hj];rfl
theorem rd_init (w1:World) (B:Nat) (hm:mapS w1 B (opsTo 32)) (hB:B<=w1.heap.size) :
 Rd ((w1.alloc (.map #[] 0)).alloc (.cells #[.map (some B),.map (some w1.heap.size),.slice none 0 0,.slice none 0 0,.int .i64 0] 167)) B (w1.heap.size+1) B w1.heap.size none 0 none 0 S.St.zero 0:=by
 have hlt:=hm.lt
 have h1:(w1.alloc (.map #[] 0)).heap.size=w1.heap.size+1:=by simp
 refine ⟨by omega,?_,?_,?_,hB,by omega,⟨rfl,Or.inl ⟨rfl,rfl⟩⟩,⟨rfl,Or.inl ⟨rfl,rfl⟩⟩⟩
 ·rw [<- h1];exact heap_alloc_new _ _
 ·exact hm.of_block ((heap_alloc_old _ _ (by omega)).trans (heap_alloc_old _ _ hlt))
 ·exact (mapS_made w1).of_block (heap_alloc_old _ _ (by omega))
theorem lines_uses:∀ (f:Nat) (s:S.By) (ln:Nat) (st stF:S.St),s.length<=f->S.readLines f s ln st = .ok stF->stF.uses.length<=st.uses.length+s.length
 | 0,s,ln,st,stF,hf,h=>by cases h;omega
 | f+1,s,ln,st,stF,hf,h=>by
  by_cases hs:s=[]
  ·subst hs;rw [S.readLines_nil] at h;cases h;omega
  ·obtain ⟨hc,st',hl,hn⟩:=lines_inv hs h
   have h1:=cut_less s hs hc
   have h2:=lines_uses f _ _ _ _ (by omega) hn
   have h3:=line_uses hl
   omega
theorem readLines_init (w1:World) (B:Nat) (hm:mapS w1 B (opsTo 32)) (hB:B<=w1.heap.size) (s:S.By) (hl:s.length<=4000) (stF:S.St) (hS:S.readLines s.length s 0 S.St.zero = .ok stF) (hF:∀ w',Below B w1 w'->AF w') :
 Calls Tryz.prog 73 #[.pointer (some ⟨w1.heap.size+1,0,none⟩),.string (Asmk s)] ((w1.alloc (.map #[] 0)).alloc (.cells #[.map (some B),.map (some w1.heap.size),.slice none 0 0,.slice none 0 0,.int .i64 0] 167)) fun e w' =>
  e = .returned (.tuple #[])/\(∃ lnF ua' uc' ra' rc',Rd w' B (w1.heap.size+1) B w1.heap.size ua' uc' ra' rc' stF lnF)/\Below B w1 w':=by
 have h0:Below B w1 ((w1.alloc (.map #[] 0)).alloc (.cells #[.map (some B),.map (some w1.heap.size),.slice none 0 0,.slice none 0 0,.int .i64 0] 167)):=((Below.refl B w1).alloc hB _).alloc (by simp;omega) _
 exact (readLines_ok _ B (w1.heap.size+1) B w1.heap.size none none 0 0 S.St.zero stF (rd_init w1 B hm hB) rfl s hl hS (by simp;omega) (hF _ h0) (hid (fun w' hb=>hF w' (h0.trans hb)))).mono fun e w' ⟨he,h1,h2⟩=>⟨he,h1,h0.trans h2⟩
theorem res_cells {w w3:World} {o1 o2 o3:Value} {t1 t2 t3:TypeId} (h:Below (w.heap.size+1+1+1) (((w.alloc (.cells #[o1] t1)).alloc (.cells #[o2] t2)).alloc (.cells #[o3] t3)) w3) :
 (w3.heap[w.heap.size]? = some (.cells #[o1] t1 (0,0))/\w3.heap[w.heap.size+1]? = some (.cells #[o2] t2 (0,0))/\w3.heap[w.heap.size+1+1]? = some (.cells #[o3] t3 (0,0)))/\w.heap.size+1+1+1<=w3.heap.size:=by
 have s1:(w.alloc (.cells #[o1] t1)).heap.size=w.heap.size+1:=by simp
 have s2:((w.alloc (.cells #[o1] t1)).alloc (.cells #[o2] t2)).heap.size=w.heap.size+1+1:=by simp
 refine ⟨⟨?_,?_,?_⟩,by have:=h.size;simp at this;omega⟩
 ·rw [h.block _ (by omega),heap_alloc_old _ _ (by omega),heap_alloc_old _ _ (by omega)];exact heap_alloc_new _ _
 ·rw [h.block _ (by omega),heap_alloc_old _ _ (by omega),<- s1];exact heap_alloc_new _ _
 ·rw [h.block _ (by omega),<- s2];exact heap_alloc_new _ _
theorem readText_ok (s:S.By) (hl:s.length<=4000) (stF:S.St) (romF:S.By) (hS:S.readLines s.length s 0 S.St.zero = .ok stF) (hL:S.lay stF.places stF.uses stF.rom = .ok romF) (w:World) (hF:AF w) :
 Calls Tryz.prog 44 #[.string (Asmk s)] w fun e w'=>∃ v,e = .returned (.tuple #[v,.int .i64 0,.int .i64 0])/\AssliceAt w' v romF/\Below w.heap.size w w':=by
 have hmf:∀ (fn:Fn) (first cap:Array Value) (w:World),(Instr.makeFunc fn first cap).run Tryz.prog w = .ok (.func fn first cap) w:=fun _ _ _ _=>rfl
 have hmm:=@run_makeMap Tryz.prog
 have hul:stF.uses.length<=100000:=by have:=lines_uses _ _ _ _ _ (Nat.le_refl _) hS;simp [S.St.zero] at this;omega
 have HI:=hid (inv_lines _ _ _ _ _ inv_zero hS)
 have HF:=hid hF
 have HS:=hid hS
 have HL:=hid hL
 have hB3:Hid (Below w.heap.size w (((w.alloc (.cells #[.slice none 0 0] 26)).alloc (.cells #[.int .i64 0] 3)).alloc (.cells #[.int .i64 0] 44))):=stA (stA (stA (st0 w) _) _) _
 have hsz:Hid ((((w.alloc (.cells #[.slice none 0 0] 26)).alloc (.cells #[.int .i64 0] 3)).alloc (.cells #[.int .i64 0] 44)).heap.size=w.heap.size+1+1+1):=by show _=_;simp
 clear hF hS hL
 go_enter_defers Tryz.func44,Tryz.ntmps44
 go_wp2_with (first
  | (go_at_call 72;refine (opsByName_any _ (af_alloc (af_alloc (af_alloc HF.out _) _) _).shapes).mono ?_;rintro e w1 ⟨rfl,hm1,hb1⟩;rw [hsz.out] at hm1 hb1;have hz1:=hm1.lt)
  | (go_at_call 73;refine (readLines_init w1 (w.heap.size+1+1+1) hm1 (Nat.le_of_lt hz1) s hl stF HS.out (fun w' hb=>HF.out.kept (hB3.out.trans ((hb1.trans hb).mono (Nat.le_add_right _ 3))))).mono ?_;rintro e w2 ⟨rfl,⟨lnF,ua,uc,ra,rc,hR2⟩,hb2⟩)
  | (go_at_call 74;refine (layPlaces_ok w2 _ _ _ _ ua ra uc rc stF lnF hR2 hul HI.out romF HL.out (Nat.le_trans (Nat.le_of_lt hz1) hb2.size)).mono ?_;rintro e w3 ⟨rfl,hR3,hb3⟩;have hbb:=(hb1.trans hb2).trans hb3;obtain ⟨⟨k1,k2,k3⟩,hz3⟩:=res_cells hbb;have c3:w3.cell? ⟨w1.heap.size+1,3,none⟩=some (.slice ra romF.length rc):=hR3.cell 3;have z3:=hR3.lt;have d1:w3.cell? ⟨w.heap.size,0,none⟩=some (.slice none 0 0):=Lib.cell_of_heap k1 0;have d2:w3.cell? ⟨w.heap.size+1,0,none⟩=some (.int .i64 0):=Lib.cell_of_heap k2 0;have d3:w3.cell? ⟨w.heap.size+1+1,0,none⟩=some (.int .i64 0):=Lib.cell_of_heap k3 0;have f1:=Lib.frozen_of_heap k1 0;have f2:=Lib.frozen_of_heap k2 0;have f3:=Lib.frozen_of_heap k3 0;have HR3:=hid hR3;clear hR3 hR2 k1 k2 k3))
 refine leaves_cons (f:=71) (args:=#[.pointer (some ⟨w.heap.size,0,none⟩),.pointer (some ⟨w.heap.size+1,0,none⟩),.pointer (some ⟨w.heap.size+1+1,0,none⟩)]) (by simp) (by simp [go_sem]) ?_
 refine (catch_idle _ _ _ _).mono ?_
 rintro e u' w'' ⟨rfl,rfl,rfl⟩
 simp [Leaves,settle,results,Tryz.results44,go_sem,d1,d2,d3]
 have hrow:=HR3.out.rom
 have hlt:=fun k hk=>(hrow.lt k hk).1
 have hne:∀ i,i < w.heap.size+1+1+1->(Value.slice ra romF.length rc).ownBlock ≠ some i:=fun i hi h=>by have:=hlt i h;omega
 refine ⟨own_sliceAt (((hrow.kept (grown_set _ _ _ _) (Or.inr (hne _ (by omega)))).kept (grown_set _ _ _ _) (Or.inr (hne _ (by omega)))).kept (grown_set _ _ _ _) (Or.inr (hne _ (by omega)))),?_⟩
 exact (((hB3.out.trans (hbb.mono (by omega))).setCell (Nat.le_refl _) _).setCell (by simp) _).setCell (by simp;omega) _
theorem text_inv {s rom:S.By} (h:S.readText s = .ok rom):∃ stF,S.readLines s.length s 0 S.St.zero = .ok stF/\S.lay stF.places stF.uses stF.rom = .ok rom:=by
 unfold S.readText at h
 split at h
 ·rename_i st hst
  exact ⟨st,hst,h⟩
 ·cases h
theorem count_feeds (s:S.By) (w:World):Calls Tryz.prog 43 #[.string (Asmk s),.string ⟨#[10]⟩] w fun e w'=>e = .returned (.int .i64 (s.count 10:Nat))/\w=w' :=
 (Tryz.strings_Count_one (Asmk s) 10 w).mono fun e w' hh=>⟨hh.1,hh.2.symm⟩
theorem build_ok (s rom:S.By) (hl:s.length<=4000) (hc:s.count 10<=300) (hS:S.readText s = .ok rom) (w:World) (hF:AF w) :
 Calls Tryz.prog 21 #[.string (Asmk s)] w fun e w'=>∃ v,e = .returned (.tuple #[v,.int .i64 0,.int .i64 0])/\AssliceAt w' v rom/\Below w.heap.size w w':=by
 obtain ⟨stF,h1,h2⟩:=text_inv hS
 have HT:=hid (readText_ok s hl stF rom h1 h2 w hF)
 have hl1:¬ (4000:Int) < (Asmk s).size:=by rw [mk_size];omega
 have hc1:¬ (300:Int) < (s.count 10:Nat):=by omega
 clear hF hS h1 h2
 go_enter Tryz.func21,Tryz.ntmps21
 go_wp2_with (first
  | (go_at_call 43;refine (count_feeds s _).mono ?_;rintro e w' ⟨rfl,rfl⟩)
  | (go_at_call 44;refine HT.out.mono ?_;rintro e w1 ⟨v,rfl,hv,hb1⟩))
 go_ret3
 exact ⟨v,rfl,hv,hb1⟩
/-! ### bytes -/
/-! ### the closed fact -/
theorem pow_of_laid {W:World} {l:List (String × DataW Unit)} (h:laidMet Tryz.prog l W) (hm:("internal/strconv.uint64pow10",Rows.laid_internal_strconv_uint64pow10) ∈ l) :
 Lib.TabIs Tryz.prog W "internal/strconv.uint64pow10" .u64 Lib.pow10Tab:=by
 obtain ⟨g,t,cs,fuel,p,hg,ht,hv,hd⟩:=Lib.laidMet.reads h hm
 have e2:(Tryz.prog.globals[4]?).map (·.type)=some 340:=by kernel_rfl
 obtain rfl:=Option.some.inj (g_pow.symm.trans hg)
 obtain rfl:=Option.some.inj (e2.symm.trans ht)
 have e3:(Rows.laid_internal_strconv_uint64pow10:DataW Unit)=Lib.tabData .u64 Lib.pow10Tab:=by kernel_rfl
 rw [e3] at hd
 unfold Lib.TabIs
 rw [hv,<- Lib.cells_of_tab Tryz.underlying340 Tryz.underlying311 (by kernel_rfl) (by kernel_rfl) hd]
theorem af_of {W:World} {l:List (String × DataW Unit)} (h:laidMet Tryz.prog l W) (hs:W.ShapedOpen Tryz.prog) (h1:("internal/strconv.uint64pow10",Rows.laid_internal_strconv_uint64pow10) ∈ l) (h2:("marquee/order.shapes",Rows.laid_marquee_order_shapes) ∈ l):AF W :=
 ⟨pow_of_laid h h1,maxLen_cell hs,shapes_of_laid h h2⟩
def LockPartsWalk:Prop:=∀ (H:Type) (enc:TypeId × Value->H) (W:World) (base:Nat) (v0 v1 v2 v3:Value) (d0 d1 d2 d3:DataW H) (p0 p1 p2 p3:List MemPlace),AF W ->
 Value.okWide Tryz.prog W .any base (Tryz.f3.params.getD 0 0) v0->DataW.Trod enc Tryz.prog W 0 (fun _=>true) true (Tryz.f3.params.getD 0 0) v0 d0 p0->Value.okWide Tryz.prog W .any base (Tryz.f3.params.getD 1 0) v1->DataW.Trod enc Tryz.prog W 0 (fun _=>true) true (Tryz.f3.params.getD 1 0) v1 d1 p1->Value.okWide Tryz.prog W .any base (Tryz.f3.params.getD 2 0) v2->DataW.Trod enc Tryz.prog W 0 (fun _=>true) true (Tryz.f3.params.getD 2 0) v2 d2 p2->Value.okWide Tryz.prog W .any base (Tryz.f3.params.getD 3 0) v3->DataW.Trod enc Tryz.prog W 0 (fun _=>true) true (Tryz.f3.params.getD 3 0) v3 d3 p3 ->
 Calls Tryz.prog 3 #[v0,v1,v2,v3] W fun e w'=>e = .returned (.bool true)/\Below W.heap.size W w'
theorem lockParts_lifted (walk:LockPartsWalk) (os:Os) (started:os.Started) (H:Type) (enc:TypeId × Value->H) :
 ReturnsInHanded {} Tryz.checked os 3 .any (fun w args=>(Rows.lockPartsSpec.pre enc Tryz.prog Tryz.f3 [] false w args/\laidMetH Tryz.prog Rows.lockPartsRow.laid w)/\sizedMet enc Tryz.prog Tryz.f3 (OpenSpec.ofChange Rows.lockPartsSpec) false w args)
  (Rows.lockPartsSpec.post enc Tryz.prog Tryz.f3 false true false false):=by
 refine returns_and_shaped (C:=Tryz.checked) (X:=fun w _=>laidMetH Tryz.prog Rows.lockPartsRow.laid w) (fun _ _ _ hh h=>h.of_heap hh) own started (by kernel_rfl) Tryz.func3
  (ChangeSpec.witness_shaped (enc:=enc) (C:=Tryz.checked) (os:=os) (X:=fun w _=>laidMetH Tryz.prog Rows.lockPartsRow.laid w) false (World.laidAll Tryz.prog os Rows.lockPartsRow.laid) #[.agg #[.int .u16 0,.int .u16 0,.int .u16 0,.int .u16 0,.int .u16 0,.int .u16 0,.int .u16 0,.int .u16 0,.int .u16 0,.bool false,.bool false,.bool false,.bool false,.bool false,.bool false,.int .u16 0,.int .u16 0,.int .u16 0,.int .u16 0,.int .u16 0,.int .u16 0,.int .u16 0,.int .u16 0,.int .u16 0,.bool false,.bool false,.bool false,.bool false,.bool false,.bool false,.slice none 0 0,.slice none 0 0,.slice none 0 0,.slice none 0 0,.slice none 0 0,.int .u8 0,.bool false,.int .u8 0,.int .u8 0,.bool false,.int .u8 0,.int .u16 0,.int .u16 0,.bool false,.bool false,.int .u16 0,.int .u16 0,.int .u8 0,.bool false,.int .u16 0,.int .u16 0,.int .u16 0,.int .u8 0,.bool false,.int .u16 0,.int .u16 0,.int .u16 0,.int .u8 0,.bool false,.int .u16 0,.int .i64 0,.int .i64 0,.int .i64 0,.bool false,.int .i64 0,.int .u16 0,.int .u16 0,.bool false,.bool false,.int .u8 0,.int .u8 0,.bool false,.int .i64 0,.int .i64 0,.int .i64 0],.slice none 0 0,.int .i64 0,.int .i64 0] 8 (World.laidAll_os _ _ _)
    (World.shaped_of_ZipB (by kernel_rfl) (by kernel_rfl)) (by kernel_rfl) (by kernel_rfl) (by kernel_rfl)
    (by rw [MakeChecks.laidMetH_plain _ _ _ (by kernel_rfl)];exact laidMet_laidAll _ (by kernel_rfl) (by kernel_rfl))) ?_
 intro W base args ds gs before hval0 hW _ hwt hL hsh _
 have hval:∀ (j:Nat) t v,Tryz.f3.params[j]? = some t->args[j]? = some v->Value.okWide Tryz.prog W .any base t v:=hval0
 have hW':=hW
 obtain ⟨p,q,hA0,hV,rfl,_,_⟩:=hW
 have hA:DataW.TrodAll enc Tryz.prog W 0 (fun _=>true) true Tryz.f3.params.toList args.toList ds p:=hA0
 have hA1:=hA
 rw [Tryz.params3] at hA hval
 obtain ⟨v0,vs0,d0,ds0,p0,q0,hargs,rfl,rfl,h0,r0⟩:=trodAll_cons hA
 obtain ⟨v1,vs1,d1,ds1,p1,q1,rfl,rfl,rfl,h1,r1⟩:=trodAll_cons r0
 obtain ⟨v2,vs2,d2,ds2,p2,q2,rfl,rfl,rfl,h2,r2⟩:=trodAll_cons r1
 obtain ⟨v3,vs3,d3,ds3,p3,q3,rfl,rfl,rfl,h3,r3⟩:=trodAll_cons r2
 obtain ⟨rfl,rfl,rfl⟩:=trodAll_nil r3
 obtain rfl:args=#[v0,v1,v2,v3]:=by cases args;simp_all
 obtain ⟨rfl,rfl⟩:=trodVars_none hV
 rw [MakeChecks.laidMetH_plain _ _ _ (by kernel_rfl)] at hL
 have hlt:=fun x hx=>hW'.lt x (List.mem_append_left _ hx)
 refine (walk H enc W base v0 v1 v2 v3 d0 d1 d2 d3 _ _ _ _ (af_of hL hsh (by simp [Rows.lockPartsRow]) (by simp [Rows.lockPartsRow])) (hval 0 _ v0 rfl rfl) h0 (hval 1 _ v1 rfl rfl) h1 (hval 2 _ v2 rfl rfl) h2 (hval 3 _ v3 rfl rfl) h3).mono fun e W' ⟨he,hb⟩=>?_
 subst he
 exact ⟨_,rfl,_,_,_,[],_,[],hW',trodAll_mk1 (shut_bool Tryz.underlying4 _),trodAll_below_all (by kernel_rfl) hb (by kernel_rfl) hA1 hlt,rfl,hb.frame _,fun h=>by cases h⟩
theorem and_t {a b:Bool} (ha:a=true) (hb:b=true):(a && b)=true:=by rw [ha,hb];rfl
theorem lockParts_f0:(Rows.lockPartsRow.wf (OpenSpec.ofChange Rows.lockPartsSpec))=true:=by kernel_rfl
theorem lockParts_f1:(laidOutB Tryz.prog)=true:=by kernel_rfl
theorem lockParts_f2:(mapsRowed Tryz.prog)=true:=by kernel_rfl
theorem lockParts_f3:(Tryz.f3.params.all (Tryz.prog.readableRec ·))=true:=by kernel_rfl
theorem lockParts_f4:(namedTie Tryz.prog Rows.lockPartsRow.named Rows.lockPartsSpec.vars)=true:=by kernel_rfl
theorem lockParts_f5:((Rows.lockPartsRow.stops == []))=true:=by kernel_rfl
theorem lockParts_f6:((Tryz.prog.stops == []))=true:=by kernel_rfl
theorem lockParts_f7:((Rows.lockPartsRow.knobs == []))=true:=by kernel_rfl
theorem lockParts_f8:((Tryz.prog.stopKnobs == []))=true:=by kernel_rfl
theorem lockParts_f9:((Rows.lockPartsRow.inPlace == Tryz.prog.inPlace 3))=true:=by kernel_rfl
theorem lockParts_f10:((Rows.lockPartsRow.unfollowed == Tryz.prog.unfollowed 3))=true:=by kernel_rfl
theorem lockParts_f11:((Rows.lockPartsRow.recurses == Tryz.prog.recurses 3))=true:=by kernel_rfl
theorem lockParts_f12:((Rows.lockPartsRow.named == Tryz.prog.varsNamed 3))=true:=by kernel_rfl
theorem lockParts_f13:((Rows.lockPartsRow.maps == (Tryz.f3.params.toList++Rows.lockPartsSpec.plain.varTypes Tryz.prog).any (Tryz.prog.mapsRec ·)))=true:=by kernel_rfl
theorem lockParts_f14:((Rows.lockPartsRow.ifaces == (Tryz.f3.params.toList++Rows.lockPartsSpec.plain.varTypes Tryz.prog).any (Tryz.prog.ifacesRec ·)))=true:=by kernel_rfl
theorem lockParts_f15:((Rows.lockPartsRow.mapsOut == Tryz.prog.mapsAmong Tryz.f3.resultTypes.toList))=true:=by kernel_rfl
theorem lockParts_f16:((Rows.lockPartsRow.loops == (Tryz.f3.params.toList++Rows.lockPartsSpec.plain.varTypes Tryz.prog).any (Tryz.prog.loopsFrom ·)))=true:=by kernel_rfl
theorem lockParts_f17:((Rows.lockPartsRow.wideKeys == (Tryz.f3.params.toList++Rows.lockPartsSpec.plain.varTypes Tryz.prog++Tryz.f3.resultTypes.toList).any (Tryz.prog.wideKeysFrom ·)))=true:=by kernel_rfl
theorem lockParts_f18:(Rows.lockPartsSpec.vars.all (Tryz.prog.varReadable ·))=true:=by kernel_rfl
theorem lockParts_f19:(Tryz.f3.resultTypes.all (fun t=>Tryz.prog.readableRec t && decide (t < Tryz.prog.types.size)))=true:=by kernel_rfl
theorem lockParts_f20:((Rows.lockPartsRow.ifacesOut == Tryz.f3.resultTypes.toList.any (Tryz.prog.ifacesRec ·)))=true:=by kernel_rfl
theorem lockParts_f21:((Rows.lockPartsRow.loopsOut == Tryz.f3.resultTypes.toList.any (Tryz.prog.loopsFrom ·)))=true:=by kernel_rfl
theorem lockParts_f22:((Rows.lockPartsRow.plainKeys == Tryz.prog.plainKeys))=true:=by kernel_rfl
theorem lockParts_f23:(Rows.lockPartsRow.shortTexts.isNone)=true:=by kernel_rfl
theorem lockParts_f24:(Tryz.prog.stopsHeard)=true:=by kernel_rfl
theorem lockParts_f25:(Tryz.prog.mayEnter)=true:=by kernel_rfl
theorem lockParts_f26:((Rows.lockPartsRow.lifted == Tryz.prog.liftsFinal))=true:=by kernel_rfl
theorem lockParts_f27:((Tryz.prog.make == some Rows.lockPartsRow.make))=true:=by kernel_rfl
theorem lockParts_f28:((Rows.lockPartsRow.kinds == (if Rows.lockPartsRow.domain.isEmpty then [] else Tryz.f3.params.toList.map fun t=>match Tryz.prog.underlying t with | some (.int k)=>some k | _=>none)))=true:=by kernel_rfl
theorem lockParts_f29:((Rows.lockPartsRow.pinned == Rows.lockPartsRow.pinnedBy))=true:=by kernel_rfl
theorem lockParts_f30:((Rows.lockPartsRow.veiled == (Tryz.f3.params.toList++Rows.lockPartsSpec.plain.varTypes Tryz.prog++Tryz.f3.resultTypes.toList).any (Tryz.prog.veiledRec ·)))=true:=by kernel_rfl
theorem lockParts_f31:(Rows.lockPartsRow.veiledFits Tryz.prog Tryz.f3.params.toList (Tryz.f3.params.toList++Rows.lockPartsSpec.plain.varTypes Tryz.prog++Tryz.f3.resultTypes.toList))=true:=by kernel_rfl
theorem lockParts_facts:joinedFacts Tryz.prog 3 Tryz.f3 Rows.lockPartsSpec Rows.lockPartsRow=true:=and_t (and_t (and_t (and_t (and_t (and_t (and_t (and_t (and_t (and_t (and_t (and_t (and_t (and_t (and_t (and_t (and_t (and_t (and_t (and_t (and_t (and_t (and_t (and_t (and_t (and_t (and_t (and_t (and_t (and_t (and_t (lockParts_f0) lockParts_f1) lockParts_f2) lockParts_f3) lockParts_f4) lockParts_f5) lockParts_f6) lockParts_f7) lockParts_f8) lockParts_f9) lockParts_f10) lockParts_f11) lockParts_f12) lockParts_f13) lockParts_f14) lockParts_f15) lockParts_f16) lockParts_f17) lockParts_f18) lockParts_f19) lockParts_f20) lockParts_f21) lockParts_f22) lockParts_f23) lockParts_f24) lockParts_f25) lockParts_f26) lockParts_f27) lockParts_f28) lockParts_f29) lockParts_f30) lockParts_f31
theorem lockParts_row (walk:LockPartsWalk):Rows.LockPartsSaid :=
 OpenClaim.holds_of_wide 3 Tryz.f3 rfl rfl rfl rfl rfl rfl rfl ⟨rfl,rfl,rfl,rfl,rfl⟩ rfl rfl rfl rfl rfl (by kernel_rfl) Tryz.func3 lockParts_facts
  (of_decide_eq_true (by kernel_rfl)) (by unfold Func.isWrapper;first | (rw [if_pos (by decide +kernel)];kernel_rfl) | (rw [if_neg (by decide +kernel)];exact ⟨rfl,rfl⟩))
  (fun os started H enc _=>lockParts_lifted walk os started H enc)
theorem lockParts_card (walk:LockPartsWalk):Rows.LockPartsCardSaid :=
 Claim7.holds_tied_plain_at .later [] _ true _ true (lockParts_row walk) (fun _ h=>by cases h) (by kernel_rfl) (fun _ h=>by cases h) lockParts_row_tie rfl ⟨rfl,rfl⟩ (by kernel_rfl) rfl
  (fun f fn hf hfn=>by
    obtain rfl:f=3:=Option.some.inj ((show Tryz.prog.funcNamed "marquee/marqueelaw.LockParts" = some 3 by kernel_rfl).symm.trans hf) |>.symm
    obtain rfl:fn=Tryz.f3:=(Option.some.inj (Tryz.func3.symm.trans hfn)).symm
    exact ⟨by kernel_rfl,fun j t ht=>by
     have hm:t ∈ Tryz.f3.params.toList:=List.mem_of_getElem? (i:=j) (by rw [Array.getElem?_toList];exact ht)
     have hall:Tryz.f3.params.toList.all (fun t=>!(Tryz.prog.wantsStandIn t))=true:=by kernel_rfl
     have:=List.all_eq_true.1 hall t hm
     exact Bool.not_eq_true' _ ▸ this⟩)
  (by kernel_rfl)
theorem cycles_yes (k:Nat) (hk:k < 32) (h30:k ≠ 30) (w:World) (hs:shapesAt w) :
 Calls Tryz.prog 175 #[.int .i64 k] w fun e w'=>e = .returned (.tuple #[.int .i64 (K.cyc k),.int .i64 (lenOf (O.mask k)),.int .i64 0])/\Below w.heap.size w w':=by
 have HS:=hid hs
 clear hs
 go_enter Tryz.func175,Tryz.ntmps175
 go_wp2_with (go_at_call 155;refine (shape_yes k hk h30 _ HS.out).mono ?_;rintro e w1 ⟨rfl,hb1⟩)
 go_region_held3 (fun w'=>w'.cell? ⟨w1.heap.size,0,none⟩=some (.string (O.nameS k))/\w'.cell? ⟨w1.heap.size,1,none⟩=some (.int .i64 (K.cyc k))/\w'.cell? ⟨w1.heap.size,2,none⟩=some (.int .i64 (O.mask k)))
  (first
    | go_keep
    | (go_split_ands
       refine ⟨?_,?_,?_⟩
       ·(rw [hb2.cell (by simp)];assumption)
       ·(rw [hb2.cell (by simp)];assumption)
       ·(rw [hb2.cell (by simp)];assumption)))
  ((go_at_call 206;refine (words_any _ _ k hk _).mono ?_;rintro e w2 ⟨rfl,hb2⟩))
 go_wp2
 go_ret3
 exact ⟨rfl,stp (stA hb1 _).drew hb2⟩
end Go.Proofs.YtbhpfkjfijdmaaaGreatDoor
namespace Go.Proofs.YtbhpfkjfijdmaaaGreatDoor.C
set_option linter.unusedVariables false
set_option maxRecDepth 100000
set_option maxHeartbeats 1600000
structure Cpu where
 R:List Int
 PC:Int
 Z:Bool
 N:Bool
 C:Bool
 V:Bool
 May:Bool
 Waits:Bool
deriving DecidableEq
structure Mem (σ : Type) where
 rd:σ->Int->Int × σ
 wr:σ->Int->Int->σ
 fuel:σ->Nat:=fun _=>4
structure St (σ : Type) where
 c:Cpu
 s:σ
 n:Int
def Cpu.r (c:Cpu) (i:Int):Int:=c.R.getD i.toNat 0
def Cpu.set (c:Cpu) (i:Int) (x:Int):Cpu:={ c with R:=c.R.set i.toNat x }
def Cpu.zero:Cpu:=⟨[0,0,0,0,0,0,0,0],0,false,false,false,false,false,false⟩
def sign (c:Cpu):Int:=(if c.Z then 1 else 0)+(if c.N then 2 else 0)+(if c.C then 4 else 0)+(if c.V then 8 else 0)+(if c.May then 16 else 0)
def Cpu.ok (c:Cpu):Prop:=c.R.length=8/\(∀ x ∈ c.R,0<=x/\x<=65535)/\0<=c.PC/\c.PC<=65535
section
variable {σ : Type} (m : Mem σ)
def Mem.rdw (s:σ) (a:Int):Int × σ:=((m.rd s a).1 * 256+(m.rd (m.rd s a).2 ((a+1) % 65536)).1,(m.rd (m.rd s a).2 ((a+1) % 65536)).2)
def Mem.wrw (s:σ) (a n:Int):σ:=m.wr (m.wr s a (n / 256)) ((a+1) % 65536) (n % 256)
def push (x:St σ) (n:Int):St σ:=⟨x.c.set 7 ((x.c.r 7 - 2) % 65536),m.wrw x.s ((x.c.r 7 - 2) % 65536) n,x.n⟩
def popV (x:St σ):Int:=(m.rdw x.s (x.c.r 7)).1
def pop (x:St σ):St σ:=⟨x.c.set 7 ((x.c.r 7+2) % 65536),(m.rdw x.s (x.c.r 7)).2,x.n⟩
def toPC (x:St σ) (a:Int):St σ:={ x with c:={ x.c with PC:=a } }
def leave (x:St σ) (at':Int):St σ :=
 let y:=push m (push m x x.c.PC) (sign (push m x x.c.PC).c)
 ⟨{ y.c with May:=false,Waits:=false,PC:=(m.rdw y.s at').1 },(m.rdw y.s at').2,y.n⟩
def comeBack (x:St σ):St σ :=
 let n:=popV m x
 let y:=pop m x
 let z:=pop m y
 ⟨{ z.c with PC:=popV m y,Z:=decide (n % 2=1),N:=decide (n / 2 % 2=1),C:=decide (n / 4 % 2=1),V:=decide (n / 8 % 2=1),May:=decide (n / 16 % 2=1) },z.s,z.n⟩
def setR (x:St σ) (d v:Int):St σ:={ x with c:=x.c.set d v }
def signs (x:St σ) (n:Int) (c v:Bool):St σ:={ x with c:={ x.c with Z:=n == 0,N:=decide (32768<=n),C:=c,V:=v } }
def flN (k:Nat) (a b:Int):Int:=if k=7 \/ k=15 then M.addN a b else if k=8 \/ k=14 then M.subN a b else if k=9 then bits .and .u16 a b else if k=10 then bits .or .u16 a b else if k=11 then bits .xor .u16 a b else M.mulN a b
def flC (k:Nat) (a b:Int):Bool:=if k=7 \/ k=15 then M.addC a b else if k=8 \/ k=14 then M.subC a b else if k=9 \/ k=10 \/ k=11 then false else M.mulC a b
def flV (k:Nat) (a b:Int):Bool:=if k=7 \/ k=15 then M.addV a b else if k=8 \/ k=14 then M.subV a b else false
def reckon (x:St σ) (k:Nat) (a b:Int):St σ:=signs x (flN k a b) (flC k a b) (flV k a b)
def jump (x:St σ) (w:Int):St σ:=⟨{ x.c with PC:=w },x.s,x.n+1⟩
def both (x:St σ) (k:Nat) (d s:Int):St σ:=setR (reckon x k (x.c.r d) (x.c.r s)) d (flN k (x.c.r d) (x.c.r s))
def shift (x:St σ) (d n:Int) (o:Bool):St σ:=setR (signs x n o false) d n
def act (x:St σ) (k:Nat) (d s n w:Int):St σ :=
 match k with
 | 1=>setR x d (x.c.r s)
 | 2=>setR x d w
 | 3=>⟨x.c.set d (m.rdw x.s ((x.c.r s+n) % 65536)).1,(m.rdw x.s ((x.c.r s+n) % 65536)).2,x.n⟩
 | 4=>{ x with s:=m.wrw x.s ((x.c.r d+n) % 65536) (x.c.r s) }
 | 5=>⟨x.c.set d (m.rd x.s ((x.c.r s+n) % 65536)).1,(m.rd x.s ((x.c.r s+n) % 65536)).2,x.n⟩
 | 6=>{ x with s:=m.wr x.s ((x.c.r d+n) % 65536) (x.c.r s % 256) }
 | 7=>both x 7 d s
 | 8=>both x 8 d s
 | 9=>both x 9 d s
 | 10=>both x 10 d s
 | 11=>both x 11 d s
 | 12=>shift x d (M.shlN (x.c.r d) n) (M.shlC (x.c.r d) n)
 | 13=>shift x d (M.shrN (x.c.r d) n) (M.shrC (x.c.r d) n)
 | 14=>reckon x 14 (x.c.r d) (x.c.r s)
 | 15=>setR (reckon x 15 (x.c.r d) (n % 65536)) d (flN 15 (x.c.r d) (n % 65536))
 | 16=>jump x w
 | 17=>if x.c.Z then jump x w else x
 | 18=>if x.c.N then jump x w else x
 | 19=>if x.c.C then jump x w else x
 | 20=>toPC (push m x x.c.PC) w
 | 21=>toPC (pop m x) (popV m x)
 | 22=>push m x (x.c.r s)
 | 23=>setR (pop m x) d (popV m x)
 | 24=>{ x with c:={ x.c with May:=true } }
 | 25=>{ x with c:={ x.c with May:=false } }
 | 26=>comeBack m x
 | 27=>{ x with c:={ x.c with Waits:=true } }
 | 28=>both x 28 d s
 | 29=>if x.c.Z then x else jump x w
 | 31=>leave m x 4
 | _=>x
def word1 (c:Cpu) (s:σ):Int:=(m.rdw s c.PC).1
def word2 (c:Cpu) (s:σ):Int:=if O.rLen (word1 m c s)=2 then (m.rdw (m.rdw s c.PC).2 ((c.PC+2) % 65536)).1 else 0
def behind (c:Cpu) (s:σ):St σ :=
 ⟨{ c with PC:=(c.PC+2 * O.rLen (word1 m c s)) % 65536 },if O.rLen (word1 m c s)=2 then (m.rdw (m.rdw s c.PC).2 ((c.PC+2) % 65536)).2 else (m.rdw s c.PC).2,0⟩
def order (c:Cpu) (s:σ):St σ :=
 act m { behind m c s with n:=K.cyc (O.rk (word1 m c s)) } (O.rk (word1 m c s)) (O.rD (word1 m c s)) (O.rS (word1 m c s)) (O.rN (word1 m c s)) (O.rW (word1 m c s) (word2 m c s))
def step (c:Cpu) (s:σ) (rings:Bool):St σ :=
 if rings && c.May then { leave m ⟨c,s,0⟩ 2 with n:=6 }
 else if c.Waits then ⟨c,s,1⟩
 else order m c s
end
/-! ### what is in range stays in range -/
theorem Cpu.r_bd {c:Cpu} (h:c.ok) (i:Int):0<=c.r i/\c.r i<=65535:=by
 unfold Cpu.r
 by_cases hi:i.toNat < c.R.length
 ·rw [List.getD_eq_getElem?_getD,List.getElem?_eq_getElem hi]
  exact h.2.1 _ (List.getElem_mem hi)
 ·rw [List.getD_eq_getElem?_getD,List.getElem?_eq_none (by omega)];simp
theorem Cpu.ok_set {c:Cpu} (h:c.ok) (i x:Int) (h0:0<=x) (h1:x<=65535):(c.set i x).ok:=by
 refine ⟨by simp [Cpu.set,h.1],fun y hy=>?_,h.2.2.1,h.2.2.2⟩
 rcases List.mem_or_eq_of_mem_set hy with hy | rfl
 ·exact h.2.1 y hy
 ·exact ⟨h0,h1⟩
theorem Cpu.r_set {c:Cpu} (h:c.ok) (i:Nat) (hi:i < 8) (x:Int):(c.set i x).r i=x:=by
 unfold Cpu.r Cpu.set
 simp only [Int.toNat_natCast]
 rw [List.getD_eq_getElem?_getD,List.getElem?_set_self (by rw [h.1];exact hi)]
 rfl
theorem Cpu.ok_pc {c:Cpu} (h:c.ok) (x:Int) (h0:0<=x) (h1:x<=65535):Cpu.ok { c with PC:=x }:=⟨h.1,h.2.1,h0,h1⟩
theorem sign_bd (c:Cpu):0<=sign c/\sign c<=31:=by unfold sign;split <;> split <;> split <;> split <;> split <;> omega
def Mem.ok {σ:Type} (m:Mem σ) (J:σ->Prop):Prop:=(∀ s a,J s->0<=(m.rd s a).1/\(m.rd s a).1<=255/\J (m.rd s a).2) /\ ∀ s a b,J s->0<=b->b<=255->J (m.wr s a b)
end Go.Proofs.YtbhpfkjfijdmaaaGreatDoor.C
