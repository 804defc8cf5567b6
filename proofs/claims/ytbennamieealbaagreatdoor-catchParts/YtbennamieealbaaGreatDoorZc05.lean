/-
  Parts of a proof, joined.
-/
import Derived.Test.YtbennamieealbaaGreatDoorZc04
set_option linter.unusedVariables false
set_option maxRecDepth 100000
set_option maxHeartbeats 1600000
namespace Go.Proofs.YtbennamieealbaaGreatDoor
open Go.ChangeShapes Go.WideShapes Go.ChangeAt Go.RowKit
def strsAt (w:World) (g:Nat) (ps:List S.By):Prop:=∀ (j:Nat) (s:S.By),ps[j]? = some s->w.cell? ⟨g,j,none⟩=some (.string (Asmk s))
theorem strsAt.kept {w w':World} {g B:Nat} {ps:List S.By} (h:strsAt w g ps) (hb:Below B w w') (hB:g<B):strsAt w' g ps:=λj s hj=>(hb.cell hB).trans (h j s hj)
theorem zcG {called:S.By} {ps:List S.By} {ln:Nat} {st st':S.St} (h:S.readOrder called ps ln st = .ok st'):∃ k o nm,S.opOf called=some k/\k<32/\k≠30/\ps.length=(S.parts k).length/\S.readParts (S.parts k) ps S.Ord.zero []=some (o,nm)/\O.okB k o.d o.s o.n o.w=true/\S.put (O.words k o.d o.s o.n o.w) nm ln st = .ok st':=by
 unfold S.readOrder at h
 split at h
 ·cases h
 ·rename_i k hk
  have hm:=List.mem_of_find?_eq_some hk
  have hp:=List.find?_some hk
  have hk32:k<32:=by simpa using hm
  have hk30:k≠30:=by simp at hp;exact hp.1
  split at h
  ·rename_i hl
   split at h
   ·cases h
   ·rename_i o nm hr
    split at h
    ·rename_i hc
     refine ⟨k,o,nm,hk,hk32,hk30,hl,hr,?_,h⟩
     unfold O.ck at hc
     rw [(O.isOp_iff _).2 ⟨by omega,by omega,by omega⟩,Int.toNat_natCast] at hc
     cases hb:O.okB k o.d o.s o.n o.w
     ·rw [hb] at hc;simp at hc
     ·rfl
    ·cases h
  ·cases h
theorem drop_at {α:Type} {l:List α} {j:Nat} {x:α} (h:l[j]? = some x):l.drop j=x::l.drop (j+1):=by
 obtain ⟨hl,e⟩:=List.getElem?_eq_some_iff.1 h
 rw [List.drop_eq_getElem_cons hl,e]
theorem zep {k j p:Nat} {ps:List S.By} {s:S.By} {o:S.Ord} {nm:S.By} {r:S.Ord × S.By} (hp:(S.parts k)[j]? = some p) (hs:ps[j]? = some s) (h:S.readParts ((S.parts k).drop j) (ps.drop j) o nm=some r) :
 ∃ x,S.readPart p s o nm=some x/\S.readParts ((S.parts k).drop (j+1)) (ps.drop (j+1)) x.1 x.2=some r:=by
 rw [drop_at hp,drop_at hs] at h
 simp only [S.readParts] at h
 cases hx:S.readPart p s o nm with
 | none=>rw [hx] at h;cases h
 | some x=>rw [hx] at h;exact ⟨x,rfl,h⟩
theorem zpu (s:ByteArray) (v:Int) (h:S.reg (bs s)=some v) (w:World):Calls Tryz.prog 249 #[.string s] w λe w'=>e = .returned (.tuple #[.int .i64 v,.bool true])/\w=w':=by
 have:=zdi s w
 rw [h] at this
 exact this.mono λe w' hh=>⟨hh.1,hh.2.symm⟩
theorem zfD (p:Option Addr) (v:Int) (w:World):Calls Tryz.prog 247 #[.pointer p,.int .i64 v,.bool true] w λe w'=>e = .returned (.int .i64 v)/\w=w':=(zi0 p v w).mono λe w' hh=>⟨hh.1,hh.2.symm⟩
theorem zru (g:Nat) (w:World):Calls Tryz.prog 246 #[.int .i64 0,.pointer (some ⟨g,0,none⟩)] w λe w'=>e = .returned (.pointer (some ⟨g,1,none⟩))/\w=w':=(of_0 g w).mono λe w' hh=>⟨hh.1,hh.2.symm⟩
theorem zrv (g:Nat) (w:World):Calls Tryz.prog 246 #[.int .i64 1,.pointer (some ⟨g,0,none⟩)] w λe w'=>e = .returned (.pointer (some ⟨g,2,none⟩))/\w=w':=(of_1 g w).mono λe w' hh=>⟨hh.1,hh.2.symm⟩
theorem zrw (g:Nat) (w:World):Calls Tryz.prog 246 #[.int .i64 2,.pointer (some ⟨g,0,none⟩)] w λe w'=>e = .returned (.pointer (some ⟨g,4,none⟩))/\w=w':=(of_2 g w).mono λe w' hh=>⟨hh.1,hh.2.symm⟩
theorem zrx (g:Nat) (w:World):Calls Tryz.prog 246 #[.int .i64 3,.pointer (some ⟨g,0,none⟩)] w λe w'=>e = .returned (.pointer (some ⟨g,3,none⟩))/\w=w':=(of_3 g w).mono λe w' hh=>⟨hh.1,hh.2.symm⟩
theorem zpX (k:Nat) (o:S.Ord) (p:Nat) (hp:p<4) (v:Int):(ordCells k o).setIfInBounds (offP p) (.int .i64 v)=ordCells k (o.set p v):=by
 have hc:p=0 \/ p=1 \/ p=2 \/ p=3:=by omega
 rcases hc with rfl|rfl|rfl|rfl <;> rfl
def ordAt (w:World) (g k:Nat) (o:S.Ord):Prop:=w.heap[g]? = some (.cells (ordCells k o) 225 (0,0))
theorem ordAt.kept {w w':World} {g k:Nat} {o:S.Ord} (h:ordAt w g k o) (hb:Below w.heap.size w w'):ordAt w' g k o:=(hb.block g (Array.getElem?_eq_some_iff.1 h).1).trans h
theorem ordAt.lt {w:World} {g k:Nat} {o:S.Ord} (h:ordAt w g k o):g<w.heap.size:=(Array.getElem?_eq_some_iff.1 h).1
theorem ordAt.frozen {w:World} {g k:Nat} {o:S.Ord} (h:ordAt w g k o) (i:Nat):w.frozen? ⟨g,i,none⟩=false:=Lib.frozen_of_heap h i
theorem ordAt.cell {w:World} {g k:Nat} {o:S.Ord} (h:ordAt w g k o) (i:Nat):w.cell? ⟨g,i,none⟩=(ordCells k o)[i]?:=Lib.cell_of_heap h i
theorem ordAt.set {w:World} {g k:Nat} {o:S.Ord} (h:ordAt w g k o) (p:Nat) (hp:p<4) (v:Int):ordAt (w.setCell ⟨g,offP p,none⟩ (.int .i64 v)) g k (o.set p v):=by
 unfold ordAt
 rw [zbl h,zpX k o p hp v]
theorem zg0 {w:World} {mo:Nat} (h:mapS w mo (opsTo 32)) (c:S.By) (k:Nat) (hk:S.opOf c=some k):(Instr.lookup 174 (.map (some mo)) (.string (Asmk c)) true).run Tryz.prog w = .ok (.tuple #[.int .i64 k,.bool true]) w:=by
 have:=zfy (P:=Tryz.prog) Tryz.underlying174 Tryz.underlying9 h (Asmk c) (zfC w)
 rw [znC,bs_mk,hk] at this
 exact this
theorem znE {k:Nat} (hk:k<32) {o:S.Ord} (hok:O.okB k o.d o.s o.n o.w=true):∀ x∈O.words k o.d o.s o.n o.w,0<=x/\x<=65535:=by
 obtain ⟨b1,b2,b3,b4⟩:=O.ok_bd hok
 have hf:=O.first_bd (op:=(k:Int)) (n:=o.n) ⟨by omega,by omega⟩ b1 b2
 intro x hx
 unfold O.words at hx
 split at hx
 ·simp at hx;rcases hx with rfl|rfl
  ·exact hf
  ·exact b4
 ·simp at hx;subst hx;exact hf
theorem zg1 (k:Nat) (o:S.Ord):0<(O.words k o.d o.s o.n o.w).length:=by unfold O.words;split <;> simp
theorem putWords (w:World) (B b mo mp:Nat) (ua ra:Option Addr) (uc rc:Nat) (st st':S.St) (ln:Nat) (hR:Rd w B b mo mp ua uc ra rc st ln) (w2:World) (hb2:Below w.heap.size w w2) (g:Nat) (hg0:w.heap.size<=g) (hg:g<w2.heap.size) (k:Nat) (hk:k<32) (o:S.Ord) (hok:O.okB k o.d o.s o.n o.w=true)
 (hw:wordsAt w2 g (O.words k o.d o.s o.n o.w)) (nm:S.By) (hS:S.put (O.words k o.d o.s o.n o.w) nm ln st = .ok st') (hBw:B<=w.heap.size) (hul0:st.uses.length+1<=1000000) :
 Calls Tryz.prog 244 #[.pointer (some ⟨b,0,none⟩),.slice (some ⟨g,0,none⟩) (O.words k o.d o.s o.n o.w).length (O.words k o.d o.s o.n o.w).length,.string (Asmk nm)] w2 λe w' =>
  e = .returned (.tuple #[])/\(∃ ua' uc' ra' rc',Rd w' B b mo mp ua' uc' ra' rc' st' ln)/\Below B w2 w':=by
 have hlt:=hR.lt
 refine zkM w2 B b mo mp ua ra uc rc st st' ln (hR.kept hb2) g _ _ nm hS hw hg (λh=>?_) (by omega) (znE hk hok) (zg1 k o) (Nat.le_refl _) (Nat.le_trans hBw hb2.size) hul0
 have:=(hR.rom.lt _ h).2;omega
theorem zg2 (k:Nat) (hk:k<32) (h30:k≠30) (o:S.Ord) (hok:O.okB k o.d o.s o.n o.w=true) (w:World) (hs:shapesAt w) :
 Calls Tryz.prog 250 #[.agg #[.int .i64 k,.int .i64 o.d,.int .i64 o.s,.int .i64 o.n,.int .i64 o.w]] w λe w' =>
  ∃ g,e = .returned (.tuple #[.slice (some ⟨g,0,none⟩) (O.words k o.d o.s o.n o.w).length (O.words k o.d o.s o.n o.w).length,.int .i64 0])/\wordsAt w' g (O.words k o.d o.s o.n o.w)/\w.heap.size<=g/\g<w'.heap.size/\Below w.heap.size w w' :=
 zkC k o.d o.s o.n o.w ((O.isOp_iff _).2 ⟨by omega,by omega,by omega⟩) hok w hs
theorem zh6 (w:World) (B b mo mp:Nat) (ua ra:Option Addr) (uc rc:Nat) (st st':S.St) (ln:Nat) (hR:Rd w B b mo mp ua uc ra rc st ln) (called:S.By) (k:Nat) (hop:S.opOf called=some k) (hk:k<32) (h30:k≠30) (hp:S.parts k=[]) (nm:S.By) (hput:S.put (O.words k 0 0 0 0) [] ln st = .ok st') (hok:O.okB k 0 0 0 0=true) (a0:Option Addr) (c0:Nat) (hBw:B<=w.heap.size) (hul0:st.uses.length+1<=1000000) (hF:AF w) :
 Calls Tryz.prog 214 #[.pointer (some ⟨b,0,none⟩),.string (Asmk called),.slice a0 0 c0] w λe w' =>
  e = .returned (.tuple #[])/\(∃ ua' uc' ra' rc',Rd w' B b mo mp ua' uc' ra' rc' st' ln)/\Below B w w':=by
 have hlk:=zg0 hR.ops called k hop
 have hc0:w.cell? ⟨b,0,none⟩=some (.map (some mo)):=hR.cell 0
 have hlt:=hR.lt
 have HR:=hid hR
 have HP:=hid hp
 have HF:=hid hF
 have HPUT:=hid hput
 have HOK:=hid hok
 clear hR hp hF hput hop hok
 go_enter Tryz.func214,Tryz.ntmps214
 go_wp2_with (go_at_call 245;refine (zkG k hk h30 HP.out _ HF.out.shapes).mono ?_;rintro e w1 ⟨a1,cap1,rfl,hb1⟩)
 go_loop [10,42] (λn i=>n = .string ⟨#[]⟩/\i = .int .i64 0) (λ_ _=>0)
 case atStart=>exact ⟨rfl,rfl⟩
 case round =>
  obtain ⟨rfl,rfl⟩:=hrel
  go_wp2_with (first
   | (go_at_call 250;refine (zg2 k hk h30 S.Ord.zero HOK.out _ (zdx (HF.out.kept hb1) _).shapes).mono ?_;rintro e w2 ⟨g,rfl,hw2,hg0,hg2,hb2⟩)
   | (go_at_call 244;refine (putWords _ B b mo mp ua ra uc rc st st' ln (HR.out.kept (stA hb1 (.cells #[.int .i64 k,.int .i64 0,.int .i64 0,.int .i64 0,.int .i64 0] 225))) w2 hb2 g hg0 hg2 k hk S.Ord.zero HOK.out hw2 [] HPUT.out (Nat.le_trans hBw (stA hb1 (.cells #[.int .i64 k,.int .i64 0,.int .i64 0,.int .i64 0,.int .i64 0] 225)).size) hul0).mono ?_;rintro e w3 ⟨rfl,hR3,hb3⟩))
  go_end0
  exact ⟨rfl,hR3,(bB hBw (stp (stA hb1 _) hb2)).trans hb3⟩
theorem zh7 (w:World) (B b mo mp:Nat) (ua ra:Option Addr) (uc rc:Nat) (st st':S.St) (ln:Nat) (hR:Rd w B b mo mp ua uc ra rc st ln) (called:S.By) (k:Nat) (hop:S.opOf called=some k) (hk:k<32) (h30:k≠30) (hp:0<(S.parts k).length) (oF:S.Ord) (nmF:S.By) (ps:List S.By) (hpl:ps.length=(S.parts k).length) (hps:∀ s∈ps,s.length<=4000) (hrp:S.readParts (S.parts k) ps S.Ord.zero []=some (oF,nmF)) (hok:O.okB k oF.d oF.s oF.n oF.w=true)
 (hput:S.put (O.words k oF.d oF.s oF.n oF.w) nmF ln st = .ok st') (gp cp:Nat) (hcp:(S.parts k).length<=cp) (hgp:gp<w.heap.size) (hsp:strsAt w gp ps) (hBw:B<=w.heap.size) (hul0:st.uses.length+1<=1000000) (hF:AF w) :
 Calls Tryz.prog 214 #[.pointer (some ⟨b,0,none⟩),.string (Asmk called),.slice (some ⟨gp,0,none⟩) (S.parts k).length cp] w λe w' =>
  e = .returned (.tuple #[])/\(∃ ua' uc' ra' rc',Rd w' B b mo mp ua' uc' ra' rc' st' ln)/\Below B w w':=by
 have hlk:=zg0 hR.ops called k hop
 have hc0:w.cell? ⟨b,0,none⟩=some (.map (some mo)):=hR.cell 0
 have hlt:=hR.lt
 have HR:=hid hR
 have HF0:=hid hF
 have HPUT:=hid hput
 have HOK:=hid hok
 have HPS:=hid hps
 have HSP:=hid hsp
 have HRP:=hid hrp
 have h4:=znz k
 clear hR hF hput hop hok hps hsp hrp
 go_enter Tryz.func214,Tryz.ntmps214
 go_wp2_with (go_at_call 245;refine (zkH k hk h30 hp _ HF0.out.shapes).mono ?_;rintro e w1 ⟨g1,cap1,rfl,hpa,hg1,hg1',hcap1,hb1⟩)
 have HF:=hid (HF0.out.kept hb1)
 have HR1:=hid (HR.out.kept hb1)
 have HSP1:=hid (HSP.out.kept hb1 hgp)
 have hPA:=hid hpa
 have hsz1:=hb1.size
 clear hpa
 go_loopw [10,42] (λn i wr=>∃ (j:Nat) (o:S.Ord) (nm:S.By),j<=(S.parts k).length/\i = .int .i64 j/\n = .string (Asmk nm)/\S.readParts ((S.parts k).drop j) (ps.drop j) o nm=some (oF,nmF)/\ordAt wr w1.heap.size k o/\Below w1.heap.size w1 wr) (λ_ i _=>(S.parts k).length-(intOf i).toNat)
 case atStart=>exact ⟨0,S.Ord.zero,[],by omega,rfl,rfl,HRP.out,heap_alloc_new w1 _,stA (st0 _) _⟩
 case round =>
  obtain ⟨j,o,nm,hj,rfl,rfl,hrd,hO,hbl⟩:=hrel
  have hszr:=hbl.size
  have hO:=hid hO
  by_cases hlt2:j<(S.parts k).length
  ·obtain ⟨p,hpj⟩:∃ p,(S.parts k)[j]? = some p:=⟨_,List.getElem?_eq_getElem hlt2⟩
   obtain ⟨s,hsj⟩:∃ s,ps[j]? = some s:=⟨_,List.getElem?_eq_getElem (by omega)⟩
   obtain ⟨x,hx,hnext⟩:=zep hpj hsj hrd
   have hp4:=zny hpj
   have hsl:=HPS.out s (List.mem_of_getElem? hsj)
   have cs:wr.cell? ⟨gp,j,none⟩=some (.string (Asmk s)):=(HSP1.out.kept hbl (by omega)) j s hsj
   have ck:wr.cell? ⟨g1,j,none⟩=some (.int .i64 p):=(hPA.out.kept hbl hg1') j p hpj
   have hgpr:gp<wr.heap.size:=by omega
   have hg1r:g1<wr.heap.size:=by omega
   have hjI:(j:Int)<(S.parts k).length:=by omega
   have HN2:=hid hnext
   clear hrd hnext hpj hsj
   have hc:p=0 \/ p=1 \/ p=2 \/ p=3:=by omega
   clear hp4
   rcases hc with rfl|rfl|rfl|rfl
   ·obtain ⟨y,hy,rfl⟩:∃ y,S.reg s=some y/\x=(o.set 0 y,nm):=by
     simp only [S.readPart,show ¬ (0:Nat)=2 by omega,show ¬ (0:Nat)=3 by omega,if_false] at hx
     cases hw:S.reg s with
     | none=>rw [hw] at hx;cases hx
     | some y=>rw [hw] at hx;exact ⟨y,rfl,(Option.some.inj hx).symm⟩
    have HY:=hid hy
    have f2:=hO.out.frozen 1
    have z2:=hO.out.lt
    have d2:wr.cell? ⟨w1.heap.size,1,none⟩=some (.int .i64 o.d):=hO.out.cell 1
    clear hy
    clear hx
    go_wp2_with (first
     | (go_at_call 246;refine (zru _ _).mono ?_;rintro e w' ⟨rfl,rfl⟩)
     | (go_at_call 249;refine (zpu (Asmk s) y HY.out _).mono ?_;rintro e w' ⟨rfl,rfl⟩)
     | (go_at_call 247;refine (zfD _ y _).mono ?_;rintro e w' ⟨rfl,rfl⟩))
    go_roundw
    case rel=>exact ⟨j+1,o.set 0 y,nm,by omega,by go_num,rfl,HN2.out,(hO.out.set 0 (by omega) y),hbl.setCell (Nat.le_refl _) _⟩
    case measure=>simp [intOf];omega
   ·obtain ⟨y,hy,rfl⟩:∃ y,S.reg s=some y/\x=(o.set 1 y,nm):=by
     simp only [S.readPart,show ¬ (1:Nat)=2 by omega,show ¬ (1:Nat)=3 by omega,if_false] at hx
     cases hw:S.reg s with
     | none=>rw [hw] at hx;cases hx
     | some y=>rw [hw] at hx;exact ⟨y,rfl,(Option.some.inj hx).symm⟩
    have HY:=hid hy
    have f2:=hO.out.frozen 2
    have z2:=hO.out.lt
    have d2:wr.cell? ⟨w1.heap.size,2,none⟩=some (.int .i64 o.s):=hO.out.cell 2
    clear hy
    clear hx
    go_wp2_with (first
     | (go_at_call 246;refine (zrv _ _).mono ?_;rintro e w' ⟨rfl,rfl⟩)
     | (go_at_call 249;refine (zpu (Asmk s) y HY.out _).mono ?_;rintro e w' ⟨rfl,rfl⟩)
     | (go_at_call 247;refine (zfD _ y _).mono ?_;rintro e w' ⟨rfl,rfl⟩))
    go_roundw
    case rel=>exact ⟨j+1,o.set 1 y,nm,by omega,by go_num,rfl,HN2.out,(hO.out.set 1 (by omega) y),hbl.setCell (Nat.le_refl _) _⟩
    case measure=>simp [intOf];omega
   ·obtain ⟨y,hy,rfl⟩:∃ y,S.wordOrName s=some y/\x=(o.set 2 y.1,y.2):=by
     simp only [S.readPart,if_true] at hx
     cases hw:S.wordOrName s with
     | none=>rw [hw] at hx;cases hx
     | some y=>rw [hw] at hx;exact ⟨y,rfl,(Option.some.inj hx).symm⟩
    have HC:=hid (zcF (some ⟨b,0,none⟩) (Asmk s) y (by rw [zcs];omega) hy wr (HF.out.kept hbl))
    clear hx
    go_wp2_with (first
     | (go_at_call 246;refine (zrw _ _).mono ?_;rintro e w' ⟨rfl,rfl⟩)
     | (go_at_call 243;refine HC.out.mono ?_;rintro e w2 ⟨rfl,hb2⟩;have hO2:=hid (hO.out.kept hb2);have f2:=hO2.out.frozen 4;have z2:=hO2.out.lt;have d2:w2.cell? ⟨w1.heap.size,4,none⟩=some (.int .i64 o.w):=hO2.out.cell 4))
    go_roundw
    case rel=>exact ⟨j+1,o.set 2 y.1,y.2,by omega,by go_num,rfl,HN2.out,(hO2.out.set 2 (by omega) y.1),(stp hbl hb2).setCell (Nat.le_refl _) _⟩
    case measure=>simp [intOf];omega
   ·obtain ⟨y,hy,rfl⟩:∃ y,S.num s=some y/\x=(o.set 3 y,nm):=by
     simp only [S.readPart,show ¬ (3:Nat)=2 by omega,if_false,if_true] at hx
     cases hw:S.num s with
     | none=>rw [hw] at hx;cases hx
     | some y=>rw [hw] at hx;exact ⟨y,rfl,(Option.some.inj hx).symm⟩
    have HC:=hid (zgX (Asmk s) y (by rw [zcs];omega) hy wr (HF.out.kept hbl))
    clear hx
    go_wp2_with (first
     | (go_at_call 246;refine (zrx _ _).mono ?_;rintro e w' ⟨rfl,rfl⟩)
     | (go_at_call 248;refine HC.out.mono ?_;rintro e w2 ⟨rfl,hb2⟩;have hO2:=hid (hO.out.kept hb2);have f2:=hO2.out.frozen 3;have z2:=hO2.out.lt;have d2:w2.cell? ⟨w1.heap.size,3,none⟩=some (.int .i64 o.n):=hO2.out.cell 3)
     | (go_at_call 247;refine (zfD _ y _).mono ?_;rintro e w' ⟨rfl,rfl⟩))
    go_roundw
    case rel=>exact ⟨j+1,o.set 3 y,nm,by omega,by go_num,rfl,HN2.out,(hO2.out.set 3 (by omega) y),(stp hbl hb2).setCell (Nat.le_refl _) _⟩
    case measure=>simp [intOf];omega
  ·have hjn:j=(S.parts k).length:=by omega
   subst hjn
   rw [List.drop_length,<- hpl,List.drop_length] at hrd
   have hrd':(o,nm)=(oF,nmF):=Option.some.inj hrd
   cases hrd'
   have e0:wr.cell? ⟨w1.heap.size,0,none⟩=some (.int .i64 k):=hO.out.cell 0
   have e1:wr.cell? ⟨w1.heap.size,1,none⟩=some (.int .i64 oF.d):=hO.out.cell 1
   have e2:wr.cell? ⟨w1.heap.size,2,none⟩=some (.int .i64 oF.s):=hO.out.cell 2
   have e3:wr.cell? ⟨w1.heap.size,3,none⟩=some (.int .i64 oF.n):=hO.out.cell 3
   have e4:wr.cell? ⟨w1.heap.size,4,none⟩=some (.int .i64 oF.w):=hO.out.cell 4
   have z0:=hO.out.lt
   clear hrd
   go_wp2_with (first
    | (go_at_call 250;refine (zg2 k hk h30 oF HOK.out _ (HF.out.kept hbl).shapes).mono ?_;rintro e w2 ⟨g,rfl,hw2,hg0,hg2,hb2⟩)
    | (go_at_call 244;refine (putWords wr B b mo mp ua ra uc rc st st' ln (HR1.out.kept hbl) w2 hb2 g hg0 hg2 k hk oF HOK.out hw2 nmF HPUT.out (Nat.le_trans hBw (Nat.le_trans hsz1 hszr)) hul0).mono ?_;rintro e w3 ⟨rfl,hR3,hb3⟩))
   go_end0
   exact ⟨rfl,hR3,(bB hBw (stp (stp hb1 hbl) hb2)).trans hb3⟩
theorem zfE (l sep:S.By) (hl:l.length<=10000) (w:World) (hF:AF w) :
 Calls Tryz.prog 156 #[.string (Asmk l),.string (Asmk sep)] w λe w'=>e = .returned (.tuple #[.string (Asmk (Lib.cut l sep).1),.string (Asmk (Lib.cut l sep).2.1),.bool (Lib.cut l sep).2.2])/\Below w.heap.size w w':=by
 obtain ⟨m,hm⟩:=hF.len
 refine (Tryz.strings_Cut (Asmk l) (Asmk sep) m w (by rw [zcs];omega) hm).mono λe w' ⟨he,n,hw⟩=>⟨he,?_⟩
 subst hw
 exact zdy (st0 w) n
theorem zbm (l sep:S.By) (hl:l.length<=10000) (w:World) :
 Calls Tryz.prog 211 #[.string (Asmk l),.string (Asmk sep)] w λe w'=>e = .returned (.tuple #[.string (Asmk (Lib.trimSuffix l sep)),.bool (Lib.hasSuffix l sep)])/\w=w' :=
 (Tryz.strings_CutSuffix (Asmk l) (Asmk sep) w (by rw [zcs];omega)).mono λe w' hh=>⟨hh.1,hh.2.symm⟩
theorem zfF (l sep:S.By):(Lib.cut l sep).1.length<=l.length/\(Lib.cut l sep).2.1.length<=l.length:=by
 unfold Lib.cut
 split
 ·simp;omega
 ·simp
theorem zc2 (sep:S.By):∀ (k:Nat) (s:S.By),∀ p∈Lib.splitK sep 0 k s,p.length<=s.length
 | 0,s,p,h=>by simp [Lib.splitK] at h;subst h;exact Nat.le_refl _
 | k+1,s,p,h=>by
  unfold Lib.splitK at h
  split at h
  ·simp at h;subst h;exact Nat.le_refl _
  ·rcases List.mem_cons.1 h with h|h
   ·subst h;simp;omega
   ·have:=zc2 sep k _ p h
    simp at this;omega
theorem zjz (sep:S.By) (k:Nat) (s:S.By):0<(Lib.splitK sep 0 k s).length:=by
 cases k with
 | zero=>simp [Lib.splitK]
 | succ k=>unfold Lib.splitK;split <;> simp
theorem zeZ (rest:S.By) (hl:rest.length<=10000) (w:World) (hF:AF w) :
 Calls Tryz.prog 197 #[.string (Asmk rest),.string ⟨#[44,32]⟩] w λe w'=>e = .returned (.slice (some ⟨w.heap.size,0,none⟩) (Lib.split rest S.comma).length (Lib.split rest S.comma).length)/\strsAt w' w.heap.size (Lib.split rest S.comma)/\w.heap.size<w'.heap.size/\Below w.heap.size w w':=by
 obtain ⟨m,hm⟩:=hF.len
 have hd:=Lib.splitB_data (Asmk S.comma) 0 (Lib.countB (Asmk rest) (Asmk S.comma)) (Asmk rest)
 have hc:Lib.countB (Asmk rest) (Asmk S.comma)=Lib.count rest S.comma:=rfl
 have hlen:=Lib.splitB_all (Asmk S.comma) (by decide) 0 _ (Asmk rest) rfl
 have hsp:(Lib.splitB (Asmk S.comma) 0 (Lib.countB (Asmk rest) (Asmk S.comma)) (Asmk rest)).map bs=Lib.split rest S.comma:=hd
 have hl2:(Lib.split rest S.comma).length=Lib.countB (Asmk rest) (Asmk S.comma)+1:=by rw [<- hsp,List.length_map,hlen]
 refine (Tryz.strings_Split (Asmk rest) (Asmk S.comma) m w (by rw [zcs];omega) hm (by decide)).mono λe w' ⟨he,hw⟩=>?_
 subst hw
 refine ⟨by rw [he,hl2],λj s hj=>?_,by simp,stA (st0 _) _⟩
 rw [zai _ _ _ _ rfl,List.getElem?_toArray,List.getElem?_map]
 rw [<- hsp,List.getElem?_map] at hj
 cases hx:(Lib.splitB (Asmk S.comma) 0 (Lib.countB (Asmk rest) (Asmk S.comma)) (Asmk rest))[j]? with
 | none=>rw [hx] at hj;cases hj
 | some x =>
  rw [hx] at hj
  cases hj
  simp [mk_bs]
theorem zct (l:S.By):(Asmk l).toList=l:=by rw [Lib.toList_data];rfl
def LineOK (w:World) (B b mo mp:Nat) (st':S.St) (ln:Nat) (e:Ending) (w':World):Prop:=e = .returned (.tuple #[])/\(∃ ua' uc' ra' rc',Rd w' B b mo mp ua' uc' ra' rc' st' ln)/\Below B w w'
theorem zg3 (w:World) (B b mo mp:Nat) (ua ra:Option Addr) (uc rc:Nat) (st st':S.St) (ln:Nat) (hR:Rd w B b mo mp ua uc ra rc st ln) (called:S.By) (ps:List S.By) (hps:∀ s∈ps,s.length<=4000) (hS:S.readOrder called ps ln st = .ok st') (hp0:0<ps.length) (gp:Nat) (hgp:gp<w.heap.size) (hsp:strsAt w gp ps) (hBw:B<=w.heap.size) (hul0:st.uses.length+1<=1000000) (hF:AF w) :
 Calls Tryz.prog 214 #[.pointer (some ⟨b,0,none⟩),.string (Asmk called),.slice (some ⟨gp,0,none⟩) ps.length ps.length] w (LineOK w B b mo mp st' ln):=by
 obtain ⟨k,o,nm,h1,h2,h3,h4,h5,h6,h7⟩:=zcG hS
 have:=zh7 w B b mo mp ua ra uc rc st st' ln hR called k h1 h2 h3 (by omega) o nm ps h4 hps h5 h6 h7 gp ps.length (by omega) hgp hsp hBw hul0 hF
 rw [<- h4] at this
 exact this
theorem zfG (w:World) (B b mo mp:Nat) (ua ra:Option Addr) (uc rc:Nat) (st st':S.St) (ln:Nat) (hR:Rd w B b mo mp ua uc ra rc st ln) (called:S.By) (hS:S.readOrder called [] ln st = .ok st') (hBw:B<=w.heap.size) (hul0:st.uses.length+1<=1000000) (hF:AF w) :
 Calls Tryz.prog 214 #[.pointer (some ⟨b,0,none⟩),.string (Asmk called),.slice none 0 0] w (LineOK w B b mo mp st' ln):=by
 obtain ⟨k,o,nm,h1,h2,h3,h4,h5,h6,h7⟩:=zcG hS
 have hp:S.parts k=[]:=List.length_eq_zero_iff.1 (by simpa using h4.symm)
 rw [hp] at h5
 have e:(S.Ord.zero,([]:S.By))=(o,nm):=Option.some.inj h5
 cases e
 exact zh6 w B b mo mp ua ra uc rc st st' ln hR called k h1 h2 h3 hp [] h7 h6 none 0 hBw hul0 hF
theorem zh8 (w:World) (B b mo mp:Nat) (ua ra:Option Addr) (uc rc:Nat) (st st':S.St) (ln:Nat) (hR:Rd w B b mo mp ua uc ra rc st ln) (ps:List S.By) (hps:∀ s∈ps,s.length<=4000) (hS:S.readWord ps ln st = .ok st') (gp:Nat) (hgp:gp<w.heap.size) (hsp:strsAt w gp ps) (hBw:B<=w.heap.size) (hul0:st.uses.length+1<=1000000) (hF:AF w) :
 Calls Tryz.prog 213 #[.pointer (some ⟨b,0,none⟩),.slice (some ⟨gp,0,none⟩) ps.length ps.length] w (LineOK w B b mo mp st' ln):=by
 match ps,hps,hS,hsp with
 | [p],hps,hS,hsp=>exact zh5 w B b mo mp ua ra uc rc st st' ln hR gp 1 p (hps p (by simp)) (hsp 0 p rfl) hgp (by omega) hS hBw hul0 hF
 | [],_,hS,_=>cases hS
 | _::_::_,_,hS,_=>cases hS
theorem zeq (w:World) (B b mo mp:Nat) (ua ra:Option Addr) (uc rc:Nat) (st st':S.St) (ln:Nat) (hR:Rd w B b mo mp ua uc ra rc st ln) (l:S.By) (hl:l.length<=4000) (hc:Lib.hasSuffix l [58]=true) (hS:S.readPlace (Lib.trimSuffix l [58]) st = .ok st') (hBw:B<=w.heap.size) :
 Calls Tryz.prog 158 #[.pointer (some ⟨b,0,none⟩),.string (Asmk l)] w (LineOK w B b mo mp st' ln):=by
 have HC:=hid (zbm l [58] (by omega) w)
 rw [hc] at HC
 have HP:=hid (zgZ w B b mo mp ua ra uc rc st st' ln hR _ hS hBw)
 clear hR hS hc
 go_enter Tryz.func158,Tryz.ntmps158
 go_wp2_with (first
  | (go_at_call 211;refine HC.out.mono ?_;rintro e w' ⟨rfl,rfl⟩)
  | (go_at_call 212;refine HP.out.mono ?_;rintro e w1 ⟨rfl,hR1,hb1⟩))
 first|go_end0|refine bodyPost_ret (results_none rfl _ _ _) rfl ?_
 exact ⟨rfl,hR1,hb1⟩
theorem zfH (w:World) (B b mo mp:Nat) (ua ra:Option Addr) (uc rc:Nat) (st st':S.St) (ln:Nat) (hR:Rd w B b mo mp ua uc ra rc st ln) (l:S.By) (hl:l.length<=4000) (hc:Lib.hasSuffix l [58]=false) (hw:(Lib.cut l [32]).1=S.plain) (hr:(Lib.cut l [32]).2.1≠[])
 (hS:S.readWord (Lib.split (Lib.cut l [32]).2.1 S.comma) ln st = .ok st') (hBw:B<=w.heap.size) (hul0:st.uses.length+1<=1000000) (hF:AF w) :
 Calls Tryz.prog 158 #[.pointer (some ⟨b,0,none⟩),.string (Asmk l)] w (LineOK w B b mo mp st' ln):=by
 have HC:=hid (zbm l [58] (by omega) w)
 rw [hc] at HC
 have HK:=hid (zfE l [32] (by omega) w hF)
 have hlen:=(zfF l [32]).2
 have HSP:Hid (∀ w1,AF w1->_):=λw1 hF1=>zeZ (Lib.cut l [32]).2.1 (by omega) w1 hF1
 have he:(Asmk (Lib.cut l [32]).2.1).toList.isEmpty=false:=by rw [zbQ];cases h:(Lib.cut l [32]).2.1 <;> simp_all
 rw [hw] at HK
 have hps:∀ s∈Lib.split (Lib.cut l [32]).2.1 S.comma,s.length<=4000:=λs hs=>by have:=zc2 _ _ _ s hs;omega
 have HR:=hid hR
 have HF:=hid hF
 have HS:=hid hS
 have HPS:=hid hps
 generalize hrest:(Lib.cut l [32]).2.1=rest at *
 clear hR hS hc hF hw hps hrest hr
 have hq:((Asmk S.plain).toList == [46,119,111,114,100])=true:=by rw [zct];rfl
 go_enter Tryz.func158,Tryz.ntmps158
 go_wp2_with (first
  | (go_at_call 211;refine HC.out.mono ?_;rintro e w' ⟨rfl,rfl⟩)
  | (go_at_call 156;refine HK.out.mono ?_;rintro e w1 ⟨rfl,hb1⟩)
  | (go_at_call 197;refine (HSP.out _ (HF.out.kept hb1)).mono ?_;rintro e w2 ⟨rfl,hst2,hz2,hb2⟩)
  | (go_at_call 213;refine (zh8 w2 B b mo mp ua ra uc rc st st' ln (HR.out.kept (stp hb1 hb2)) _ HPS.out HS.out w1.heap.size hz2 hst2 (Nat.le_trans hBw (stp hb1 hb2).size) hul0 (HF.out.kept (stp hb1 hb2))).mono ?_;rintro e w3 ⟨rfl,hR3,hb3⟩))
 first|go_end0|refine bodyPost_ret (results_none rfl _ _ _) rfl ?_
 exact ⟨rfl,hR3,(bB hBw (stp hb1 hb2)).trans hb3⟩
theorem zer (w:World) (B b mo mp:Nat) (ua ra:Option Addr) (uc rc:Nat) (st st':S.St) (ln:Nat) (hR:Rd w B b mo mp ua uc ra rc st ln) (l:S.By) (hl:l.length<=4000) (hc:Lib.hasSuffix l [58]=false) (hw:(Lib.cut l [32]).1≠S.plain) (hr:(Lib.cut l [32]).2.1≠[])
 (hS:S.readOrder (Lib.cut l [32]).1 (Lib.split (Lib.cut l [32]).2.1 S.comma) ln st = .ok st') (hBw:B<=w.heap.size) (hul0:st.uses.length+1<=1000000) (hF:AF w) :
 Calls Tryz.prog 158 #[.pointer (some ⟨b,0,none⟩),.string (Asmk l)] w (LineOK w B b mo mp st' ln):=by
 have HC:=hid (zbm l [58] (by omega) w)
 rw [hc] at HC
 have HK:=hid (zfE l [32] (by omega) w hF)
 have hlen:=(zfF l [32]).2
 have HSP:Hid (∀ w1,AF w1->_):=λw1 hF1=>zeZ (Lib.cut l [32]).2.1 (by omega) w1 hF1
 have he:(Asmk (Lib.cut l [32]).2.1).toList.isEmpty=false:=by rw [zbQ];cases h:(Lib.cut l [32]).2.1 <;> simp_all
 have hq:((Asmk (Lib.cut l [32]).1).toList == [46,119,111,114,100])=false:=by rw [zct];simpa [S.plain] using hw
 have hps:∀ s∈Lib.split (Lib.cut l [32]).2.1 S.comma,s.length<=4000:=λs hs=>by have:=zc2 _ _ _ s hs;omega
 have HR:=hid hR
 have HF:=hid hF
 have HS:=hid hS
 have HPS:=hid hps
 generalize hrest:(Lib.cut l [32]).2.1=rest at *
 generalize hfst:(Lib.cut l [32]).1=called at *
 clear hR hS hc hF hw hps hrest hr hfst
 go_enter Tryz.func158,Tryz.ntmps158
 go_wp2_with (first
  | (go_at_call 211;refine HC.out.mono ?_;rintro e w' ⟨rfl,rfl⟩)
  | (go_at_call 156;refine HK.out.mono ?_;rintro e w1 ⟨rfl,hb1⟩)
  | (go_at_call 197;refine (HSP.out _ (HF.out.kept hb1)).mono ?_;rintro e w2 ⟨rfl,hst2,hz2,hb2⟩)
  | (go_at_call 214;refine (zg3 w2 B b mo mp ua ra uc rc st st' ln (HR.out.kept (stp hb1 hb2)) called _ HPS.out HS.out (zjz _ _ _) w1.heap.size hz2 hst2 (Nat.le_trans hBw (stp hb1 hb2).size) hul0 (HF.out.kept (stp hb1 hb2))).mono ?_;rintro e w3 ⟨rfl,hR3,hb3⟩))
 first|go_end0|refine bodyPost_ret (results_none rfl _ _ _) rfl ?_
 exact ⟨rfl,hR3,(bB hBw (stp hb1 hb2)).trans hb3⟩
theorem zfI (w:World) (B b mo mp:Nat) (ua ra:Option Addr) (uc rc:Nat) (st st':S.St) (ln:Nat) (hR:Rd w B b mo mp ua uc ra rc st ln) (l:S.By) (hl:l.length<=4000) (hc:Lib.hasSuffix l [58]=false) (hw:(Lib.cut l [32]).1≠S.plain) (hr:(Lib.cut l [32]).2.1=[])
 (hS:S.readOrder (Lib.cut l [32]).1 [] ln st = .ok st') (hBw:B<=w.heap.size) (hul0:st.uses.length+1<=1000000) (hF:AF w) :
 Calls Tryz.prog 158 #[.pointer (some ⟨b,0,none⟩),.string (Asmk l)] w (LineOK w B b mo mp st' ln):=by
 have HC:=hid (zbm l [58] (by omega) w)
 rw [hc] at HC
 have HK:=hid (zfE l [32] (by omega) w hF)
 have he:(Asmk (Lib.cut l [32]).2.1).toList.isEmpty=true:=by rw [zbQ,hr];rfl
 have hq:((Asmk (Lib.cut l [32]).1).toList == [46,119,111,114,100])=false:=by rw [zct];simpa [S.plain] using hw
 have HR:=hid hR
 have HF:=hid hF
 have HS:=hid hS
 generalize hrest:(Lib.cut l [32]).2.1=rest at *
 generalize hfst:(Lib.cut l [32]).1=called at *
 clear hR hS hc hF hw hrest hr hfst
 go_enter Tryz.func158,Tryz.ntmps158
 go_wp2_with (first
  | (go_at_call 211;refine HC.out.mono ?_;rintro e w' ⟨rfl,rfl⟩)
  | (go_at_call 156;refine HK.out.mono ?_;rintro e w1 ⟨rfl,hb1⟩)
  | (go_at_call 214;refine (zfG w1 B b mo mp ua ra uc rc st st' ln (HR.out.kept hb1) called HS.out (Nat.le_trans hBw hb1.size) hul0 (HF.out.kept hb1)).mono ?_;rintro e w3 ⟨rfl,hR3,hb3⟩))
 first|go_end0|refine bodyPost_ret (results_none rfl _ _ _) rfl ?_
 exact ⟨rfl,hR3,(bB hBw hb1).trans hb3⟩
theorem zh9 (w:World) (B b mo mp:Nat) (ua ra:Option Addr) (uc rc:Nat) (st st':S.St) (ln:Nat) (hR:Rd w B b mo mp ua uc ra rc st ln) (l:S.By) (hl:l.length<=4000) (hS:S.readLine l ln st = .ok st') (hBw:B<=w.heap.size) (hul0:st.uses.length+1<=1000000) (hF:AF w) :
 Calls Tryz.prog 158 #[.pointer (some ⟨b,0,none⟩),.string (Asmk l)] w (LineOK w B b mo mp st' ln):=by
 unfold S.readLine at hS
 cases hc:Lib.hasSuffix l [58] with
 | true =>
  rw [hc,if_pos rfl] at hS
  exact zeq w B b mo mp ua ra uc rc st st' ln hR l hl hc hS hBw
 | false =>
  rw [hc,if_neg (by simp)] at hS
  by_cases hw:(Lib.cut l [32]).1=S.plain
  ·rw [if_pos hw] at hS
   by_cases hr:(Lib.cut l [32]).2.1=[]
   ·unfold S.partsOf at hS
    rw [if_pos hr] at hS
    cases hS
   ·unfold S.partsOf at hS
    rw [if_neg hr] at hS
    exact zfH w B b mo mp ua ra uc rc st st' ln hR l hl hc hw hr hS hBw hul0 hF
  ·rw [if_neg hw] at hS
   by_cases hr:(Lib.cut l [32]).2.1=[]
   ·unfold S.partsOf at hS
    rw [if_pos hr] at hS
    exact zfI w B b mo mp ua ra uc rc st st' ln hR l hl hc hw hr hS hBw hul0 hF
   ·unfold S.partsOf at hS
    rw [if_neg hr] at hS
    exact zer w B b mo mp ua ra uc rc st st' ln hR l hl hc hw hr hS hBw hul0 hF
/-! ### how many uses a line leaves -/
theorem put_uses {ws:List Int} {nm:S.By} {ln:Nat} {st st':S.St} (h:S.put ws nm ln st = .ok st'):st'.uses.length<=st.uses.length+1:=by
 obtain ⟨_,rfl⟩:=zfA h
 simp only
 split <;> simp
theorem zg4 {l:S.By} {ln:Nat} {st st':S.St} (h:S.readLine l ln st = .ok st'):st'.uses.length<=st.uses.length+1:=by
 unfold S.readLine at h
 split at h
 ·obtain ⟨_,_,rfl⟩:=zdG h;simp
 ·split at h
  ·match hp:S.partsOf (Lib.cut l [32]).2.1,h with
   | [p],h=>obtain ⟨v,nm,_,_,_,hput⟩:=zfB h;exact put_uses hput
   | [],h=>cases h
   | _::_::_,h=>cases h
  ·obtain ⟨k,o,nm,_,_,_,_,_,_,hput⟩:=zcG h
   exact put_uses hput
theorem zdH {f:Nat} {s:S.By} {ln:Nat} {st stF:S.St} (hs:s≠[]) (h:S.readLines (f+1) s ln st = .ok stF):(Lib.cut s [10]).2.2=true /\ ∃ st',S.readLine (Lib.cut s [10]).1 ln st = .ok st'/\S.readLines f (Lib.cut s [10]).2.1 (ln+1) st' = .ok stF:=by
 unfold S.readLines at h
 rw [if_neg hs] at h
 split at h
 ·rename_i hc
  split at h
  ·rename_i st' hl
   exact ⟨hc,st',hl,h⟩
  ·cases h
 ·cases h
theorem zi1 (s:S.By) (hs:s≠[]) (h:(Lib.cut s [10]).2.2=true):(Lib.cut s [10]).2.1.length<s.length:=by
 have hp:s.length≠0:=λe=>hs (List.length_eq_zero_iff.1 e)
 unfold Lib.cut at h ⊢
 split at h
 ·rename_i hi
  rw [if_pos hi]
  simp;omega
 ·cases h
theorem zg5 (w:World) (B b mo mp:Nat) (ua ra:Option Addr) (uc rc:Nat) (st stF:S.St) (hR:Rd w B b mo mp ua uc ra rc st 0) (hu0:st.uses=[]) (s:S.By) (hl:s.length<=4000) (hS:S.readLines s.length s 0 st = .ok stF) (hBw:B<=w.heap.size) (hF:AF w) (hFB:Hid (∀ w',Below B w w'->AF w')) :
 Calls Tryz.prog 84 #[.pointer (some ⟨b,0,none⟩),.string (Asmk s)] w λe w'=>e = .returned (.tuple #[])/\(∃ lnF ua' uc' ra' rc',Rd w' B b mo mp ua' uc' ra' rc' stF lnF)/\Below B w w':=by
 have HR:=hid hR
 have HS:=hid hS
 have hBb:=hR.hB
 clear hR hS hF
 go_enter Tryz.func84,Tryz.ntmps84
 go_wp2
 go_loopw [1] (λr wr=>∃ (t:S.By) (f ln:Nat) (st':S.St) (ua':Option Addr) (uc':Nat) (ra':Option Addr) (rc':Nat),r = .string (Asmk t)/\t.length<=f/\t.length+ln<=4000/\S.readLines f t ln st' = .ok stF/\st'.uses.length<=ln/\Rd wr B b mo mp ua' uc' ra' rc' st' ln/\Below B w wr) (λr _=>match r with | .string x=>x.size|_=>0)
 case atStart=>exact ⟨s,s.length,0,st,ua,uc,ra,rc,rfl,Nat.le_refl _,by omega,HS.out,by rw [hu0];exact Nat.le_refl _,HR.out,Below.refl _ _⟩
 case round =>
  obtain ⟨t,f,ln,st',ua',uc',ra',rc',rfl,htf,htl,hrd,hul,hR1,hbl⟩:=hrel
  have hszr:=Nat.le_trans hBw hbl.size
  by_cases ht:t=[]
  ·subst ht
   rw [S.readLines_nil] at hrd
   cases hrd
   have he:(Asmk []).toList.isEmpty=true:=zbQ []
   go_wp2
   go_end0
   exact ⟨rfl,⟨ln,ua',uc',ra',rc',hR1⟩,hbl⟩
  ·have he:(Asmk t).toList.isEmpty=false:=by rw [zbQ];cases t <;> simp_all
   have htp:t.length≠0:=λe=>ht (List.length_eq_zero_iff.1 e)
   obtain ⟨f',rfl⟩:∃ f',f=f'+1:=⟨f-1,by omega⟩
   obtain ⟨hcut,st2,hln,hnext⟩:=zdH ht hrd
   have hless:=zi1 t ht hcut
   have hl1:=(zfF t [10]).1
   have hF1:=hFB.out wr hbl
   have HK:=hid (zfE t [10] (by omega) wr hF1)
   rw [hcut] at HK
   have HL:Hid (∀ w1,Below wr.heap.size wr w1->_):=λw1 (hb1:Below wr.heap.size wr w1)=>zh9 w1 B b mo mp ua' ra' uc' rc' st' st2 ln (hR1.kept hb1) (Lib.cut t [10]).1 (by omega) hln (Nat.le_trans hszr hb1.size) (by omega) (hF1.kept hb1)
   have hu2:=zg4 hln
   have HN:=hid hnext
   clear hrd hcut hln hnext hF1
   go_wp2_with (first
    | (go_at_call 156;refine HK.out.mono ?_;rintro e w1 ⟨rfl,hb1⟩)
    | (go_at_call 158;refine (HL.out w1 hb1).mono ?_;rintro e w2 ⟨rfl,⟨ua2,uc2,ra2,rc2,hR2⟩,hb2⟩;have c4:w2.cell? ⟨b,4,none⟩=some (.int .i64 ln):=hR2.cell 4;have f4:=hR2.frozen 4;have z4:=hR2.lt))
   refine ⟨⟨(Lib.cut t [10]).2.1,f',ln+1,st2,ua2,uc2,ra2,rc2,rfl,by omega,by omega,HN.out,by omega,hR2.put_line (ln+1),((hbl.trans (bB hszr hb1)).trans hb2).setCell hBb _⟩,?_⟩
   show (Lib.cut t [10]).2.1.length<t.length
   exact hless
end Go.Proofs.YtbennamieealbaaGreatDoor
