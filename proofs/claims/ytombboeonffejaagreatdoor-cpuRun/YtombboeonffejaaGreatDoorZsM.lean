/-
  The reference's orders, one by one, further.
-/
import Derived.Test.YtombboeonffejaaGreatDoorZsC
import Derived.Deep.DeepCutAuto
namespace Go.Proofs.YtombboeonffejaaGreatDoor
open Go.ChangeShapes Go.WideShapes Go.ChangeAt Go.RowKit
set_option linter.unusedVariables false

section
variable {σ : Type} {m : C.Mem σ} {B bs : Nat} {I : World → σ → Prop} {T : σ → Nat → Prop}
set_option maxRecDepth 100000 in
set_option maxHeartbeats 3200000 in
theorem rsw_20 (R : QS m B bs I T) (w : World) (s : σ) (hB : B ≤ w.heap.size) (d e1 : Nat) (n v : Int) (hd : d < 8) (he : e1 < 8) (hn : -16 ≤ n ∧ n ≤ 15) (hv : 0 ≤ v ∧ v ≤ 65535) (x : C.St σ) : Rest2 B bs I T w s 20 d e1 n v x (C.act m ⟨x.c, x.s, K.cyc 20⟩ 20 d e1 n v) := by
  intro bo kb wx u0 u1 u2 u5 u11 u13 u20 u21 u22 u23 u24 u26 u27 u28 u29 u30 u31 u32 u33 u34 u35 u36 u37 u38 u39 u40 u41 u42 u43 u44 u45 u46 u47 u48 u49 u50 u51 u52 u53 u54 u55 u56 u57 u58 u59 u60 u61 u62 u63 u64 u65 u66 u67 u68 u69 u70 u71 u72 u73 u74 u75 u76 u77 u78 u79 u80 u81 u82 u83 u84 u85 u86 u87 u88 u89 u90 u91 u92 u93 u94 u95 u96 u97 u98 u99 u100 u101 u102 u103 u104 u105 u106 u107 u108 u109 u110 u111 u112 u113 u114 u115 u116 u117 u118 u119 u120 u121 u122 u123 u124 u125 u126 u127 u128 u129 u130 u131 u132 u133 u134 u135 u136 u137 u138 u139 u140 u141 u142 u143 u144 u145 u146 u147 u148 u149 u150 u151 u152 u153 u154 u155 u156 u157 u158 u159 u160 u161 u162 u163 u164 u165 u166 u167 u168 u169 u170 u171 u172 u173 u174 u175 u176 u177 u178 u179 u180 u181 u182 u183 u184 u185 u186 u187 u188 u189 u190 u191 u192 u193 u194 u195 u196 u197 u198 u199 u200 u201 u202 u203 u204 u205 u206 u207 u208 u209 u210 u211 u212 u213 u214 u215 u216 u217 u218 u219 u220 u221 u222 u223 u224 u225 u226 u227 u228 u229 u230 u231 u232 u233 u234 u235 u236 u237 u238 u239 u240 u241 u242 u243 u244 u245 u246 u247 u248 u249 u250 u251 u252 u253 u254 u255 u256 u257 u258 u259 u260 u261 u262 u263 u264 u265 u266 u267 u268 u269 u270 u271 u272 u273 u274 u275 u276 u277 u278 u279 u280 u281 u282 u283 u284 u285 u286 u287 u288 u289 u290 u291 u292 u293 u294 u295 u296 u297 u298 u299 u300 hK
  have HR := hid R
  obtain ⟨o0, o1, o2, o3, o4, k0, k1, k2⟩ := hK.cells
  have hnm : K.name 20 = ⟨#[99, 97, 108, 108]⟩ := by kernel_rfl
  rw [hnm] at k0
  clear hnm
  have zo := hK.ltO
  have zk := hK.ltK
  have zp := hK.sw.qc.lt
  obtain ⟨r0, r1, r2, r3, r4, r5, r6, r7⟩ := hK.sw.qc.regs
  obtain ⟨r8, r9, r10, r11, r12, r13, r14⟩ := hK.sw.qc.cells
  have fp := hK.sw.qc.frozen
  have HK := hid hK
  clear hK R
  have pp : wx.cell? ⟨w.heap.size + 1 + 1 + 1, 0, none⟩ = some (pushV w.heap.size (w.heap.size + 1)) := Lib.cell_of_heap HK.out.sw.push 0
  have zpp : w.heap.size + 1 + 1 + 1 < wx.heap.size := (Array.getElem?_eq_some_iff.1 HK.out.sw.push).1
  obtain ⟨hb1, hb2⟩ := HK.out.sw.qc.ok.2.2
  have hvw : IntKind.u16.wrap v = v := by rw [u16w]; omega
  conv =>
    arg 2
    dsimp only [cTl, cSec, Tryz.f13, Option.getD]
  go_wp2_with (first
    | (go_at_call 22; refine (rpush_any HR.out x.c.PC hb1 hb2 _ _ _ x HK.out.sw.qc).mono ?_; rintro e w5 ⟨rfl, hq6, hm6⟩; have KM := hid (HK.out.step hq6 hm6); have HKF := hid (KM.out.step (KM.out.sw.qc.putPC HR.out v hv.1 hv.2) ((PM.refl B T _ _ w5).set KM.out.sw.qc.big 8 _)); obtain ⟨_, _, _, _, oo4, _⟩ := KM.out.cells; have zo5 := KM.out.ltO; have fp5 := hq6.frozen; clear r0 r1 r2 r3 r4 r5 r6 r7 r8 r9 r10 r11 r12 r13 r14; obtain ⟨r0, r1, r2, r3, r4, r5, r6, r7⟩ := hq6.regs; obtain ⟨r8, r9, r10, r11, r12, r13, r14⟩ := hq6.cells; have zp6 := hq6.lt; clear hq6 hm6)
    | (refine wpList_store_mid rfl 25 (.tmp 6) (.tmp 299) rfl (w.heap.size + 1 + 1) 0 _ rfl rfl ?_ ?_ ?_ ?_
       · exact HKF.out.sw.there
       · exact info_cpu
       · exact cpuL_one ((⟨{ (C.push m x x.c.PC).c with PC := v }, (C.push m x x.c.PC).s, (C.push m x x.c.PC).n⟩ : C.St σ)).c
       refine cutL (fun W => I W ((⟨{ (C.push m x x.c.PC).c with PC := v }, (C.push m x x.c.PC).s, (C.push m x x.c.PC).n⟩ : C.St σ)).s ∧ Mv B (T s) (T ((⟨{ (C.push m x x.c.PC).c with PC := v }, (C.push m x x.c.PC).s, (C.push m x x.c.PC).n⟩ : C.St σ)).s) w W ∧ W.rangeAt (w.heap.size + 1 + 1) 0 (cpuL ((⟨{ (C.push m x x.c.PC).c with PC := v }, (C.push m x x.c.PC).s, (C.push m x x.c.PC).n⟩ : C.St σ)).c)) ?_ ?_
       · exact HKF.out.sw.fin HR.out hB (cpuL ((⟨{ (C.push m x x.c.PC).c with PC := v }, (C.push m x x.c.PC).s, (C.push m x x.c.PC).n⟩ : C.St σ)).c) rfl
       rintro W ⟨hIW, hmW, hrW⟩))
  have hl := load_cpu W _ _ hrW
  refine bodyPost_ret (v := .tuple #[cpuV ((⟨{ (C.push m x x.c.PC).c with PC := v }, (C.push m x x.c.PC).s, (C.push m x x.c.PC).n⟩ : C.St σ)).c, .int .i64 (K.cyc 20)]) ?_ rfl ⟨rfl, hIW, hmW⟩
  simp only [results, Tryz.results13]
  simp
  show (Result.andThen (Sem.run Tryz.prog (loadVar 25 ⟨w.heap.size + 1 + 1, 0, none⟩) W) _) = _
  rw [hl]
  rfl
set_option maxRecDepth 100000 in
set_option maxHeartbeats 3200000 in
theorem rsw_21 (R : QS m B bs I T) (w : World) (s : σ) (hB : B ≤ w.heap.size) (d e1 : Nat) (n v : Int) (hd : d < 8) (he : e1 < 8) (hn : -16 ≤ n ∧ n ≤ 15) (hv : 0 ≤ v ∧ v ≤ 65535) (x : C.St σ) : Rest2 B bs I T w s 21 d e1 n v x (C.act m ⟨x.c, x.s, K.cyc 21⟩ 21 d e1 n v) := by
  intro bo kb wx u0 u1 u2 u5 u11 u13 u20 u21 u22 u23 u24 u26 u27 u28 u29 u30 u31 u32 u33 u34 u35 u36 u37 u38 u39 u40 u41 u42 u43 u44 u45 u46 u47 u48 u49 u50 u51 u52 u53 u54 u55 u56 u57 u58 u59 u60 u61 u62 u63 u64 u65 u66 u67 u68 u69 u70 u71 u72 u73 u74 u75 u76 u77 u78 u79 u80 u81 u82 u83 u84 u85 u86 u87 u88 u89 u90 u91 u92 u93 u94 u95 u96 u97 u98 u99 u100 u101 u102 u103 u104 u105 u106 u107 u108 u109 u110 u111 u112 u113 u114 u115 u116 u117 u118 u119 u120 u121 u122 u123 u124 u125 u126 u127 u128 u129 u130 u131 u132 u133 u134 u135 u136 u137 u138 u139 u140 u141 u142 u143 u144 u145 u146 u147 u148 u149 u150 u151 u152 u153 u154 u155 u156 u157 u158 u159 u160 u161 u162 u163 u164 u165 u166 u167 u168 u169 u170 u171 u172 u173 u174 u175 u176 u177 u178 u179 u180 u181 u182 u183 u184 u185 u186 u187 u188 u189 u190 u191 u192 u193 u194 u195 u196 u197 u198 u199 u200 u201 u202 u203 u204 u205 u206 u207 u208 u209 u210 u211 u212 u213 u214 u215 u216 u217 u218 u219 u220 u221 u222 u223 u224 u225 u226 u227 u228 u229 u230 u231 u232 u233 u234 u235 u236 u237 u238 u239 u240 u241 u242 u243 u244 u245 u246 u247 u248 u249 u250 u251 u252 u253 u254 u255 u256 u257 u258 u259 u260 u261 u262 u263 u264 u265 u266 u267 u268 u269 u270 u271 u272 u273 u274 u275 u276 u277 u278 u279 u280 u281 u282 u283 u284 u285 u286 u287 u288 u289 u290 u291 u292 u293 u294 u295 u296 u297 u298 u299 u300 hK
  have HR := hid R
  obtain ⟨o0, o1, o2, o3, o4, k0, k1, k2⟩ := hK.cells
  have hnm : K.name 21 = ⟨#[114, 101, 116]⟩ := by kernel_rfl
  rw [hnm] at k0
  clear hnm
  have zo := hK.ltO
  have zk := hK.ltK
  have zp := hK.sw.qc.lt
  obtain ⟨r0, r1, r2, r3, r4, r5, r6, r7⟩ := hK.sw.qc.regs
  obtain ⟨r8, r9, r10, r11, r12, r13, r14⟩ := hK.sw.qc.cells
  have fp := hK.sw.qc.frozen
  have HK := hid hK
  clear hK R
  conv =>
    arg 2
    dsimp only [cTl, cSec, Tryz.f13, Option.getD]
  go_wp2_with (first
    | (go_at_call 24; refine (rpop_any HR.out _ _ _ x HK.out.sw.qc).mono ?_; rintro e w5 ⟨rfl, hq6, hm6⟩; have KM := hid (HK.out.step hq6 hm6); have HKF := hid (KM.out.step (KM.out.sw.qc.putPC HR.out (C.popV m x) (HR.out.word x.s (x.c.r 7)).1 (HR.out.word x.s (x.c.r 7)).2) ((PM.refl B T _ _ w5).set KM.out.sw.qc.big 8 _)); have fp5 := hq6.frozen; clear r0 r1 r2 r3 r4 r5 r6 r7 r8 r9 r10 r11 r12 r13 r14; obtain ⟨r0, r1, r2, r3, r4, r5, r6, r7⟩ := hq6.regs; obtain ⟨r8, r9, r10, r11, r12, r13, r14⟩ := hq6.cells; have zp6 := hq6.lt; clear hq6 hm6)
    | (refine wpList_store_mid rfl 25 (.tmp 6) (.tmp 299) rfl (w.heap.size + 1 + 1) 0 _ rfl rfl ?_ ?_ ?_ ?_
       · exact HKF.out.sw.there
       · exact info_cpu
       · exact cpuL_one ((⟨{ (C.pop m x).c with PC := C.popV m x }, (C.pop m x).s, (C.pop m x).n⟩ : C.St σ)).c
       refine cutL (fun W => I W ((⟨{ (C.pop m x).c with PC := C.popV m x }, (C.pop m x).s, (C.pop m x).n⟩ : C.St σ)).s ∧ Mv B (T s) (T ((⟨{ (C.pop m x).c with PC := C.popV m x }, (C.pop m x).s, (C.pop m x).n⟩ : C.St σ)).s) w W ∧ W.rangeAt (w.heap.size + 1 + 1) 0 (cpuL ((⟨{ (C.pop m x).c with PC := C.popV m x }, (C.pop m x).s, (C.pop m x).n⟩ : C.St σ)).c)) ?_ ?_
       · exact HKF.out.sw.fin HR.out hB (cpuL ((⟨{ (C.pop m x).c with PC := C.popV m x }, (C.pop m x).s, (C.pop m x).n⟩ : C.St σ)).c) rfl
       rintro W ⟨hIW, hmW, hrW⟩))
  have hl := load_cpu W _ _ hrW
  refine bodyPost_ret (v := .tuple #[cpuV ((⟨{ (C.pop m x).c with PC := C.popV m x }, (C.pop m x).s, (C.pop m x).n⟩ : C.St σ)).c, .int .i64 (K.cyc 21)]) ?_ rfl ⟨rfl, hIW, hmW⟩
  simp only [results, Tryz.results13]
  simp
  show (Result.andThen (Sem.run Tryz.prog (loadVar 25 ⟨w.heap.size + 1 + 1, 0, none⟩) W) _) = _
  rw [hl]
  rfl
end
section
variable {σ : Type} {m : C.Mem σ} {B bs : Nat} {I : World → σ → Prop} {T : σ → Nat → Prop}
set_option maxRecDepth 100000 in
set_option maxHeartbeats 3200000 in
theorem rsw_23 (R : QS m B bs I T) (w : World) (s : σ) (hB : B ≤ w.heap.size) (d e1 : Nat) (n v : Int) (hd : d < 8) (he : e1 < 8) (hn : -16 ≤ n ∧ n ≤ 15) (hv : 0 ≤ v ∧ v ≤ 65535) (x : C.St σ) : Rest2 B bs I T w s 23 d e1 n v x (C.act m ⟨x.c, x.s, K.cyc 23⟩ 23 d e1 n v) := by
  intro bo kb wx u0 u1 u2 u5 u11 u13 u20 u21 u22 u23 u24 u26 u27 u28 u29 u30 u31 u32 u33 u34 u35 u36 u37 u38 u39 u40 u41 u42 u43 u44 u45 u46 u47 u48 u49 u50 u51 u52 u53 u54 u55 u56 u57 u58 u59 u60 u61 u62 u63 u64 u65 u66 u67 u68 u69 u70 u71 u72 u73 u74 u75 u76 u77 u78 u79 u80 u81 u82 u83 u84 u85 u86 u87 u88 u89 u90 u91 u92 u93 u94 u95 u96 u97 u98 u99 u100 u101 u102 u103 u104 u105 u106 u107 u108 u109 u110 u111 u112 u113 u114 u115 u116 u117 u118 u119 u120 u121 u122 u123 u124 u125 u126 u127 u128 u129 u130 u131 u132 u133 u134 u135 u136 u137 u138 u139 u140 u141 u142 u143 u144 u145 u146 u147 u148 u149 u150 u151 u152 u153 u154 u155 u156 u157 u158 u159 u160 u161 u162 u163 u164 u165 u166 u167 u168 u169 u170 u171 u172 u173 u174 u175 u176 u177 u178 u179 u180 u181 u182 u183 u184 u185 u186 u187 u188 u189 u190 u191 u192 u193 u194 u195 u196 u197 u198 u199 u200 u201 u202 u203 u204 u205 u206 u207 u208 u209 u210 u211 u212 u213 u214 u215 u216 u217 u218 u219 u220 u221 u222 u223 u224 u225 u226 u227 u228 u229 u230 u231 u232 u233 u234 u235 u236 u237 u238 u239 u240 u241 u242 u243 u244 u245 u246 u247 u248 u249 u250 u251 u252 u253 u254 u255 u256 u257 u258 u259 u260 u261 u262 u263 u264 u265 u266 u267 u268 u269 u270 u271 u272 u273 u274 u275 u276 u277 u278 u279 u280 u281 u282 u283 u284 u285 u286 u287 u288 u289 u290 u291 u292 u293 u294 u295 u296 u297 u298 u299 u300 hK
  have HR := hid R
  obtain ⟨o0, o1, o2, o3, o4, k0, k1, k2⟩ := hK.cells
  have hnm : K.name 23 = ⟨#[112, 111, 112]⟩ := by kernel_rfl
  rw [hnm] at k0
  clear hnm
  have zo := hK.ltO
  have zk := hK.ltK
  have zp := hK.sw.qc.lt
  obtain ⟨r0, r1, r2, r3, r4, r5, r6, r7⟩ := hK.sw.qc.regs
  obtain ⟨r8, r9, r10, r11, r12, r13, r14⟩ := hK.sw.qc.cells
  have fp := hK.sw.qc.frozen
  have HK := hid hK
  clear hK R
  conv =>
    arg 2
    dsimp only [cTl, cSec, Tryz.f13, Option.getD]
  go_wp2_with (first
    | (go_at_call 24; refine (rpop_any HR.out _ _ _ x HK.out.sw.qc).mono ?_; rintro e w5 ⟨rfl, hq6, hm6⟩; have KM := hid (HK.out.step hq6 hm6); obtain ⟨_, oo1, _⟩ := KM.out.cells; have zo5 := KM.out.ltO; clear hq6 hm6)
    | (go_at_call 29; refine (rset_any HR.out (C.popV m x) (HR.out.word x.s (x.c.r 7)).1 (HR.out.word x.s (x.c.r 7)).2 d hd _ _ _ bo (C.pop m x) KM.out.sw.qc oo1).mono ?_; rintro e w6 ⟨rfl, hq6, hm6⟩; have HKF := hid (KM.out.step hq6 hm6); clear r0 r1 r2 r3 r4 r5 r6 r7 r8 r9 r10 r11 r12 r13 r14; obtain ⟨r0, r1, r2, r3, r4, r5, r6, r7⟩ := hq6.regs; obtain ⟨r8, r9, r10, r11, r12, r13, r14⟩ := hq6.cells; have zp6 := hq6.lt; clear hq6 hm6)
    | (refine wpList_store_mid rfl 25 (.tmp 6) (.tmp 299) rfl (w.heap.size + 1 + 1) 0 _ rfl rfl ?_ ?_ ?_ ?_
       · exact HKF.out.sw.there
       · exact info_cpu
       · exact cpuL_one ((⟨(C.pop m x).c.set d (C.popV m x), (C.pop m x).s, (C.pop m x).n⟩ : C.St σ)).c
       refine cutL (fun W => I W ((⟨(C.pop m x).c.set d (C.popV m x), (C.pop m x).s, (C.pop m x).n⟩ : C.St σ)).s ∧ Mv B (T s) (T ((⟨(C.pop m x).c.set d (C.popV m x), (C.pop m x).s, (C.pop m x).n⟩ : C.St σ)).s) w W ∧ W.rangeAt (w.heap.size + 1 + 1) 0 (cpuL ((⟨(C.pop m x).c.set d (C.popV m x), (C.pop m x).s, (C.pop m x).n⟩ : C.St σ)).c)) ?_ ?_
       · exact HKF.out.sw.fin HR.out hB (cpuL ((⟨(C.pop m x).c.set d (C.popV m x), (C.pop m x).s, (C.pop m x).n⟩ : C.St σ)).c) rfl
       rintro W ⟨hIW, hmW, hrW⟩))
  have hl := load_cpu W _ _ hrW
  refine bodyPost_ret (v := .tuple #[cpuV ((⟨(C.pop m x).c.set d (C.popV m x), (C.pop m x).s, (C.pop m x).n⟩ : C.St σ)).c, .int .i64 (K.cyc 23)]) ?_ rfl ⟨rfl, hIW, hmW⟩
  simp only [results, Tryz.results13]
  simp
  show (Result.andThen (Sem.run Tryz.prog (loadVar 25 ⟨w.heap.size + 1 + 1, 0, none⟩) W) _) = _
  rw [hl]
  rfl
set_option maxRecDepth 100000 in
set_option maxHeartbeats 3200000 in
theorem rsw_31 (R : QS m B bs I T) (w : World) (s : σ) (hB : B ≤ w.heap.size) (d e1 : Nat) (n v : Int) (hd : d < 8) (he : e1 < 8) (hn : -16 ≤ n ∧ n ≤ 15) (hv : 0 ≤ v ∧ v ≤ 65535) (x : C.St σ) : Rest2 B bs I T w s 31 d e1 n v x (C.act m ⟨x.c, x.s, K.cyc 31⟩ 31 d e1 n v) := by
  intro bo kb wx u0 u1 u2 u5 u11 u13 u20 u21 u22 u23 u24 u26 u27 u28 u29 u30 u31 u32 u33 u34 u35 u36 u37 u38 u39 u40 u41 u42 u43 u44 u45 u46 u47 u48 u49 u50 u51 u52 u53 u54 u55 u56 u57 u58 u59 u60 u61 u62 u63 u64 u65 u66 u67 u68 u69 u70 u71 u72 u73 u74 u75 u76 u77 u78 u79 u80 u81 u82 u83 u84 u85 u86 u87 u88 u89 u90 u91 u92 u93 u94 u95 u96 u97 u98 u99 u100 u101 u102 u103 u104 u105 u106 u107 u108 u109 u110 u111 u112 u113 u114 u115 u116 u117 u118 u119 u120 u121 u122 u123 u124 u125 u126 u127 u128 u129 u130 u131 u132 u133 u134 u135 u136 u137 u138 u139 u140 u141 u142 u143 u144 u145 u146 u147 u148 u149 u150 u151 u152 u153 u154 u155 u156 u157 u158 u159 u160 u161 u162 u163 u164 u165 u166 u167 u168 u169 u170 u171 u172 u173 u174 u175 u176 u177 u178 u179 u180 u181 u182 u183 u184 u185 u186 u187 u188 u189 u190 u191 u192 u193 u194 u195 u196 u197 u198 u199 u200 u201 u202 u203 u204 u205 u206 u207 u208 u209 u210 u211 u212 u213 u214 u215 u216 u217 u218 u219 u220 u221 u222 u223 u224 u225 u226 u227 u228 u229 u230 u231 u232 u233 u234 u235 u236 u237 u238 u239 u240 u241 u242 u243 u244 u245 u246 u247 u248 u249 u250 u251 u252 u253 u254 u255 u256 u257 u258 u259 u260 u261 u262 u263 u264 u265 u266 u267 u268 u269 u270 u271 u272 u273 u274 u275 u276 u277 u278 u279 u280 u281 u282 u283 u284 u285 u286 u287 u288 u289 u290 u291 u292 u293 u294 u295 u296 u297 u298 u299 u300 hK
  have HR := hid R
  obtain ⟨o0, o1, o2, o3, o4, k0, k1, k2⟩ := hK.cells
  have hnm : K.name 31 = ⟨#[116, 114, 97, 112]⟩ := by kernel_rfl
  rw [hnm] at k0
  clear hnm
  have zo := hK.ltO
  have zk := hK.ltK
  have zp := hK.sw.qc.lt
  obtain ⟨r0, r1, r2, r3, r4, r5, r6, r7⟩ := hK.sw.qc.regs
  obtain ⟨r8, r9, r10, r11, r12, r13, r14⟩ := hK.sw.qc.cells
  have fp := hK.sw.qc.frozen
  have HK := hid hK
  clear hK R
  have pp : wx.cell? ⟨w.heap.size + 1 + 1 + 1, 0, none⟩ = some (pushV w.heap.size (w.heap.size + 1)) := Lib.cell_of_heap HK.out.sw.push 0
  have zpp : w.heap.size + 1 + 1 + 1 < wx.heap.size := (Array.getElem?_eq_some_iff.1 HK.out.sw.push).1
  conv =>
    arg 2
    dsimp only [cTl, cSec, Tryz.f13, Option.getD]
  go_wp2_with (first
    | (go_at_call 26; refine (rleave_any HR.out 4 (by decide) (by decide) _ _ _ _ x HK.out.sw.qc pp (by omega) HK.out.sw.nopush).mono ?_; rintro e w5 ⟨rfl, hq6, hm6⟩; have HKF := hid (HK.out.step hq6 hm6); clear r0 r1 r2 r3 r4 r5 r6 r7 r8 r9 r10 r11 r12 r13 r14; obtain ⟨r0, r1, r2, r3, r4, r5, r6, r7⟩ := hq6.regs; obtain ⟨r8, r9, r10, r11, r12, r13, r14⟩ := hq6.cells; have zp6 := hq6.lt; clear hq6 hm6)
    | (refine wpList_store_mid rfl 25 (.tmp 6) (.tmp 299) rfl (w.heap.size + 1 + 1) 0 _ rfl rfl ?_ ?_ ?_ ?_
       · exact HKF.out.sw.there
       · exact info_cpu
       · exact cpuL_one ((C.leave m x 4)).c
       refine cutL (fun W => I W ((C.leave m x 4)).s ∧ Mv B (T s) (T ((C.leave m x 4)).s) w W ∧ W.rangeAt (w.heap.size + 1 + 1) 0 (cpuL ((C.leave m x 4)).c)) ?_ ?_
       · exact HKF.out.sw.fin HR.out hB (cpuL ((C.leave m x 4)).c) rfl
       rintro W ⟨hIW, hmW, hrW⟩))
  have hl := load_cpu W _ _ hrW
  refine bodyPost_ret (v := .tuple #[cpuV ((C.leave m x 4)).c, .int .i64 (K.cyc 31)]) ?_ rfl ⟨rfl, hIW, hmW⟩
  simp only [results, Tryz.results13]
  simp
  show (Result.andThen (Sem.run Tryz.prog (loadVar 25 ⟨w.heap.size + 1 + 1, 0, none⟩) W) _) = _
  rw [hl]
  rfl
end
section
variable {σ : Type} {m : C.Mem σ} {B bs : Nat} {I : World → σ → Prop} {T : σ → Nat → Prop}
set_option maxRecDepth 100000 in
set_option maxHeartbeats 3200000 in
theorem rsw_12 (R : QS m B bs I T) (w : World) (s : σ) (hB : B ≤ w.heap.size) (d e1 : Nat) (n v : Int) (hd : d < 8) (he : e1 < 8) (hn : -16 ≤ n ∧ n ≤ 15) (hn0 : 0 ≤ n) (hv : 0 ≤ v ∧ v ≤ 65535) (x : C.St σ) : Rest2 B bs I T w s 12 d e1 n v x (C.act m ⟨x.c, x.s, K.cyc 12⟩ 12 d e1 n v) := by
  intro bo kb wx u0 u1 u2 u5 u11 u13 u20 u21 u22 u23 u24 u26 u27 u28 u29 u30 u31 u32 u33 u34 u35 u36 u37 u38 u39 u40 u41 u42 u43 u44 u45 u46 u47 u48 u49 u50 u51 u52 u53 u54 u55 u56 u57 u58 u59 u60 u61 u62 u63 u64 u65 u66 u67 u68 u69 u70 u71 u72 u73 u74 u75 u76 u77 u78 u79 u80 u81 u82 u83 u84 u85 u86 u87 u88 u89 u90 u91 u92 u93 u94 u95 u96 u97 u98 u99 u100 u101 u102 u103 u104 u105 u106 u107 u108 u109 u110 u111 u112 u113 u114 u115 u116 u117 u118 u119 u120 u121 u122 u123 u124 u125 u126 u127 u128 u129 u130 u131 u132 u133 u134 u135 u136 u137 u138 u139 u140 u141 u142 u143 u144 u145 u146 u147 u148 u149 u150 u151 u152 u153 u154 u155 u156 u157 u158 u159 u160 u161 u162 u163 u164 u165 u166 u167 u168 u169 u170 u171 u172 u173 u174 u175 u176 u177 u178 u179 u180 u181 u182 u183 u184 u185 u186 u187 u188 u189 u190 u191 u192 u193 u194 u195 u196 u197 u198 u199 u200 u201 u202 u203 u204 u205 u206 u207 u208 u209 u210 u211 u212 u213 u214 u215 u216 u217 u218 u219 u220 u221 u222 u223 u224 u225 u226 u227 u228 u229 u230 u231 u232 u233 u234 u235 u236 u237 u238 u239 u240 u241 u242 u243 u244 u245 u246 u247 u248 u249 u250 u251 u252 u253 u254 u255 u256 u257 u258 u259 u260 u261 u262 u263 u264 u265 u266 u267 u268 u269 u270 u271 u272 u273 u274 u275 u276 u277 u278 u279 u280 u281 u282 u283 u284 u285 u286 u287 u288 u289 u290 u291 u292 u293 u294 u295 u296 u297 u298 u299 u300 hK
  have HR := hid R
  obtain ⟨o0, o1, o2, o3, o4, k0, k1, k2⟩ := hK.cells
  have hnm : K.name 12 = ⟨#[115, 104, 108]⟩ := by kernel_rfl
  rw [hnm] at k0
  clear hnm
  have zo := hK.ltO
  have zk := hK.ltK
  have zp := hK.sw.qc.lt
  obtain ⟨r0, r1, r2, r3, r4, r5, r6, r7⟩ := hK.sw.qc.regs
  obtain ⟨r8, r9, r10, r11, r12, r13, r14⟩ := hK.sw.qc.cells
  have fp := hK.sw.qc.frozen
  have HK := hid hK
  clear hK R
  obtain ⟨bd1, bd2⟩ := C.Cpu.r_bd HK.out.sw.qc.ok d
  obtain ⟨hb1, hb2⟩ := M.shlN_bd (x.c.r d) n
  conv =>
    arg 2
    dsimp only [cTl, cSec, Tryz.f13, Option.getD]
  go_wp2_with (first
    | (go_at_call 32; refine (down_any _ _ _ bd1 bd2 hn0 hn.2).mono ?_; rintro e w5 ⟨rfl, rfl⟩)
    | (go_at_call 33; refine (up_any _ _ _ bd1 bd2 hn0 hn.2).mono ?_; rintro e w6 ⟨rfl, rfl⟩)
    | (go_at_call 30; refine (rsigns_any HR.out (M.shlN (x.c.r d) n) hb1 hb2 (M.shlC (x.c.r d) n) false _ _ _ x HK.out.sw.qc).mono ?_; rintro e w6 ⟨rfl, hq6, hm6⟩; have KM := hid (HK.out.step hq6 hm6); obtain ⟨_, oo1, _, _, _, ll0, _⟩ := KM.out.cells; have zo6 := KM.out.ltO; have zk6 := KM.out.ltK; clear hq6 hm6)
    | (go_at_call 29; refine (rset_any HR.out (M.shlN (x.c.r d) n) hb1 hb2 d hd _ _ _ bo (C.signs x (M.shlN (x.c.r d) n) (M.shlC (x.c.r d) n) false) KM.out.sw.qc oo1).mono ?_; rintro e w7 ⟨rfl, hq7, hm7⟩; have HKF := hid (KM.out.step hq7 hm7); clear r0 r1 r2 r3 r4 r5 r6 r7 r8 r9 r10 r11 r12 r13 r14; obtain ⟨r0, r1, r2, r3, r4, r5, r6, r7⟩ := hq7.regs; obtain ⟨r8, r9, r10, r11, r12, r13, r14⟩ := hq7.cells; have zp6 := hq7.lt; clear hq7 hm7)
    | (refine wpList_store_mid rfl 25 (.tmp 6) (.tmp 299) rfl (w.heap.size + 1 + 1) 0 _ rfl rfl ?_ ?_ ?_ ?_
       · exact HKF.out.sw.there
       · exact info_cpu
       · exact cpuL_one ((⟨(C.signs x (M.shlN (x.c.r d) n) (M.shlC (x.c.r d) n) false).c.set d (M.shlN (x.c.r d) n), x.s, x.n⟩ : C.St σ)).c
       refine cutL (fun W => I W ((⟨(C.signs x (M.shlN (x.c.r d) n) (M.shlC (x.c.r d) n) false).c.set d (M.shlN (x.c.r d) n), x.s, x.n⟩ : C.St σ)).s ∧ Mv B (T s) (T ((⟨(C.signs x (M.shlN (x.c.r d) n) (M.shlC (x.c.r d) n) false).c.set d (M.shlN (x.c.r d) n), x.s, x.n⟩ : C.St σ)).s) w W ∧ W.rangeAt (w.heap.size + 1 + 1) 0 (cpuL ((⟨(C.signs x (M.shlN (x.c.r d) n) (M.shlC (x.c.r d) n) false).c.set d (M.shlN (x.c.r d) n), x.s, x.n⟩ : C.St σ)).c)) ?_ ?_
       · exact HKF.out.sw.fin HR.out hB (cpuL ((⟨(C.signs x (M.shlN (x.c.r d) n) (M.shlC (x.c.r d) n) false).c.set d (M.shlN (x.c.r d) n), x.s, x.n⟩ : C.St σ)).c) rfl
       rintro W ⟨hIW, hmW, hrW⟩))
  have hl := load_cpu W _ _ hrW
  refine bodyPost_ret (v := .tuple #[cpuV ((⟨(C.signs x (M.shlN (x.c.r d) n) (M.shlC (x.c.r d) n) false).c.set d (M.shlN (x.c.r d) n), x.s, x.n⟩ : C.St σ)).c, .int .i64 (K.cyc 12)]) ?_ rfl ⟨rfl, hIW, hmW⟩
  simp only [results, Tryz.results13]
  simp
  show (Result.andThen (Sem.run Tryz.prog (loadVar 25 ⟨w.heap.size + 1 + 1, 0, none⟩) W) _) = _
  rw [hl]
  rfl
set_option maxRecDepth 100000 in
set_option maxHeartbeats 3200000 in
theorem rsw_13 (R : QS m B bs I T) (w : World) (s : σ) (hB : B ≤ w.heap.size) (d e1 : Nat) (n v : Int) (hd : d < 8) (he : e1 < 8) (hn : -16 ≤ n ∧ n ≤ 15) (hn0 : 0 ≤ n) (hv : 0 ≤ v ∧ v ≤ 65535) (x : C.St σ) : Rest2 B bs I T w s 13 d e1 n v x (C.act m ⟨x.c, x.s, K.cyc 13⟩ 13 d e1 n v) := by
  intro bo kb wx u0 u1 u2 u5 u11 u13 u20 u21 u22 u23 u24 u26 u27 u28 u29 u30 u31 u32 u33 u34 u35 u36 u37 u38 u39 u40 u41 u42 u43 u44 u45 u46 u47 u48 u49 u50 u51 u52 u53 u54 u55 u56 u57 u58 u59 u60 u61 u62 u63 u64 u65 u66 u67 u68 u69 u70 u71 u72 u73 u74 u75 u76 u77 u78 u79 u80 u81 u82 u83 u84 u85 u86 u87 u88 u89 u90 u91 u92 u93 u94 u95 u96 u97 u98 u99 u100 u101 u102 u103 u104 u105 u106 u107 u108 u109 u110 u111 u112 u113 u114 u115 u116 u117 u118 u119 u120 u121 u122 u123 u124 u125 u126 u127 u128 u129 u130 u131 u132 u133 u134 u135 u136 u137 u138 u139 u140 u141 u142 u143 u144 u145 u146 u147 u148 u149 u150 u151 u152 u153 u154 u155 u156 u157 u158 u159 u160 u161 u162 u163 u164 u165 u166 u167 u168 u169 u170 u171 u172 u173 u174 u175 u176 u177 u178 u179 u180 u181 u182 u183 u184 u185 u186 u187 u188 u189 u190 u191 u192 u193 u194 u195 u196 u197 u198 u199 u200 u201 u202 u203 u204 u205 u206 u207 u208 u209 u210 u211 u212 u213 u214 u215 u216 u217 u218 u219 u220 u221 u222 u223 u224 u225 u226 u227 u228 u229 u230 u231 u232 u233 u234 u235 u236 u237 u238 u239 u240 u241 u242 u243 u244 u245 u246 u247 u248 u249 u250 u251 u252 u253 u254 u255 u256 u257 u258 u259 u260 u261 u262 u263 u264 u265 u266 u267 u268 u269 u270 u271 u272 u273 u274 u275 u276 u277 u278 u279 u280 u281 u282 u283 u284 u285 u286 u287 u288 u289 u290 u291 u292 u293 u294 u295 u296 u297 u298 u299 u300 hK
  have HR := hid R
  obtain ⟨o0, o1, o2, o3, o4, k0, k1, k2⟩ := hK.cells
  have hnm : K.name 13 = ⟨#[115, 104, 114]⟩ := by kernel_rfl
  rw [hnm] at k0
  clear hnm
  have zo := hK.ltO
  have zk := hK.ltK
  have zp := hK.sw.qc.lt
  obtain ⟨r0, r1, r2, r3, r4, r5, r6, r7⟩ := hK.sw.qc.regs
  obtain ⟨r8, r9, r10, r11, r12, r13, r14⟩ := hK.sw.qc.cells
  have fp := hK.sw.qc.frozen
  have HK := hid hK
  clear hK R
  obtain ⟨bd1, bd2⟩ := C.Cpu.r_bd HK.out.sw.qc.ok d
  have hb1 : 0 ≤ M.shrN (x.c.r d) n := Int.ediv_nonneg bd1 (Int.le_of_lt (Int.pow_pos (by omega)))
  have hb2 : M.shrN (x.c.r d) n ≤ 65535 := Int.le_trans (Int.ediv_le_self _ bd1) bd2
  conv =>
    arg 2
    dsimp only [cTl, cSec, Tryz.f13, Option.getD]
  go_wp2_with (first
    | (go_at_call 32; refine (down_any _ _ _ bd1 bd2 hn0 hn.2).mono ?_; rintro e w5 ⟨rfl, rfl⟩)
    | (go_at_call 30; refine (rsigns_any HR.out (M.shrN (x.c.r d) n) hb1 hb2 (M.shrC (x.c.r d) n) false _ _ _ x HK.out.sw.qc).mono ?_; rintro e w6 ⟨rfl, hq6, hm6⟩; have KM := hid (HK.out.step hq6 hm6); obtain ⟨_, oo1, _, _, _, ll0, _⟩ := KM.out.cells; have zo6 := KM.out.ltO; have zk6 := KM.out.ltK; clear hq6 hm6)
    | (go_at_call 29; refine (rset_any HR.out (M.shrN (x.c.r d) n) hb1 hb2 d hd _ _ _ bo (C.signs x (M.shrN (x.c.r d) n) (M.shrC (x.c.r d) n) false) KM.out.sw.qc oo1).mono ?_; rintro e w7 ⟨rfl, hq7, hm7⟩; have HKF := hid (KM.out.step hq7 hm7); clear r0 r1 r2 r3 r4 r5 r6 r7 r8 r9 r10 r11 r12 r13 r14; obtain ⟨r0, r1, r2, r3, r4, r5, r6, r7⟩ := hq7.regs; obtain ⟨r8, r9, r10, r11, r12, r13, r14⟩ := hq7.cells; have zp6 := hq7.lt; clear hq7 hm7)
    | (refine wpList_store_mid rfl 25 (.tmp 6) (.tmp 299) rfl (w.heap.size + 1 + 1) 0 _ rfl rfl ?_ ?_ ?_ ?_
       · exact HKF.out.sw.there
       · exact info_cpu
       · exact cpuL_one ((⟨(C.signs x (M.shrN (x.c.r d) n) (M.shrC (x.c.r d) n) false).c.set d (M.shrN (x.c.r d) n), x.s, x.n⟩ : C.St σ)).c
       refine cutL (fun W => I W ((⟨(C.signs x (M.shrN (x.c.r d) n) (M.shrC (x.c.r d) n) false).c.set d (M.shrN (x.c.r d) n), x.s, x.n⟩ : C.St σ)).s ∧ Mv B (T s) (T ((⟨(C.signs x (M.shrN (x.c.r d) n) (M.shrC (x.c.r d) n) false).c.set d (M.shrN (x.c.r d) n), x.s, x.n⟩ : C.St σ)).s) w W ∧ W.rangeAt (w.heap.size + 1 + 1) 0 (cpuL ((⟨(C.signs x (M.shrN (x.c.r d) n) (M.shrC (x.c.r d) n) false).c.set d (M.shrN (x.c.r d) n), x.s, x.n⟩ : C.St σ)).c)) ?_ ?_
       · exact HKF.out.sw.fin HR.out hB (cpuL ((⟨(C.signs x (M.shrN (x.c.r d) n) (M.shrC (x.c.r d) n) false).c.set d (M.shrN (x.c.r d) n), x.s, x.n⟩ : C.St σ)).c) rfl
       rintro W ⟨hIW, hmW, hrW⟩))
  have hl := load_cpu W _ _ hrW
  refine bodyPost_ret (v := .tuple #[cpuV ((⟨(C.signs x (M.shrN (x.c.r d) n) (M.shrC (x.c.r d) n) false).c.set d (M.shrN (x.c.r d) n), x.s, x.n⟩ : C.St σ)).c, .int .i64 (K.cyc 13)]) ?_ rfl ⟨rfl, hIW, hmW⟩
  simp only [results, Tryz.results13]
  simp
  show (Result.andThen (Sem.run Tryz.prog (loadVar 25 ⟨w.heap.size + 1 + 1, 0, none⟩) W) _) = _
  rw [hl]
  rfl
end
section
variable {σ : Type} {m : C.Mem σ} {B bs : Nat} {I : World → σ → Prop} {T : σ → Nat → Prop}
set_option maxRecDepth 100000 in
set_option maxHeartbeats 3200000 in
theorem rsw_26 (R : QS m B bs I T) (w : World) (s : σ) (hB : B ≤ w.heap.size) (d e1 : Nat) (n v : Int) (hd : d < 8) (he : e1 < 8) (hn : -16 ≤ n ∧ n ≤ 15) (hv : 0 ≤ v ∧ v ≤ 65535) (x : C.St σ) : Rest2 B bs I T w s 26 d e1 n v x (C.act m ⟨x.c, x.s, K.cyc 26⟩ 26 d e1 n v) := by
  intro bo kb wx u0 u1 u2 u5 u11 u13 u20 u21 u22 u23 u24 u26 u27 u28 u29 u30 u31 u32 u33 u34 u35 u36 u37 u38 u39 u40 u41 u42 u43 u44 u45 u46 u47 u48 u49 u50 u51 u52 u53 u54 u55 u56 u57 u58 u59 u60 u61 u62 u63 u64 u65 u66 u67 u68 u69 u70 u71 u72 u73 u74 u75 u76 u77 u78 u79 u80 u81 u82 u83 u84 u85 u86 u87 u88 u89 u90 u91 u92 u93 u94 u95 u96 u97 u98 u99 u100 u101 u102 u103 u104 u105 u106 u107 u108 u109 u110 u111 u112 u113 u114 u115 u116 u117 u118 u119 u120 u121 u122 u123 u124 u125 u126 u127 u128 u129 u130 u131 u132 u133 u134 u135 u136 u137 u138 u139 u140 u141 u142 u143 u144 u145 u146 u147 u148 u149 u150 u151 u152 u153 u154 u155 u156 u157 u158 u159 u160 u161 u162 u163 u164 u165 u166 u167 u168 u169 u170 u171 u172 u173 u174 u175 u176 u177 u178 u179 u180 u181 u182 u183 u184 u185 u186 u187 u188 u189 u190 u191 u192 u193 u194 u195 u196 u197 u198 u199 u200 u201 u202 u203 u204 u205 u206 u207 u208 u209 u210 u211 u212 u213 u214 u215 u216 u217 u218 u219 u220 u221 u222 u223 u224 u225 u226 u227 u228 u229 u230 u231 u232 u233 u234 u235 u236 u237 u238 u239 u240 u241 u242 u243 u244 u245 u246 u247 u248 u249 u250 u251 u252 u253 u254 u255 u256 u257 u258 u259 u260 u261 u262 u263 u264 u265 u266 u267 u268 u269 u270 u271 u272 u273 u274 u275 u276 u277 u278 u279 u280 u281 u282 u283 u284 u285 u286 u287 u288 u289 u290 u291 u292 u293 u294 u295 u296 u297 u298 u299 u300 hK
  have HR := hid R
  obtain ⟨o0, o1, o2, o3, o4, k0, k1, k2⟩ := hK.cells
  have hnm : K.name 26 = ⟨#[114, 116, 105]⟩ := by kernel_rfl
  rw [hnm] at k0
  clear hnm
  have zo := hK.ltO
  have zk := hK.ltK
  have zp := hK.sw.qc.lt
  obtain ⟨r0, r1, r2, r3, r4, r5, r6, r7⟩ := hK.sw.qc.regs
  obtain ⟨r8, r9, r10, r11, r12, r13, r14⟩ := hK.sw.qc.cells
  have fp := hK.sw.qc.frozen
  have HK := hid hK
  clear hK R
  obtain ⟨hb1, hb2⟩ := HR.out.word x.s (x.c.r 7)
  have hp1 : 0 ≤ C.popV m x := hb1
  have hp2 : C.popV m x ≤ 65535 := hb2
  have ed2 : IntKind.u16.wrap ((C.popV m x).tdiv 2) = C.popV m x / 2 := by rw [Int.tdiv_eq_ediv_of_nonneg hp1, u16w]; omega
  have em2 : IntKind.u16.wrap ((C.popV m x / 2).tmod 2) = C.popV m x / 2 % 2 := by rw [Int.tmod_eq_emod_of_nonneg (by omega), u16w]; omega
  have ed4 : IntKind.u16.wrap ((C.popV m x).tdiv 4) = C.popV m x / 4 := by rw [Int.tdiv_eq_ediv_of_nonneg hp1, u16w]; omega
  have em4 : IntKind.u16.wrap ((C.popV m x / 4).tmod 2) = C.popV m x / 4 % 2 := by rw [Int.tmod_eq_emod_of_nonneg (by omega), u16w]; omega
  have ed8 : IntKind.u16.wrap ((C.popV m x).tdiv 8) = C.popV m x / 8 := by rw [Int.tdiv_eq_ediv_of_nonneg hp1, u16w]; omega
  have em8 : IntKind.u16.wrap ((C.popV m x / 8).tmod 2) = C.popV m x / 8 % 2 := by rw [Int.tmod_eq_emod_of_nonneg (by omega), u16w]; omega
  have ed16 : IntKind.u16.wrap ((C.popV m x).tdiv 16) = C.popV m x / 16 := by rw [Int.tdiv_eq_ediv_of_nonneg hp1, u16w]; omega
  have em16 : IntKind.u16.wrap ((C.popV m x / 16).tmod 2) = C.popV m x / 16 % 2 := by rw [Int.tmod_eq_emod_of_nonneg (by omega), u16w]; omega
  have em1 : IntKind.u16.wrap ((C.popV m x).tmod 2) = C.popV m x % 2 := by rw [Int.tmod_eq_emod_of_nonneg hp1, u16w]; omega
  clear hb1 hb2
  conv =>
    arg 2
    dsimp only [cTl, cSec, Tryz.f13, Option.getD]
  go_wp2_with (first
    | (have zz := KM; clear zz; go_at_call 24; refine (rpop_any HR.out _ _ _ (C.pop m x) KM.out.sw.qc).mono ?_; rintro e w6 ⟨rfl, hq6, hm6⟩; have KN := hid (KM.out.step hq6 hm6); have HKF := hid (KN.out.step ((((((KN.out.sw.qc.putPC HR.out (C.popV m (C.pop m x)) (HR.out.word (C.pop m x).s ((C.pop m x).c.r 7)).1 (HR.out.word (C.pop m x).s ((C.pop m x).c.r 7)).2).putZ HR.out (decide (C.popV m x % 2 = 1))).putN HR.out (decide (C.popV m x / 2 % 2 = 1))).putC HR.out (decide (C.popV m x / 4 % 2 = 1))).putV HR.out (decide (C.popV m x / 8 % 2 = 1))).putMay HR.out (decide (C.popV m x / 16 % 2 = 1))) (((((((PM.refl B T _ _ w6).set KN.out.sw.qc.big 8 _).set KN.out.sw.qc.big 9 _).set KN.out.sw.qc.big 10 _).set KN.out.sw.qc.big 11 _).set KN.out.sw.qc.big 12 _).set KN.out.sw.qc.big 13 _)); have fp5 := hq6.frozen; clear r0 r1 r2 r3 r4 r5 r6 r7 r8 r9 r10 r11 r12 r13 r14; obtain ⟨r0, r1, r2, r3, r4, r5, r6, r7⟩ := hq6.regs; obtain ⟨r8, r9, r10, r11, r12, r13, r14⟩ := hq6.cells; have zp6 := hq6.lt; clear hq6 hm6)
    | (go_at_call 24; refine (rpop_any HR.out _ _ _ x HK.out.sw.qc).mono ?_; rintro e w5 ⟨rfl, hq6, hm6⟩; have KM := hid (HK.out.step hq6 hm6); clear hq6 hm6)
    | (refine wpList_store_mid rfl 25 (.tmp 6) (.tmp 299) rfl (w.heap.size + 1 + 1) 0 _ rfl rfl ?_ ?_ ?_ ?_
       · exact HKF.out.sw.there
       · exact info_cpu
       · exact cpuL_one ((C.comeBack m x)).c
       refine cutL (fun W => I W ((C.comeBack m x)).s ∧ Mv B (T s) (T ((C.comeBack m x)).s) w W ∧ W.rangeAt (w.heap.size + 1 + 1) 0 (cpuL ((C.comeBack m x)).c)) ?_ ?_
       · exact HKF.out.sw.fin HR.out hB (cpuL ((C.comeBack m x)).c) rfl
       rintro W ⟨hIW, hmW, hrW⟩))
  have hl := load_cpu W _ _ hrW
  refine bodyPost_ret (v := .tuple #[cpuV ((C.comeBack m x)).c, .int .i64 (K.cyc 26)]) ?_ rfl ⟨rfl, hIW, hmW⟩
  simp only [results, Tryz.results13]
  simp
  show (Result.andThen (Sem.run Tryz.prog (loadVar 25 ⟨w.heap.size + 1 + 1, 0, none⟩) W) _) = _
  rw [hl]
  rfl
end
section
variable {σ : Type} {m : C.Mem σ} {B bs : Nat} {I : World → σ → Prop} {T : σ → Nat → Prop}
set_option maxRecDepth 100000 in
set_option maxHeartbeats 3200000 in
theorem rrk_14 (R : QS m B bs I T) (w : World) (s : σ) (hB : B ≤ w.heap.size) (d e1 : Nat) (n v : Int) (hd : d < 8) (he : e1 < 8) (hn : -16 ≤ n ∧ n ≤ 15) (x : C.St σ) : Rest B bs I T w s 14 d e1 n v x (C.act m ⟨x.c, x.s, K.cyc 14⟩ 14 d e1 n v) := by
  intro bo kb wx u0 u1 u2 u5 u11 u13 u15 u16 u17 u18 u19 u20 u21 u22 u23 u24 u25 u26 u27 u28 u29 u30 u31 u32 u33 u34 u35 u36 u37 u38 u39 u40 u41 u42 u43 u44 u45 u46 u47 u48 u49 u50 u51 u52 u53 u54 u55 u56 u57 u58 u59 u60 u61 u62 u63 u64 u65 u66 u67 u68 u69 u70 u71 u72 u73 u74 u75 u76 u77 u78 u79 u80 u81 u82 u83 u84 u85 u86 u87 u88 u89 u90 u91 u92 u93 u94 u95 u96 u97 u98 u99 u100 u101 u102 u103 u104 u105 u106 u107 u108 u109 u110 u111 u112 u113 u114 u115 u116 u117 u118 u119 u120 u121 u122 u123 u124 u125 u126 u127 u128 u129 u130 u131 u132 u133 u134 u135 u136 u137 u138 u139 u140 u141 u142 u143 u144 u145 u146 u147 u148 u149 u150 u151 u152 u153 u154 u155 u156 u157 u158 u159 u160 u161 u162 u163 u164 u165 u166 u167 u168 u169 u170 u171 u172 u173 u174 u175 u176 u177 u178 u179 u180 u181 u182 u183 u184 u185 u186 u187 u188 u189 u190 u191 u192 u193 u194 u195 u196 u197 u198 u199 u200 u201 u202 u203 u204 u205 u206 u207 u208 u209 u210 u211 u212 u213 u214 u215 u216 u217 u218 u219 u220 u221 u222 u223 u224 u225 u226 u227 u228 u229 u230 u231 u232 u233 u234 u235 u236 u237 u238 u239 u240 u241 u242 u243 u244 u245 u246 u247 u248 u249 u250 u251 u252 u253 u254 u255 u256 u257 u258 u259 u260 u261 u262 u263 u264 u265 u266 u267 u268 u269 u270 u271 u272 u273 u274 u275 u276 u277 u278 u279 u280 u281 u282 u283 u284 u285 u286 u287 u288 u289 u290 u291 u292 u293 u294 u295 u296 u297 u298 u299 u300 hK
  have HR := hid R
  obtain ⟨o0, o1, o2, o3, o4, k0, k1, k2⟩ := hK.cells
  have hnm : K.name 14 = ⟨#[99, 109, 112]⟩ := by kernel_rfl
  rw [hnm] at k0
  have zo := hK.ltO
  have zk := hK.ltK
  have zp := hK.sw.qc.lt
  have rd := hK.sw.qc.reg d hd
  have re := hK.sw.qc.reg e1 he
  obtain ⟨bd1, bd2⟩ := C.Cpu.r_bd hK.sw.qc.ok d
  obtain ⟨be1, be2⟩ := C.Cpu.r_bd hK.sw.qc.ok e1
  have hd0 : (0 : Int) ≤ d := by omega
  have hd1 : (d : Int) < 8 := by omega
  have he0 : (0 : Int) ≤ e1 := by omega
  have he1 : (e1 : Int) < 8 := by omega
  obtain ⟨hb1, hb2⟩ := M.subN_bd (x.c.r d) (x.c.r e1)
  have HK := hid hK
  have HNM := hid hnm
  clear hK R hnm
  conv =>
    arg 2
    dsimp only [cTl, cSec, Tryz.f13, Option.getD]
  go_wp2
  go_region_held3 (fun w' => w'.cell? ⟨bo, 1, none⟩ = some (.int .i64 d) ∧ w'.cell? ⟨bo, 2, none⟩ = some (.int .i64 e1) ∧ w'.cell? ⟨w.heap.size, d, none⟩ = some (.int .u16 (x.c.r d)) ∧ w'.cell? ⟨w.heap.size, e1, none⟩ = some (.int .u16 (x.c.r e1)))
    ((go_keep; done))
    (fail)
  have KD := hid (HK.out.kept HR.out (st0 wx).drew)
  obtain ⟨r0, r1, r2, r3, r4, r5, r6, r7⟩ := HK.out.sw.qc.regs
  obtain ⟨r8, r9, r10, r11, r12, r13, r14⟩ := HK.out.sw.qc.cells
  go_wp2_with (first
    | (go_at_call 31; refine (res_sub 14 _ _ _ bd1 bd2 be1 be2 (Or.inr rfl)).mono ?_; rintro e w5 ⟨rfl, hg5⟩; have K5 := hid (KD.out.kept HR.out hg5); obtain ⟨p0, p1, p2, p3, p4, l0, l1, l2⟩ := K5.out.cells; rw [HNM.out] at l0; have yo := K5.out.ltO; have yk := K5.out.ltK; clear hg5)
    | (go_at_call 30; refine (rsigns_any HR.out (M.subN (x.c.r d) (x.c.r e1)) hb1 hb2 (M.subC (x.c.r d) (x.c.r e1)) (M.subV (x.c.r d) (x.c.r e1)) _ _ _ x K5.out.sw.qc).mono ?_; rintro e w6 ⟨rfl, hq6, hm6⟩; have KM := hid (K5.out.step hq6 hm6); obtain ⟨_, oo1, _, _, _, ll0, _⟩ := KM.out.cells; rw [HNM.out] at ll0; have zo6 := KM.out.ltO; have zk6 := KM.out.ltK; clear r0 r1 r2 r3 r4 r5 r6 r7 r8 r9 r10 r11 r12 r13 r14; obtain ⟨r0, r1, r2, r3, r4, r5, r6, r7⟩ := hq6.regs; obtain ⟨r8, r9, r10, r11, r12, r13, r14⟩ := hq6.cells; have zp6 := hq6.lt; clear hq6 hm6)
    | (refine wpList_store_mid rfl 25 (.tmp 6) (.tmp 118) rfl (w.heap.size + 1 + 1) 0 _ rfl rfl ?_ ?_ ?_ ?_
       · exact KM.out.sw.there
       · exact info_cpu
       · exact cpuL_one ((C.signs x (M.subN (x.c.r d) (x.c.r e1)) (M.subC (x.c.r d) (x.c.r e1)) (M.subV (x.c.r d) (x.c.r e1)))).c
       refine cutL (fun W => I W ((C.signs x (M.subN (x.c.r d) (x.c.r e1)) (M.subC (x.c.r d) (x.c.r e1)) (M.subV (x.c.r d) (x.c.r e1)))).s ∧ Mv B (T s) (T ((C.signs x (M.subN (x.c.r d) (x.c.r e1)) (M.subC (x.c.r d) (x.c.r e1)) (M.subV (x.c.r d) (x.c.r e1)))).s) w W ∧ W.rangeAt (w.heap.size + 1 + 1) 0 (cpuL ((C.signs x (M.subN (x.c.r d) (x.c.r e1)) (M.subC (x.c.r d) (x.c.r e1)) (M.subV (x.c.r d) (x.c.r e1)))).c)) ?_ ?_
       · exact KM.out.sw.fin HR.out hB (cpuL ((C.signs x (M.subN (x.c.r d) (x.c.r e1)) (M.subC (x.c.r d) (x.c.r e1)) (M.subV (x.c.r d) (x.c.r e1)))).c) rfl
       rintro W ⟨hIW, hmW, hrW⟩))
  have hl := load_cpu W _ _ hrW
  refine bodyPost_ret (v := .tuple #[cpuV ((C.signs x (M.subN (x.c.r d) (x.c.r e1)) (M.subC (x.c.r d) (x.c.r e1)) (M.subV (x.c.r d) (x.c.r e1)))).c, .int .i64 (K.cyc 14)]) ?_ rfl ⟨rfl, hIW, hmW⟩
  simp only [results, Tryz.results13]
  simp
  show (Result.andThen (Sem.run Tryz.prog (loadVar 25 ⟨w.heap.size + 1 + 1, 0, none⟩) W) _) = _
  rw [hl]
  rfl
end
end Go.Proofs.YtombboeonffejaaGreatDoor
