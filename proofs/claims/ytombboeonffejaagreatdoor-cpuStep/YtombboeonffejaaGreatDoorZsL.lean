/-
  The reference's orders, one by one.
-/
import Derived.Test.YtombboeonffejaaGreatDoorZsC
import Derived.Deep.DeepCutAuto
namespace Go.Proofs.YtombboeonffejaaGreatDoor
open Go.ChangeShapes Go.WideShapes Go.ChangeAt Go.RowKit
set_option linter.unusedVariables false

section
variable {σ : Type} {m : C.Mem σ} {B bs : Nat} {I : World → σ → Prop} {T : σ → Nat → Prop}
set_option maxRecDepth 100000 in
set_option maxHeartbeats 3200000 in
theorem rsw_0 (R : QS m B bs I T) (w : World) (s : σ) (hB : B ≤ w.heap.size) (d e1 : Nat) (n v : Int) (hd : d < 8) (he : e1 < 8) (hn : -16 ≤ n ∧ n ≤ 15) (hv : 0 ≤ v ∧ v ≤ 65535) (x : C.St σ) : Rest2 B bs I T w s 0 d e1 n v x (C.act m ⟨x.c, x.s, K.cyc 0⟩ 0 d e1 n v) := by
  intro bo kb wx u0 u1 u2 u5 u11 u13 u20 u21 u22 u23 u24 u26 u27 u28 u29 u30 u31 u32 u33 u34 u35 u36 u37 u38 u39 u40 u41 u42 u43 u44 u45 u46 u47 u48 u49 u50 u51 u52 u53 u54 u55 u56 u57 u58 u59 u60 u61 u62 u63 u64 u65 u66 u67 u68 u69 u70 u71 u72 u73 u74 u75 u76 u77 u78 u79 u80 u81 u82 u83 u84 u85 u86 u87 u88 u89 u90 u91 u92 u93 u94 u95 u96 u97 u98 u99 u100 u101 u102 u103 u104 u105 u106 u107 u108 u109 u110 u111 u112 u113 u114 u115 u116 u117 u118 u119 u120 u121 u122 u123 u124 u125 u126 u127 u128 u129 u130 u131 u132 u133 u134 u135 u136 u137 u138 u139 u140 u141 u142 u143 u144 u145 u146 u147 u148 u149 u150 u151 u152 u153 u154 u155 u156 u157 u158 u159 u160 u161 u162 u163 u164 u165 u166 u167 u168 u169 u170 u171 u172 u173 u174 u175 u176 u177 u178 u179 u180 u181 u182 u183 u184 u185 u186 u187 u188 u189 u190 u191 u192 u193 u194 u195 u196 u197 u198 u199 u200 u201 u202 u203 u204 u205 u206 u207 u208 u209 u210 u211 u212 u213 u214 u215 u216 u217 u218 u219 u220 u221 u222 u223 u224 u225 u226 u227 u228 u229 u230 u231 u232 u233 u234 u235 u236 u237 u238 u239 u240 u241 u242 u243 u244 u245 u246 u247 u248 u249 u250 u251 u252 u253 u254 u255 u256 u257 u258 u259 u260 u261 u262 u263 u264 u265 u266 u267 u268 u269 u270 u271 u272 u273 u274 u275 u276 u277 u278 u279 u280 u281 u282 u283 u284 u285 u286 u287 u288 u289 u290 u291 u292 u293 u294 u295 u296 u297 u298 u299 u300 hK
  have HR := hid R
  obtain ⟨o0, o1, o2, o3, o4, k0, k1, k2⟩ := hK.cells
  have hnm : K.name 0 = ⟨#[110, 111, 112]⟩ := by kernel_rfl
  rw [hnm] at k0
  clear hnm
  have zo := hK.ltO
  have zk := hK.ltK
  have zp := hK.sw.qc.lt
  obtain ⟨r0, r1, r2, r3, r4, r5, r6, r7⟩ := hK.sw.qc.regs
  obtain ⟨r8, r9, r10, r11, r12, r13, r14⟩ := hK.sw.qc.cells
  have fp := hK.sw.qc.frozen
  have HK := hid hK
  clear hK R
  conv =>
    arg 2
    dsimp only [cTl, cSec, Tryz.f13, Option.getD]
  go_wp2_with (first
    | (refine wpList_store_mid rfl 25 (.tmp 6) (.tmp 299) rfl (w.heap.size + 1 + 1) 0 _ rfl rfl ?_ ?_ ?_ ?_
       · exact HK.out.sw.there
       · exact info_cpu
       · exact cpuL_one (x).c
       refine cutL (fun W => I W (x).s ∧ Mv B (T s) (T (x).s) w W ∧ W.rangeAt (w.heap.size + 1 + 1) 0 (cpuL (x).c)) ?_ ?_
       · exact HK.out.sw.fin HR.out hB (cpuL (x).c) rfl
       rintro W ⟨hIW, hmW, hrW⟩))
  have hl := load_cpu W _ _ hrW
  refine bodyPost_ret (v := .tuple #[cpuV (x).c, .int .i64 (K.cyc 0)]) ?_ rfl ⟨rfl, hIW, hmW⟩
  simp only [results, Tryz.results13]
  simp
  show (Result.andThen (Sem.run Tryz.prog (loadVar 25 ⟨w.heap.size + 1 + 1, 0, none⟩) W) _) = _
  rw [hl]
  rfl
end
section
variable {σ : Type} {m : C.Mem σ} {B bs : Nat} {I : World → σ → Prop} {T : σ → Nat → Prop}
set_option maxRecDepth 100000 in
set_option maxHeartbeats 3200000 in
theorem rsw_24 (R : QS m B bs I T) (w : World) (s : σ) (hB : B ≤ w.heap.size) (d e1 : Nat) (n v : Int) (hd : d < 8) (he : e1 < 8) (hn : -16 ≤ n ∧ n ≤ 15) (hv : 0 ≤ v ∧ v ≤ 65535) (x : C.St σ) : Rest2 B bs I T w s 24 d e1 n v x (C.act m ⟨x.c, x.s, K.cyc 24⟩ 24 d e1 n v) := by
  intro bo kb wx u0 u1 u2 u5 u11 u13 u20 u21 u22 u23 u24 u26 u27 u28 u29 u30 u31 u32 u33 u34 u35 u36 u37 u38 u39 u40 u41 u42 u43 u44 u45 u46 u47 u48 u49 u50 u51 u52 u53 u54 u55 u56 u57 u58 u59 u60 u61 u62 u63 u64 u65 u66 u67 u68 u69 u70 u71 u72 u73 u74 u75 u76 u77 u78 u79 u80 u81 u82 u83 u84 u85 u86 u87 u88 u89 u90 u91 u92 u93 u94 u95 u96 u97 u98 u99 u100 u101 u102 u103 u104 u105 u106 u107 u108 u109 u110 u111 u112 u113 u114 u115 u116 u117 u118 u119 u120 u121 u122 u123 u124 u125 u126 u127 u128 u129 u130 u131 u132 u133 u134 u135 u136 u137 u138 u139 u140 u141 u142 u143 u144 u145 u146 u147 u148 u149 u150 u151 u152 u153 u154 u155 u156 u157 u158 u159 u160 u161 u162 u163 u164 u165 u166 u167 u168 u169 u170 u171 u172 u173 u174 u175 u176 u177 u178 u179 u180 u181 u182 u183 u184 u185 u186 u187 u188 u189 u190 u191 u192 u193 u194 u195 u196 u197 u198 u199 u200 u201 u202 u203 u204 u205 u206 u207 u208 u209 u210 u211 u212 u213 u214 u215 u216 u217 u218 u219 u220 u221 u222 u223 u224 u225 u226 u227 u228 u229 u230 u231 u232 u233 u234 u235 u236 u237 u238 u239 u240 u241 u242 u243 u244 u245 u246 u247 u248 u249 u250 u251 u252 u253 u254 u255 u256 u257 u258 u259 u260 u261 u262 u263 u264 u265 u266 u267 u268 u269 u270 u271 u272 u273 u274 u275 u276 u277 u278 u279 u280 u281 u282 u283 u284 u285 u286 u287 u288 u289 u290 u291 u292 u293 u294 u295 u296 u297 u298 u299 u300 hK
  have HR := hid R
  obtain ⟨o0, o1, o2, o3, o4, k0, k1, k2⟩ := hK.cells
  have hnm : K.name 24 = ⟨#[101, 105]⟩ := by kernel_rfl
  rw [hnm] at k0
  clear hnm
  have zo := hK.ltO
  have zk := hK.ltK
  have zp := hK.sw.qc.lt
  obtain ⟨r0, r1, r2, r3, r4, r5, r6, r7⟩ := hK.sw.qc.regs
  obtain ⟨r8, r9, r10, r11, r12, r13, r14⟩ := hK.sw.qc.cells
  have fp := hK.sw.qc.frozen
  have HK := hid hK
  clear hK R
  have HKF := hid (HK.out.step (HK.out.sw.qc.putMay HR.out true) ((PM.refl B T _ x.s wx).set HK.out.sw.qc.big 13 _))
  conv =>
    arg 2
    dsimp only [cTl, cSec, Tryz.f13, Option.getD]
  go_wp2_with (first
    | (refine wpList_store_mid rfl 25 (.tmp 6) (.tmp 299) rfl (w.heap.size + 1 + 1) 0 _ rfl rfl ?_ ?_ ?_ ?_
       · exact HKF.out.sw.there
       · exact info_cpu
       · exact cpuL_one ((⟨{ x.c with May := true }, x.s, x.n⟩ : C.St σ)).c
       refine cutL (fun W => I W ((⟨{ x.c with May := true }, x.s, x.n⟩ : C.St σ)).s ∧ Mv B (T s) (T ((⟨{ x.c with May := true }, x.s, x.n⟩ : C.St σ)).s) w W ∧ W.rangeAt (w.heap.size + 1 + 1) 0 (cpuL ((⟨{ x.c with May := true }, x.s, x.n⟩ : C.St σ)).c)) ?_ ?_
       · exact HKF.out.sw.fin HR.out hB (cpuL ((⟨{ x.c with May := true }, x.s, x.n⟩ : C.St σ)).c) rfl
       rintro W ⟨hIW, hmW, hrW⟩))
  have hl := load_cpu W _ _ hrW
  refine bodyPost_ret (v := .tuple #[cpuV ((⟨{ x.c with May := true }, x.s, x.n⟩ : C.St σ)).c, .int .i64 (K.cyc 24)]) ?_ rfl ⟨rfl, hIW, hmW⟩
  simp only [results, Tryz.results13]
  simp
  show (Result.andThen (Sem.run Tryz.prog (loadVar 25 ⟨w.heap.size + 1 + 1, 0, none⟩) W) _) = _
  rw [hl]
  rfl
set_option maxRecDepth 100000 in
set_option maxHeartbeats 3200000 in
theorem rsw_25 (R : QS m B bs I T) (w : World) (s : σ) (hB : B ≤ w.heap.size) (d e1 : Nat) (n v : Int) (hd : d < 8) (he : e1 < 8) (hn : -16 ≤ n ∧ n ≤ 15) (hv : 0 ≤ v ∧ v ≤ 65535) (x : C.St σ) : Rest2 B bs I T w s 25 d e1 n v x (C.act m ⟨x.c, x.s, K.cyc 25⟩ 25 d e1 n v) := by
  intro bo kb wx u0 u1 u2 u5 u11 u13 u20 u21 u22 u23 u24 u26 u27 u28 u29 u30 u31 u32 u33 u34 u35 u36 u37 u38 u39 u40 u41 u42 u43 u44 u45 u46 u47 u48 u49 u50 u51 u52 u53 u54 u55 u56 u57 u58 u59 u60 u61 u62 u63 u64 u65 u66 u67 u68 u69 u70 u71 u72 u73 u74 u75 u76 u77 u78 u79 u80 u81 u82 u83 u84 u85 u86 u87 u88 u89 u90 u91 u92 u93 u94 u95 u96 u97 u98 u99 u100 u101 u102 u103 u104 u105 u106 u107 u108 u109 u110 u111 u112 u113 u114 u115 u116 u117 u118 u119 u120 u121 u122 u123 u124 u125 u126 u127 u128 u129 u130 u131 u132 u133 u134 u135 u136 u137 u138 u139 u140 u141 u142 u143 u144 u145 u146 u147 u148 u149 u150 u151 u152 u153 u154 u155 u156 u157 u158 u159 u160 u161 u162 u163 u164 u165 u166 u167 u168 u169 u170 u171 u172 u173 u174 u175 u176 u177 u178 u179 u180 u181 u182 u183 u184 u185 u186 u187 u188 u189 u190 u191 u192 u193 u194 u195 u196 u197 u198 u199 u200 u201 u202 u203 u204 u205 u206 u207 u208 u209 u210 u211 u212 u213 u214 u215 u216 u217 u218 u219 u220 u221 u222 u223 u224 u225 u226 u227 u228 u229 u230 u231 u232 u233 u234 u235 u236 u237 u238 u239 u240 u241 u242 u243 u244 u245 u246 u247 u248 u249 u250 u251 u252 u253 u254 u255 u256 u257 u258 u259 u260 u261 u262 u263 u264 u265 u266 u267 u268 u269 u270 u271 u272 u273 u274 u275 u276 u277 u278 u279 u280 u281 u282 u283 u284 u285 u286 u287 u288 u289 u290 u291 u292 u293 u294 u295 u296 u297 u298 u299 u300 hK
  have HR := hid R
  obtain ⟨o0, o1, o2, o3, o4, k0, k1, k2⟩ := hK.cells
  have hnm : K.name 25 = ⟨#[100, 105]⟩ := by kernel_rfl
  rw [hnm] at k0
  clear hnm
  have zo := hK.ltO
  have zk := hK.ltK
  have zp := hK.sw.qc.lt
  obtain ⟨r0, r1, r2, r3, r4, r5, r6, r7⟩ := hK.sw.qc.regs
  obtain ⟨r8, r9, r10, r11, r12, r13, r14⟩ := hK.sw.qc.cells
  have fp := hK.sw.qc.frozen
  have HK := hid hK
  clear hK R
  have HKF := hid (HK.out.step (HK.out.sw.qc.putMay HR.out false) ((PM.refl B T _ x.s wx).set HK.out.sw.qc.big 13 _))
  conv =>
    arg 2
    dsimp only [cTl, cSec, Tryz.f13, Option.getD]
  go_wp2_with (first
    | (refine wpList_store_mid rfl 25 (.tmp 6) (.tmp 299) rfl (w.heap.size + 1 + 1) 0 _ rfl rfl ?_ ?_ ?_ ?_
       · exact HKF.out.sw.there
       · exact info_cpu
       · exact cpuL_one ((⟨{ x.c with May := false }, x.s, x.n⟩ : C.St σ)).c
       refine cutL (fun W => I W ((⟨{ x.c with May := false }, x.s, x.n⟩ : C.St σ)).s ∧ Mv B (T s) (T ((⟨{ x.c with May := false }, x.s, x.n⟩ : C.St σ)).s) w W ∧ W.rangeAt (w.heap.size + 1 + 1) 0 (cpuL ((⟨{ x.c with May := false }, x.s, x.n⟩ : C.St σ)).c)) ?_ ?_
       · exact HKF.out.sw.fin HR.out hB (cpuL ((⟨{ x.c with May := false }, x.s, x.n⟩ : C.St σ)).c) rfl
       rintro W ⟨hIW, hmW, hrW⟩))
  have hl := load_cpu W _ _ hrW
  refine bodyPost_ret (v := .tuple #[cpuV ((⟨{ x.c with May := false }, x.s, x.n⟩ : C.St σ)).c, .int .i64 (K.cyc 25)]) ?_ rfl ⟨rfl, hIW, hmW⟩
  simp only [results, Tryz.results13]
  simp
  show (Result.andThen (Sem.run Tryz.prog (loadVar 25 ⟨w.heap.size + 1 + 1, 0, none⟩) W) _) = _
  rw [hl]
  rfl
set_option maxRecDepth 100000 in
set_option maxHeartbeats 3200000 in
theorem rsw_27 (R : QS m B bs I T) (w : World) (s : σ) (hB : B ≤ w.heap.size) (d e1 : Nat) (n v : Int) (hd : d < 8) (he : e1 < 8) (hn : -16 ≤ n ∧ n ≤ 15) (hv : 0 ≤ v ∧ v ≤ 65535) (x : C.St σ) : Rest2 B bs I T w s 27 d e1 n v x (C.act m ⟨x.c, x.s, K.cyc 27⟩ 27 d e1 n v) := by
  intro bo kb wx u0 u1 u2 u5 u11 u13 u20 u21 u22 u23 u24 u26 u27 u28 u29 u30 u31 u32 u33 u34 u35 u36 u37 u38 u39 u40 u41 u42 u43 u44 u45 u46 u47 u48 u49 u50 u51 u52 u53 u54 u55 u56 u57 u58 u59 u60 u61 u62 u63 u64 u65 u66 u67 u68 u69 u70 u71 u72 u73 u74 u75 u76 u77 u78 u79 u80 u81 u82 u83 u84 u85 u86 u87 u88 u89 u90 u91 u92 u93 u94 u95 u96 u97 u98 u99 u100 u101 u102 u103 u104 u105 u106 u107 u108 u109 u110 u111 u112 u113 u114 u115 u116 u117 u118 u119 u120 u121 u122 u123 u124 u125 u126 u127 u128 u129 u130 u131 u132 u133 u134 u135 u136 u137 u138 u139 u140 u141 u142 u143 u144 u145 u146 u147 u148 u149 u150 u151 u152 u153 u154 u155 u156 u157 u158 u159 u160 u161 u162 u163 u164 u165 u166 u167 u168 u169 u170 u171 u172 u173 u174 u175 u176 u177 u178 u179 u180 u181 u182 u183 u184 u185 u186 u187 u188 u189 u190 u191 u192 u193 u194 u195 u196 u197 u198 u199 u200 u201 u202 u203 u204 u205 u206 u207 u208 u209 u210 u211 u212 u213 u214 u215 u216 u217 u218 u219 u220 u221 u222 u223 u224 u225 u226 u227 u228 u229 u230 u231 u232 u233 u234 u235 u236 u237 u238 u239 u240 u241 u242 u243 u244 u245 u246 u247 u248 u249 u250 u251 u252 u253 u254 u255 u256 u257 u258 u259 u260 u261 u262 u263 u264 u265 u266 u267 u268 u269 u270 u271 u272 u273 u274 u275 u276 u277 u278 u279 u280 u281 u282 u283 u284 u285 u286 u287 u288 u289 u290 u291 u292 u293 u294 u295 u296 u297 u298 u299 u300 hK
  have HR := hid R
  obtain ⟨o0, o1, o2, o3, o4, k0, k1, k2⟩ := hK.cells
  have hnm : K.name 27 = ⟨#[104, 108, 116]⟩ := by kernel_rfl
  rw [hnm] at k0
  clear hnm
  have zo := hK.ltO
  have zk := hK.ltK
  have zp := hK.sw.qc.lt
  obtain ⟨r0, r1, r2, r3, r4, r5, r6, r7⟩ := hK.sw.qc.regs
  obtain ⟨r8, r9, r10, r11, r12, r13, r14⟩ := hK.sw.qc.cells
  have fp := hK.sw.qc.frozen
  have HK := hid hK
  clear hK R
  have HKF := hid (HK.out.step (HK.out.sw.qc.putWaits HR.out true) ((PM.refl B T _ x.s wx).set HK.out.sw.qc.big 14 _))
  conv =>
    arg 2
    dsimp only [cTl, cSec, Tryz.f13, Option.getD]
  go_wp2_with (first
    | (refine wpList_store_mid rfl 25 (.tmp 6) (.tmp 299) rfl (w.heap.size + 1 + 1) 0 _ rfl rfl ?_ ?_ ?_ ?_
       · exact HKF.out.sw.there
       · exact info_cpu
       · exact cpuL_one ((⟨{ x.c with Waits := true }, x.s, x.n⟩ : C.St σ)).c
       refine cutL (fun W => I W ((⟨{ x.c with Waits := true }, x.s, x.n⟩ : C.St σ)).s ∧ Mv B (T s) (T ((⟨{ x.c with Waits := true }, x.s, x.n⟩ : C.St σ)).s) w W ∧ W.rangeAt (w.heap.size + 1 + 1) 0 (cpuL ((⟨{ x.c with Waits := true }, x.s, x.n⟩ : C.St σ)).c)) ?_ ?_
       · exact HKF.out.sw.fin HR.out hB (cpuL ((⟨{ x.c with Waits := true }, x.s, x.n⟩ : C.St σ)).c) rfl
       rintro W ⟨hIW, hmW, hrW⟩))
  have hl := load_cpu W _ _ hrW
  refine bodyPost_ret (v := .tuple #[cpuV ((⟨{ x.c with Waits := true }, x.s, x.n⟩ : C.St σ)).c, .int .i64 (K.cyc 27)]) ?_ rfl ⟨rfl, hIW, hmW⟩
  simp only [results, Tryz.results13]
  simp
  show (Result.andThen (Sem.run Tryz.prog (loadVar 25 ⟨w.heap.size + 1 + 1, 0, none⟩) W) _) = _
  rw [hl]
  rfl
end
section
variable {σ : Type} {m : C.Mem σ} {B bs : Nat} {I : World → σ → Prop} {T : σ → Nat → Prop}
set_option maxRecDepth 100000 in
set_option maxHeartbeats 3200000 in
theorem rsw_1 (R : QS m B bs I T) (w : World) (s : σ) (hB : B ≤ w.heap.size) (d e1 : Nat) (n v : Int) (hd : d < 8) (he : e1 < 8) (hn : -16 ≤ n ∧ n ≤ 15) (hv : 0 ≤ v ∧ v ≤ 65535) (x : C.St σ) : Rest2 B bs I T w s 1 d e1 n v x (C.act m ⟨x.c, x.s, K.cyc 1⟩ 1 d e1 n v) := by
  intro bo kb wx u0 u1 u2 u5 u11 u13 u20 u21 u22 u23 u24 u26 u27 u28 u29 u30 u31 u32 u33 u34 u35 u36 u37 u38 u39 u40 u41 u42 u43 u44 u45 u46 u47 u48 u49 u50 u51 u52 u53 u54 u55 u56 u57 u58 u59 u60 u61 u62 u63 u64 u65 u66 u67 u68 u69 u70 u71 u72 u73 u74 u75 u76 u77 u78 u79 u80 u81 u82 u83 u84 u85 u86 u87 u88 u89 u90 u91 u92 u93 u94 u95 u96 u97 u98 u99 u100 u101 u102 u103 u104 u105 u106 u107 u108 u109 u110 u111 u112 u113 u114 u115 u116 u117 u118 u119 u120 u121 u122 u123 u124 u125 u126 u127 u128 u129 u130 u131 u132 u133 u134 u135 u136 u137 u138 u139 u140 u141 u142 u143 u144 u145 u146 u147 u148 u149 u150 u151 u152 u153 u154 u155 u156 u157 u158 u159 u160 u161 u162 u163 u164 u165 u166 u167 u168 u169 u170 u171 u172 u173 u174 u175 u176 u177 u178 u179 u180 u181 u182 u183 u184 u185 u186 u187 u188 u189 u190 u191 u192 u193 u194 u195 u196 u197 u198 u199 u200 u201 u202 u203 u204 u205 u206 u207 u208 u209 u210 u211 u212 u213 u214 u215 u216 u217 u218 u219 u220 u221 u222 u223 u224 u225 u226 u227 u228 u229 u230 u231 u232 u233 u234 u235 u236 u237 u238 u239 u240 u241 u242 u243 u244 u245 u246 u247 u248 u249 u250 u251 u252 u253 u254 u255 u256 u257 u258 u259 u260 u261 u262 u263 u264 u265 u266 u267 u268 u269 u270 u271 u272 u273 u274 u275 u276 u277 u278 u279 u280 u281 u282 u283 u284 u285 u286 u287 u288 u289 u290 u291 u292 u293 u294 u295 u296 u297 u298 u299 u300 hK
  have HR := hid R
  obtain ⟨o0, o1, o2, o3, o4, k0, k1, k2⟩ := hK.cells
  have hnm : K.name 1 = ⟨#[109, 111, 118]⟩ := by kernel_rfl
  rw [hnm] at k0
  clear hnm
  have zo := hK.ltO
  have zk := hK.ltK
  have zp := hK.sw.qc.lt
  obtain ⟨r0, r1, r2, r3, r4, r5, r6, r7⟩ := hK.sw.qc.regs
  obtain ⟨r8, r9, r10, r11, r12, r13, r14⟩ := hK.sw.qc.cells
  have fp := hK.sw.qc.frozen
  have HK := hid hK
  clear hK R
  obtain ⟨hb1, hb2⟩ := C.Cpu.r_bd HK.out.sw.qc.ok e1
  conv =>
    arg 2
    dsimp only [cTl, cSec, Tryz.f13, Option.getD]
  go_wp2_with (first
    | (go_at_call 29; refine (rset_any HR.out (x.c.r e1) hb1 hb2 d hd _ _ _ bo x HK.out.sw.qc o1).mono ?_; rintro e w6 ⟨rfl, hq6, hm6⟩; have HKF := hid (HK.out.step hq6 hm6); clear r0 r1 r2 r3 r4 r5 r6 r7 r8 r9 r10 r11 r12 r13 r14; obtain ⟨r0, r1, r2, r3, r4, r5, r6, r7⟩ := hq6.regs; obtain ⟨r8, r9, r10, r11, r12, r13, r14⟩ := hq6.cells; have zp6 := hq6.lt; clear hq6 hm6)
    | (refine wpList_store_mid rfl 25 (.tmp 6) (.tmp 299) rfl (w.heap.size + 1 + 1) 0 _ rfl rfl ?_ ?_ ?_ ?_
       · exact HKF.out.sw.there
       · exact info_cpu
       · exact cpuL_one ((⟨x.c.set d (x.c.r e1), x.s, x.n⟩ : C.St σ)).c
       refine cutL (fun W => I W ((⟨x.c.set d (x.c.r e1), x.s, x.n⟩ : C.St σ)).s ∧ Mv B (T s) (T ((⟨x.c.set d (x.c.r e1), x.s, x.n⟩ : C.St σ)).s) w W ∧ W.rangeAt (w.heap.size + 1 + 1) 0 (cpuL ((⟨x.c.set d (x.c.r e1), x.s, x.n⟩ : C.St σ)).c)) ?_ ?_
       · exact HKF.out.sw.fin HR.out hB (cpuL ((⟨x.c.set d (x.c.r e1), x.s, x.n⟩ : C.St σ)).c) rfl
       rintro W ⟨hIW, hmW, hrW⟩))
  have hl := load_cpu W _ _ hrW
  refine bodyPost_ret (v := .tuple #[cpuV ((⟨x.c.set d (x.c.r e1), x.s, x.n⟩ : C.St σ)).c, .int .i64 (K.cyc 1)]) ?_ rfl ⟨rfl, hIW, hmW⟩
  simp only [results, Tryz.results13]
  simp
  show (Result.andThen (Sem.run Tryz.prog (loadVar 25 ⟨w.heap.size + 1 + 1, 0, none⟩) W) _) = _
  rw [hl]
  rfl
set_option maxRecDepth 100000 in
set_option maxHeartbeats 3200000 in
theorem rsw_2 (R : QS m B bs I T) (w : World) (s : σ) (hB : B ≤ w.heap.size) (d e1 : Nat) (n v : Int) (hd : d < 8) (he : e1 < 8) (hn : -16 ≤ n ∧ n ≤ 15) (hv : 0 ≤ v ∧ v ≤ 65535) (x : C.St σ) : Rest2 B bs I T w s 2 d e1 n v x (C.act m ⟨x.c, x.s, K.cyc 2⟩ 2 d e1 n v) := by
  intro bo kb wx u0 u1 u2 u5 u11 u13 u20 u21 u22 u23 u24 u26 u27 u28 u29 u30 u31 u32 u33 u34 u35 u36 u37 u38 u39 u40 u41 u42 u43 u44 u45 u46 u47 u48 u49 u50 u51 u52 u53 u54 u55 u56 u57 u58 u59 u60 u61 u62 u63 u64 u65 u66 u67 u68 u69 u70 u71 u72 u73 u74 u75 u76 u77 u78 u79 u80 u81 u82 u83 u84 u85 u86 u87 u88 u89 u90 u91 u92 u93 u94 u95 u96 u97 u98 u99 u100 u101 u102 u103 u104 u105 u106 u107 u108 u109 u110 u111 u112 u113 u114 u115 u116 u117 u118 u119 u120 u121 u122 u123 u124 u125 u126 u127 u128 u129 u130 u131 u132 u133 u134 u135 u136 u137 u138 u139 u140 u141 u142 u143 u144 u145 u146 u147 u148 u149 u150 u151 u152 u153 u154 u155 u156 u157 u158 u159 u160 u161 u162 u163 u164 u165 u166 u167 u168 u169 u170 u171 u172 u173 u174 u175 u176 u177 u178 u179 u180 u181 u182 u183 u184 u185 u186 u187 u188 u189 u190 u191 u192 u193 u194 u195 u196 u197 u198 u199 u200 u201 u202 u203 u204 u205 u206 u207 u208 u209 u210 u211 u212 u213 u214 u215 u216 u217 u218 u219 u220 u221 u222 u223 u224 u225 u226 u227 u228 u229 u230 u231 u232 u233 u234 u235 u236 u237 u238 u239 u240 u241 u242 u243 u244 u245 u246 u247 u248 u249 u250 u251 u252 u253 u254 u255 u256 u257 u258 u259 u260 u261 u262 u263 u264 u265 u266 u267 u268 u269 u270 u271 u272 u273 u274 u275 u276 u277 u278 u279 u280 u281 u282 u283 u284 u285 u286 u287 u288 u289 u290 u291 u292 u293 u294 u295 u296 u297 u298 u299 u300 hK
  have HR := hid R
  obtain ⟨o0, o1, o2, o3, o4, k0, k1, k2⟩ := hK.cells
  have hnm : K.name 2 = ⟨#[108, 100, 105]⟩ := by kernel_rfl
  rw [hnm] at k0
  clear hnm
  have zo := hK.ltO
  have zk := hK.ltK
  have zp := hK.sw.qc.lt
  obtain ⟨r0, r1, r2, r3, r4, r5, r6, r7⟩ := hK.sw.qc.regs
  obtain ⟨r8, r9, r10, r11, r12, r13, r14⟩ := hK.sw.qc.cells
  have fp := hK.sw.qc.frozen
  have HK := hid hK
  clear hK R
  have hb1 := hv.1
  have hb2 := hv.2
  have hvw : IntKind.u16.wrap v = v := by rw [u16w]; omega
  conv =>
    arg 2
    dsimp only [cTl, cSec, Tryz.f13, Option.getD]
  go_wp2_with (first
    | (go_at_call 29; refine (rset_any HR.out (v) hb1 hb2 d hd _ _ _ bo x HK.out.sw.qc o1).mono ?_; rintro e w6 ⟨rfl, hq6, hm6⟩; have HKF := hid (HK.out.step hq6 hm6); clear r0 r1 r2 r3 r4 r5 r6 r7 r8 r9 r10 r11 r12 r13 r14; obtain ⟨r0, r1, r2, r3, r4, r5, r6, r7⟩ := hq6.regs; obtain ⟨r8, r9, r10, r11, r12, r13, r14⟩ := hq6.cells; have zp6 := hq6.lt; clear hq6 hm6)
    | (refine wpList_store_mid rfl 25 (.tmp 6) (.tmp 299) rfl (w.heap.size + 1 + 1) 0 _ rfl rfl ?_ ?_ ?_ ?_
       · exact HKF.out.sw.there
       · exact info_cpu
       · exact cpuL_one ((⟨x.c.set d (v), x.s, x.n⟩ : C.St σ)).c
       refine cutL (fun W => I W ((⟨x.c.set d (v), x.s, x.n⟩ : C.St σ)).s ∧ Mv B (T s) (T ((⟨x.c.set d (v), x.s, x.n⟩ : C.St σ)).s) w W ∧ W.rangeAt (w.heap.size + 1 + 1) 0 (cpuL ((⟨x.c.set d (v), x.s, x.n⟩ : C.St σ)).c)) ?_ ?_
       · exact HKF.out.sw.fin HR.out hB (cpuL ((⟨x.c.set d (v), x.s, x.n⟩ : C.St σ)).c) rfl
       rintro W ⟨hIW, hmW, hrW⟩))
  have hl := load_cpu W _ _ hrW
  refine bodyPost_ret (v := .tuple #[cpuV ((⟨x.c.set d (v), x.s, x.n⟩ : C.St σ)).c, .int .i64 (K.cyc 2)]) ?_ rfl ⟨rfl, hIW, hmW⟩
  simp only [results, Tryz.results13]
  simp
  show (Result.andThen (Sem.run Tryz.prog (loadVar 25 ⟨w.heap.size + 1 + 1, 0, none⟩) W) _) = _
  rw [hl]
  rfl
end
section
variable {σ : Type} {m : C.Mem σ} {B bs : Nat} {I : World → σ → Prop} {T : σ → Nat → Prop}
set_option maxRecDepth 100000 in
set_option maxHeartbeats 3200000 in
theorem rsw_3 (R : QS m B bs I T) (w : World) (s : σ) (hB : B ≤ w.heap.size) (d e1 : Nat) (n v : Int) (hd : d < 8) (he : e1 < 8) (hn : -16 ≤ n ∧ n ≤ 15) (hv : 0 ≤ v ∧ v ≤ 65535) (x : C.St σ) : Rest2 B bs I T w s 3 d e1 n v x (C.act m ⟨x.c, x.s, K.cyc 3⟩ 3 d e1 n v) := by
  intro bo kb wx u0 u1 u2 u5 u11 u13 u20 u21 u22 u23 u24 u26 u27 u28 u29 u30 u31 u32 u33 u34 u35 u36 u37 u38 u39 u40 u41 u42 u43 u44 u45 u46 u47 u48 u49 u50 u51 u52 u53 u54 u55 u56 u57 u58 u59 u60 u61 u62 u63 u64 u65 u66 u67 u68 u69 u70 u71 u72 u73 u74 u75 u76 u77 u78 u79 u80 u81 u82 u83 u84 u85 u86 u87 u88 u89 u90 u91 u92 u93 u94 u95 u96 u97 u98 u99 u100 u101 u102 u103 u104 u105 u106 u107 u108 u109 u110 u111 u112 u113 u114 u115 u116 u117 u118 u119 u120 u121 u122 u123 u124 u125 u126 u127 u128 u129 u130 u131 u132 u133 u134 u135 u136 u137 u138 u139 u140 u141 u142 u143 u144 u145 u146 u147 u148 u149 u150 u151 u152 u153 u154 u155 u156 u157 u158 u159 u160 u161 u162 u163 u164 u165 u166 u167 u168 u169 u170 u171 u172 u173 u174 u175 u176 u177 u178 u179 u180 u181 u182 u183 u184 u185 u186 u187 u188 u189 u190 u191 u192 u193 u194 u195 u196 u197 u198 u199 u200 u201 u202 u203 u204 u205 u206 u207 u208 u209 u210 u211 u212 u213 u214 u215 u216 u217 u218 u219 u220 u221 u222 u223 u224 u225 u226 u227 u228 u229 u230 u231 u232 u233 u234 u235 u236 u237 u238 u239 u240 u241 u242 u243 u244 u245 u246 u247 u248 u249 u250 u251 u252 u253 u254 u255 u256 u257 u258 u259 u260 u261 u262 u263 u264 u265 u266 u267 u268 u269 u270 u271 u272 u273 u274 u275 u276 u277 u278 u279 u280 u281 u282 u283 u284 u285 u286 u287 u288 u289 u290 u291 u292 u293 u294 u295 u296 u297 u298 u299 u300 hK
  have HR := hid R
  obtain ⟨o0, o1, o2, o3, o4, k0, k1, k2⟩ := hK.cells
  have hnm : K.name 3 = ⟨#[108, 100]⟩ := by kernel_rfl
  rw [hnm] at k0
  clear hnm
  have zo := hK.ltO
  have zk := hK.ltK
  have zp := hK.sw.qc.lt
  obtain ⟨r0, r1, r2, r3, r4, r5, r6, r7⟩ := hK.sw.qc.regs
  obtain ⟨r8, r9, r10, r11, r12, r13, r14⟩ := hK.sw.qc.cells
  have fp := hK.sw.qc.frozen
  have HK := hid hK
  clear hK R
  obtain ⟨mm0, mm1⟩ := HK.out.sw.qc.mem
  have zm := HK.out.sw.qc.ltq
  obtain ⟨hb1, hb2⟩ := HR.out.word x.s ((x.c.r e1 + n) % 65536)
  conv =>
    arg 2
    dsimp only [cTl, cSec, Tryz.f13, Option.getD]
  go_wp2_with (first
    | (go_at_call 25; refine (rword_any HR.out ((x.c.r e1 + n) % 65536) (by omega) (by omega) _ x.s HK.out.sw.qc.inv).mono ?_; rintro e w5 ⟨rfl, hI5, hm5⟩; have KM := hid (HK.out.moved hI5 hm5); obtain ⟨_, oo1, _⟩ := KM.out.cells; have zo5 := KM.out.ltO; clear hI5 hm5)
    | (go_at_call 29; refine (rset_any HR.out ((m.rdw x.s ((x.c.r e1 + n) % 65536)).1) hb1 hb2 d hd _ _ _ bo ⟨x.c, (m.rdw x.s ((x.c.r e1 + n) % 65536)).2, x.n⟩ KM.out.sw.qc oo1).mono ?_; rintro e w6 ⟨rfl, hq6, hm6⟩; have HKF := hid (KM.out.step hq6 hm6); clear r0 r1 r2 r3 r4 r5 r6 r7 r8 r9 r10 r11 r12 r13 r14; obtain ⟨r0, r1, r2, r3, r4, r5, r6, r7⟩ := hq6.regs; obtain ⟨r8, r9, r10, r11, r12, r13, r14⟩ := hq6.cells; have zp6 := hq6.lt; clear hq6 hm6)
    | (refine wpList_store_mid rfl 25 (.tmp 6) (.tmp 299) rfl (w.heap.size + 1 + 1) 0 _ rfl rfl ?_ ?_ ?_ ?_
       · exact HKF.out.sw.there
       · exact info_cpu
       · exact cpuL_one ((⟨x.c.set d ((m.rdw x.s ((x.c.r e1 + n) % 65536)).1), (m.rdw x.s ((x.c.r e1 + n) % 65536)).2, x.n⟩ : C.St σ)).c
       refine cutL (fun W => I W ((⟨x.c.set d ((m.rdw x.s ((x.c.r e1 + n) % 65536)).1), (m.rdw x.s ((x.c.r e1 + n) % 65536)).2, x.n⟩ : C.St σ)).s ∧ Mv B (T s) (T ((⟨x.c.set d ((m.rdw x.s ((x.c.r e1 + n) % 65536)).1), (m.rdw x.s ((x.c.r e1 + n) % 65536)).2, x.n⟩ : C.St σ)).s) w W ∧ W.rangeAt (w.heap.size + 1 + 1) 0 (cpuL ((⟨x.c.set d ((m.rdw x.s ((x.c.r e1 + n) % 65536)).1), (m.rdw x.s ((x.c.r e1 + n) % 65536)).2, x.n⟩ : C.St σ)).c)) ?_ ?_
       · exact HKF.out.sw.fin HR.out hB (cpuL ((⟨x.c.set d ((m.rdw x.s ((x.c.r e1 + n) % 65536)).1), (m.rdw x.s ((x.c.r e1 + n) % 65536)).2, x.n⟩ : C.St σ)).c) rfl
       rintro W ⟨hIW, hmW, hrW⟩))
  have hl := load_cpu W _ _ hrW
  refine bodyPost_ret (v := .tuple #[cpuV ((⟨x.c.set d ((m.rdw x.s ((x.c.r e1 + n) % 65536)).1), (m.rdw x.s ((x.c.r e1 + n) % 65536)).2, x.n⟩ : C.St σ)).c, .int .i64 (K.cyc 3)]) ?_ rfl ⟨rfl, hIW, hmW⟩
  simp only [results, Tryz.results13]
  simp
  show (Result.andThen (Sem.run Tryz.prog (loadVar 25 ⟨w.heap.size + 1 + 1, 0, none⟩) W) _) = _
  rw [hl]
  rfl
set_option maxRecDepth 100000 in
set_option maxHeartbeats 3200000 in
theorem rsw_5 (R : QS m B bs I T) (w : World) (s : σ) (hB : B ≤ w.heap.size) (d e1 : Nat) (n v : Int) (hd : d < 8) (he : e1 < 8) (hn : -16 ≤ n ∧ n ≤ 15) (hv : 0 ≤ v ∧ v ≤ 65535) (x : C.St σ) : Rest2 B bs I T w s 5 d e1 n v x (C.act m ⟨x.c, x.s, K.cyc 5⟩ 5 d e1 n v) := by
  intro bo kb wx u0 u1 u2 u5 u11 u13 u20 u21 u22 u23 u24 u26 u27 u28 u29 u30 u31 u32 u33 u34 u35 u36 u37 u38 u39 u40 u41 u42 u43 u44 u45 u46 u47 u48 u49 u50 u51 u52 u53 u54 u55 u56 u57 u58 u59 u60 u61 u62 u63 u64 u65 u66 u67 u68 u69 u70 u71 u72 u73 u74 u75 u76 u77 u78 u79 u80 u81 u82 u83 u84 u85 u86 u87 u88 u89 u90 u91 u92 u93 u94 u95 u96 u97 u98 u99 u100 u101 u102 u103 u104 u105 u106 u107 u108 u109 u110 u111 u112 u113 u114 u115 u116 u117 u118 u119 u120 u121 u122 u123 u124 u125 u126 u127 u128 u129 u130 u131 u132 u133 u134 u135 u136 u137 u138 u139 u140 u141 u142 u143 u144 u145 u146 u147 u148 u149 u150 u151 u152 u153 u154 u155 u156 u157 u158 u159 u160 u161 u162 u163 u164 u165 u166 u167 u168 u169 u170 u171 u172 u173 u174 u175 u176 u177 u178 u179 u180 u181 u182 u183 u184 u185 u186 u187 u188 u189 u190 u191 u192 u193 u194 u195 u196 u197 u198 u199 u200 u201 u202 u203 u204 u205 u206 u207 u208 u209 u210 u211 u212 u213 u214 u215 u216 u217 u218 u219 u220 u221 u222 u223 u224 u225 u226 u227 u228 u229 u230 u231 u232 u233 u234 u235 u236 u237 u238 u239 u240 u241 u242 u243 u244 u245 u246 u247 u248 u249 u250 u251 u252 u253 u254 u255 u256 u257 u258 u259 u260 u261 u262 u263 u264 u265 u266 u267 u268 u269 u270 u271 u272 u273 u274 u275 u276 u277 u278 u279 u280 u281 u282 u283 u284 u285 u286 u287 u288 u289 u290 u291 u292 u293 u294 u295 u296 u297 u298 u299 u300 hK
  have HR := hid R
  obtain ⟨o0, o1, o2, o3, o4, k0, k1, k2⟩ := hK.cells
  have hnm : K.name 5 = ⟨#[108, 100, 98]⟩ := by kernel_rfl
  rw [hnm] at k0
  clear hnm
  have zo := hK.ltO
  have zk := hK.ltK
  have zp := hK.sw.qc.lt
  obtain ⟨r0, r1, r2, r3, r4, r5, r6, r7⟩ := hK.sw.qc.regs
  obtain ⟨r8, r9, r10, r11, r12, r13, r14⟩ := hK.sw.qc.cells
  have fp := hK.sw.qc.frozen
  have HK := hid hK
  clear hK R
  obtain ⟨mm0, mm1⟩ := HK.out.sw.qc.mem
  have zm := HK.out.sw.qc.ltq
  obtain ⟨hb1, hb3⟩ := HR.out.byte x.s ((x.c.r e1 + n) % 65536)
  have hb2 : (m.rd x.s ((x.c.r e1 + n) % 65536)).1 ≤ 65535 := by omega
  have hbw : IntKind.u16.wrap (m.rd x.s ((x.c.r e1 + n) % 65536)).1 = (m.rd x.s ((x.c.r e1 + n) % 65536)).1 := by rw [u16w]; omega
  conv =>
    arg 2
    dsimp only [cTl, cSec, Tryz.f13, Option.getD]
  go_wp2_with (first
    | (go_at_call 34; refine (HR.out.get _ x.s ((x.c.r e1 + n) % 65536) (by omega) (by omega) HK.out.sw.qc.inv).mono ?_; rintro e w5 ⟨rfl, hI5, hm5⟩; have KM := hid (HK.out.moved hI5 hm5); obtain ⟨_, oo1, _⟩ := KM.out.cells; have zo5 := KM.out.ltO; clear hI5 hm5)
    | (go_at_call 29; refine (rset_any HR.out ((m.rd x.s ((x.c.r e1 + n) % 65536)).1) hb1 hb2 d hd _ _ _ bo ⟨x.c, (m.rd x.s ((x.c.r e1 + n) % 65536)).2, x.n⟩ KM.out.sw.qc oo1).mono ?_; rintro e w6 ⟨rfl, hq6, hm6⟩; have HKF := hid (KM.out.step hq6 hm6); clear r0 r1 r2 r3 r4 r5 r6 r7 r8 r9 r10 r11 r12 r13 r14; obtain ⟨r0, r1, r2, r3, r4, r5, r6, r7⟩ := hq6.regs; obtain ⟨r8, r9, r10, r11, r12, r13, r14⟩ := hq6.cells; have zp6 := hq6.lt; clear hq6 hm6)
    | (refine wpList_store_mid rfl 25 (.tmp 6) (.tmp 299) rfl (w.heap.size + 1 + 1) 0 _ rfl rfl ?_ ?_ ?_ ?_
       · exact HKF.out.sw.there
       · exact info_cpu
       · exact cpuL_one ((⟨x.c.set d ((m.rd x.s ((x.c.r e1 + n) % 65536)).1), (m.rd x.s ((x.c.r e1 + n) % 65536)).2, x.n⟩ : C.St σ)).c
       refine cutL (fun W => I W ((⟨x.c.set d ((m.rd x.s ((x.c.r e1 + n) % 65536)).1), (m.rd x.s ((x.c.r e1 + n) % 65536)).2, x.n⟩ : C.St σ)).s ∧ Mv B (T s) (T ((⟨x.c.set d ((m.rd x.s ((x.c.r e1 + n) % 65536)).1), (m.rd x.s ((x.c.r e1 + n) % 65536)).2, x.n⟩ : C.St σ)).s) w W ∧ W.rangeAt (w.heap.size + 1 + 1) 0 (cpuL ((⟨x.c.set d ((m.rd x.s ((x.c.r e1 + n) % 65536)).1), (m.rd x.s ((x.c.r e1 + n) % 65536)).2, x.n⟩ : C.St σ)).c)) ?_ ?_
       · exact HKF.out.sw.fin HR.out hB (cpuL ((⟨x.c.set d ((m.rd x.s ((x.c.r e1 + n) % 65536)).1), (m.rd x.s ((x.c.r e1 + n) % 65536)).2, x.n⟩ : C.St σ)).c) rfl
       rintro W ⟨hIW, hmW, hrW⟩))
  have hl := load_cpu W _ _ hrW
  refine bodyPost_ret (v := .tuple #[cpuV ((⟨x.c.set d ((m.rd x.s ((x.c.r e1 + n) % 65536)).1), (m.rd x.s ((x.c.r e1 + n) % 65536)).2, x.n⟩ : C.St σ)).c, .int .i64 (K.cyc 5)]) ?_ rfl ⟨rfl, hIW, hmW⟩
  simp only [results, Tryz.results13]
  simp
  show (Result.andThen (Sem.run Tryz.prog (loadVar 25 ⟨w.heap.size + 1 + 1, 0, none⟩) W) _) = _
  rw [hl]
  rfl
end
section
variable {σ : Type} {m : C.Mem σ} {B bs : Nat} {I : World → σ → Prop} {T : σ → Nat → Prop}
set_option maxRecDepth 100000 in
set_option maxHeartbeats 3200000 in
theorem rsw_4 (R : QS m B bs I T) (w : World) (s : σ) (hB : B ≤ w.heap.size) (d e1 : Nat) (n v : Int) (hd : d < 8) (he : e1 < 8) (hn : -16 ≤ n ∧ n ≤ 15) (hv : 0 ≤ v ∧ v ≤ 65535) (x : C.St σ) : Rest2 B bs I T w s 4 d e1 n v x (C.act m ⟨x.c, x.s, K.cyc 4⟩ 4 d e1 n v) := by
  intro bo kb wx u0 u1 u2 u5 u11 u13 u20 u21 u22 u23 u24 u26 u27 u28 u29 u30 u31 u32 u33 u34 u35 u36 u37 u38 u39 u40 u41 u42 u43 u44 u45 u46 u47 u48 u49 u50 u51 u52 u53 u54 u55 u56 u57 u58 u59 u60 u61 u62 u63 u64 u65 u66 u67 u68 u69 u70 u71 u72 u73 u74 u75 u76 u77 u78 u79 u80 u81 u82 u83 u84 u85 u86 u87 u88 u89 u90 u91 u92 u93 u94 u95 u96 u97 u98 u99 u100 u101 u102 u103 u104 u105 u106 u107 u108 u109 u110 u111 u112 u113 u114 u115 u116 u117 u118 u119 u120 u121 u122 u123 u124 u125 u126 u127 u128 u129 u130 u131 u132 u133 u134 u135 u136 u137 u138 u139 u140 u141 u142 u143 u144 u145 u146 u147 u148 u149 u150 u151 u152 u153 u154 u155 u156 u157 u158 u159 u160 u161 u162 u163 u164 u165 u166 u167 u168 u169 u170 u171 u172 u173 u174 u175 u176 u177 u178 u179 u180 u181 u182 u183 u184 u185 u186 u187 u188 u189 u190 u191 u192 u193 u194 u195 u196 u197 u198 u199 u200 u201 u202 u203 u204 u205 u206 u207 u208 u209 u210 u211 u212 u213 u214 u215 u216 u217 u218 u219 u220 u221 u222 u223 u224 u225 u226 u227 u228 u229 u230 u231 u232 u233 u234 u235 u236 u237 u238 u239 u240 u241 u242 u243 u244 u245 u246 u247 u248 u249 u250 u251 u252 u253 u254 u255 u256 u257 u258 u259 u260 u261 u262 u263 u264 u265 u266 u267 u268 u269 u270 u271 u272 u273 u274 u275 u276 u277 u278 u279 u280 u281 u282 u283 u284 u285 u286 u287 u288 u289 u290 u291 u292 u293 u294 u295 u296 u297 u298 u299 u300 hK
  have HR := hid R
  obtain ⟨o0, o1, o2, o3, o4, k0, k1, k2⟩ := hK.cells
  have hnm : K.name 4 = ⟨#[115, 116]⟩ := by kernel_rfl
  rw [hnm] at k0
  clear hnm
  have zo := hK.ltO
  have zk := hK.ltK
  have zp := hK.sw.qc.lt
  obtain ⟨r0, r1, r2, r3, r4, r5, r6, r7⟩ := hK.sw.qc.regs
  obtain ⟨r8, r9, r10, r11, r12, r13, r14⟩ := hK.sw.qc.cells
  have fp := hK.sw.qc.frozen
  have HK := hid hK
  clear hK R
  obtain ⟨mm0, mm1⟩ := HK.out.sw.qc.mem
  have zm := HK.out.sw.qc.ltq
  obtain ⟨bd1, bd2⟩ := C.Cpu.r_bd HK.out.sw.qc.ok d
  have ho : IntKind.u16.wrap (x.c.r d + IntKind.u16.wrap n) = (x.c.r d + n) % 65536 := by rw [u16w, u16w]; omega
  obtain ⟨hb1, hb2⟩ := C.Cpu.r_bd HK.out.sw.qc.ok e1
  conv =>
    arg 2
    dsimp only [cTl, cSec, Tryz.f13, Option.getD]
  go_wp2_with (first
    | (go_at_call 23; refine (rput_any HR.out ((x.c.r d + n) % 65536) (x.c.r e1) (by omega) (by omega) hb1 hb2 _ x.s HK.out.sw.qc.inv).mono ?_; rintro e w5 ⟨rfl, hI5, hm5⟩; have HKF := hid (HK.out.moved hI5 hm5); clear r0 r1 r2 r3 r4 r5 r6 r7 r8 r9 r10 r11 r12 r13 r14; obtain ⟨r0, r1, r2, r3, r4, r5, r6, r7⟩ := HKF.out.sw.qc.regs; obtain ⟨r8, r9, r10, r11, r12, r13, r14⟩ := HKF.out.sw.qc.cells; have zp6 := HKF.out.sw.qc.lt; clear hI5 hm5)
    | (refine wpList_store_mid rfl 25 (.tmp 6) (.tmp 299) rfl (w.heap.size + 1 + 1) 0 _ rfl rfl ?_ ?_ ?_ ?_
       · exact HKF.out.sw.there
       · exact info_cpu
       · exact cpuL_one ((⟨x.c, m.wrw x.s ((x.c.r d + n) % 65536) (x.c.r e1), x.n⟩ : C.St σ)).c
       refine cutL (fun W => I W ((⟨x.c, m.wrw x.s ((x.c.r d + n) % 65536) (x.c.r e1), x.n⟩ : C.St σ)).s ∧ Mv B (T s) (T ((⟨x.c, m.wrw x.s ((x.c.r d + n) % 65536) (x.c.r e1), x.n⟩ : C.St σ)).s) w W ∧ W.rangeAt (w.heap.size + 1 + 1) 0 (cpuL ((⟨x.c, m.wrw x.s ((x.c.r d + n) % 65536) (x.c.r e1), x.n⟩ : C.St σ)).c)) ?_ ?_
       · exact HKF.out.sw.fin HR.out hB (cpuL ((⟨x.c, m.wrw x.s ((x.c.r d + n) % 65536) (x.c.r e1), x.n⟩ : C.St σ)).c) rfl
       rintro W ⟨hIW, hmW, hrW⟩))
  have hl := load_cpu W _ _ hrW
  refine bodyPost_ret (v := .tuple #[cpuV ((⟨x.c, m.wrw x.s ((x.c.r d + n) % 65536) (x.c.r e1), x.n⟩ : C.St σ)).c, .int .i64 (K.cyc 4)]) ?_ rfl ⟨rfl, hIW, hmW⟩
  simp only [results, Tryz.results13]
  simp
  show (Result.andThen (Sem.run Tryz.prog (loadVar 25 ⟨w.heap.size + 1 + 1, 0, none⟩) W) _) = _
  rw [hl]
  rfl
set_option maxRecDepth 100000 in
set_option maxHeartbeats 3200000 in
theorem rsw_6 (R : QS m B bs I T) (w : World) (s : σ) (hB : B ≤ w.heap.size) (d e1 : Nat) (n v : Int) (hd : d < 8) (he : e1 < 8) (hn : -16 ≤ n ∧ n ≤ 15) (hv : 0 ≤ v ∧ v ≤ 65535) (x : C.St σ) : Rest2 B bs I T w s 6 d e1 n v x (C.act m ⟨x.c, x.s, K.cyc 6⟩ 6 d e1 n v) := by
  intro bo kb wx u0 u1 u2 u5 u11 u13 u20 u21 u22 u23 u24 u26 u27 u28 u29 u30 u31 u32 u33 u34 u35 u36 u37 u38 u39 u40 u41 u42 u43 u44 u45 u46 u47 u48 u49 u50 u51 u52 u53 u54 u55 u56 u57 u58 u59 u60 u61 u62 u63 u64 u65 u66 u67 u68 u69 u70 u71 u72 u73 u74 u75 u76 u77 u78 u79 u80 u81 u82 u83 u84 u85 u86 u87 u88 u89 u90 u91 u92 u93 u94 u95 u96 u97 u98 u99 u100 u101 u102 u103 u104 u105 u106 u107 u108 u109 u110 u111 u112 u113 u114 u115 u116 u117 u118 u119 u120 u121 u122 u123 u124 u125 u126 u127 u128 u129 u130 u131 u132 u133 u134 u135 u136 u137 u138 u139 u140 u141 u142 u143 u144 u145 u146 u147 u148 u149 u150 u151 u152 u153 u154 u155 u156 u157 u158 u159 u160 u161 u162 u163 u164 u165 u166 u167 u168 u169 u170 u171 u172 u173 u174 u175 u176 u177 u178 u179 u180 u181 u182 u183 u184 u185 u186 u187 u188 u189 u190 u191 u192 u193 u194 u195 u196 u197 u198 u199 u200 u201 u202 u203 u204 u205 u206 u207 u208 u209 u210 u211 u212 u213 u214 u215 u216 u217 u218 u219 u220 u221 u222 u223 u224 u225 u226 u227 u228 u229 u230 u231 u232 u233 u234 u235 u236 u237 u238 u239 u240 u241 u242 u243 u244 u245 u246 u247 u248 u249 u250 u251 u252 u253 u254 u255 u256 u257 u258 u259 u260 u261 u262 u263 u264 u265 u266 u267 u268 u269 u270 u271 u272 u273 u274 u275 u276 u277 u278 u279 u280 u281 u282 u283 u284 u285 u286 u287 u288 u289 u290 u291 u292 u293 u294 u295 u296 u297 u298 u299 u300 hK
  have HR := hid R
  obtain ⟨o0, o1, o2, o3, o4, k0, k1, k2⟩ := hK.cells
  have hnm : K.name 6 = ⟨#[115, 116, 98]⟩ := by kernel_rfl
  rw [hnm] at k0
  clear hnm
  have zo := hK.ltO
  have zk := hK.ltK
  have zp := hK.sw.qc.lt
  obtain ⟨r0, r1, r2, r3, r4, r5, r6, r7⟩ := hK.sw.qc.regs
  obtain ⟨r8, r9, r10, r11, r12, r13, r14⟩ := hK.sw.qc.cells
  have fp := hK.sw.qc.frozen
  have HK := hid hK
  clear hK R
  obtain ⟨mm0, mm1⟩ := HK.out.sw.qc.mem
  have zm := HK.out.sw.qc.ltq
  obtain ⟨bd1, bd2⟩ := C.Cpu.r_bd HK.out.sw.qc.ok d
  have ho : IntKind.u16.wrap (x.c.r d + IntKind.u16.wrap n) = (x.c.r d + n) % 65536 := by rw [u16w, u16w]; omega
  obtain ⟨hb1, hb2⟩ := C.Cpu.r_bd HK.out.sw.qc.ok e1
  have hsw : IntKind.u16.wrap ((x.c.r e1).tmod 256) = x.c.r e1 % 256 := by rw [Int.tmod_eq_emod_of_nonneg hb1, u16w]; omega
  conv =>
    arg 2
    dsimp only [cTl, cSec, Tryz.f13, Option.getD]
  go_wp2_with (first
    | (go_at_call 35; refine (HR.out.put _ x.s ((x.c.r d + n) % 65536) (x.c.r e1 % 256) (by omega) (by omega) (by omega) (by omega) HK.out.sw.qc.inv).mono ?_; rintro e w5 ⟨rfl, hI5, hm5⟩; have HKF := hid (HK.out.moved hI5 hm5); clear r0 r1 r2 r3 r4 r5 r6 r7 r8 r9 r10 r11 r12 r13 r14; obtain ⟨r0, r1, r2, r3, r4, r5, r6, r7⟩ := HKF.out.sw.qc.regs; obtain ⟨r8, r9, r10, r11, r12, r13, r14⟩ := HKF.out.sw.qc.cells; have zp6 := HKF.out.sw.qc.lt; clear hI5 hm5)
    | (refine wpList_store_mid rfl 25 (.tmp 6) (.tmp 299) rfl (w.heap.size + 1 + 1) 0 _ rfl rfl ?_ ?_ ?_ ?_
       · exact HKF.out.sw.there
       · exact info_cpu
       · exact cpuL_one ((⟨x.c, m.wr x.s ((x.c.r d + n) % 65536) (x.c.r e1 % 256), x.n⟩ : C.St σ)).c
       refine cutL (fun W => I W ((⟨x.c, m.wr x.s ((x.c.r d + n) % 65536) (x.c.r e1 % 256), x.n⟩ : C.St σ)).s ∧ Mv B (T s) (T ((⟨x.c, m.wr x.s ((x.c.r d + n) % 65536) (x.c.r e1 % 256), x.n⟩ : C.St σ)).s) w W ∧ W.rangeAt (w.heap.size + 1 + 1) 0 (cpuL ((⟨x.c, m.wr x.s ((x.c.r d + n) % 65536) (x.c.r e1 % 256), x.n⟩ : C.St σ)).c)) ?_ ?_
       · exact HKF.out.sw.fin HR.out hB (cpuL ((⟨x.c, m.wr x.s ((x.c.r d + n) % 65536) (x.c.r e1 % 256), x.n⟩ : C.St σ)).c) rfl
       rintro W ⟨hIW, hmW, hrW⟩))
  have hl := load_cpu W _ _ hrW
  refine bodyPost_ret (v := .tuple #[cpuV ((⟨x.c, m.wr x.s ((x.c.r d + n) % 65536) (x.c.r e1 % 256), x.n⟩ : C.St σ)).c, .int .i64 (K.cyc 6)]) ?_ rfl ⟨rfl, hIW, hmW⟩
  simp only [results, Tryz.results13]
  simp
  show (Result.andThen (Sem.run Tryz.prog (loadVar 25 ⟨w.heap.size + 1 + 1, 0, none⟩) W) _) = _
  rw [hl]
  rfl
set_option maxRecDepth 100000 in
set_option maxHeartbeats 3200000 in
theorem rsw_22 (R : QS m B bs I T) (w : World) (s : σ) (hB : B ≤ w.heap.size) (d e1 : Nat) (n v : Int) (hd : d < 8) (he : e1 < 8) (hn : -16 ≤ n ∧ n ≤ 15) (hv : 0 ≤ v ∧ v ≤ 65535) (x : C.St σ) : Rest2 B bs I T w s 22 d e1 n v x (C.act m ⟨x.c, x.s, K.cyc 22⟩ 22 d e1 n v) := by
  intro bo kb wx u0 u1 u2 u5 u11 u13 u20 u21 u22 u23 u24 u26 u27 u28 u29 u30 u31 u32 u33 u34 u35 u36 u37 u38 u39 u40 u41 u42 u43 u44 u45 u46 u47 u48 u49 u50 u51 u52 u53 u54 u55 u56 u57 u58 u59 u60 u61 u62 u63 u64 u65 u66 u67 u68 u69 u70 u71 u72 u73 u74 u75 u76 u77 u78 u79 u80 u81 u82 u83 u84 u85 u86 u87 u88 u89 u90 u91 u92 u93 u94 u95 u96 u97 u98 u99 u100 u101 u102 u103 u104 u105 u106 u107 u108 u109 u110 u111 u112 u113 u114 u115 u116 u117 u118 u119 u120 u121 u122 u123 u124 u125 u126 u127 u128 u129 u130 u131 u132 u133 u134 u135 u136 u137 u138 u139 u140 u141 u142 u143 u144 u145 u146 u147 u148 u149 u150 u151 u152 u153 u154 u155 u156 u157 u158 u159 u160 u161 u162 u163 u164 u165 u166 u167 u168 u169 u170 u171 u172 u173 u174 u175 u176 u177 u178 u179 u180 u181 u182 u183 u184 u185 u186 u187 u188 u189 u190 u191 u192 u193 u194 u195 u196 u197 u198 u199 u200 u201 u202 u203 u204 u205 u206 u207 u208 u209 u210 u211 u212 u213 u214 u215 u216 u217 u218 u219 u220 u221 u222 u223 u224 u225 u226 u227 u228 u229 u230 u231 u232 u233 u234 u235 u236 u237 u238 u239 u240 u241 u242 u243 u244 u245 u246 u247 u248 u249 u250 u251 u252 u253 u254 u255 u256 u257 u258 u259 u260 u261 u262 u263 u264 u265 u266 u267 u268 u269 u270 u271 u272 u273 u274 u275 u276 u277 u278 u279 u280 u281 u282 u283 u284 u285 u286 u287 u288 u289 u290 u291 u292 u293 u294 u295 u296 u297 u298 u299 u300 hK
  have HR := hid R
  obtain ⟨o0, o1, o2, o3, o4, k0, k1, k2⟩ := hK.cells
  have hnm : K.name 22 = ⟨#[112, 117, 115, 104]⟩ := by kernel_rfl
  rw [hnm] at k0
  clear hnm
  have zo := hK.ltO
  have zk := hK.ltK
  have zp := hK.sw.qc.lt
  obtain ⟨r0, r1, r2, r3, r4, r5, r6, r7⟩ := hK.sw.qc.regs
  obtain ⟨r8, r9, r10, r11, r12, r13, r14⟩ := hK.sw.qc.cells
  have fp := hK.sw.qc.frozen
  have HK := hid hK
  clear hK R
  have pp : wx.cell? ⟨w.heap.size + 1 + 1 + 1, 0, none⟩ = some (pushV w.heap.size (w.heap.size + 1)) := Lib.cell_of_heap HK.out.sw.push 0
  have zpp : w.heap.size + 1 + 1 + 1 < wx.heap.size := (Array.getElem?_eq_some_iff.1 HK.out.sw.push).1
  obtain ⟨hb1, hb2⟩ := C.Cpu.r_bd HK.out.sw.qc.ok e1
  conv =>
    arg 2
    dsimp only [cTl, cSec, Tryz.f13, Option.getD]
  go_wp2_with (first
    | (go_at_call 22; refine (rpush_any HR.out (x.c.r e1) hb1 hb2 _ _ _ x HK.out.sw.qc).mono ?_; rintro e w5 ⟨rfl, hq6, hm6⟩; have HKF := hid (HK.out.step hq6 hm6); clear r0 r1 r2 r3 r4 r5 r6 r7 r8 r9 r10 r11 r12 r13 r14; obtain ⟨r0, r1, r2, r3, r4, r5, r6, r7⟩ := hq6.regs; obtain ⟨r8, r9, r10, r11, r12, r13, r14⟩ := hq6.cells; have zp6 := hq6.lt; clear hq6 hm6)
    | (refine wpList_store_mid rfl 25 (.tmp 6) (.tmp 299) rfl (w.heap.size + 1 + 1) 0 _ rfl rfl ?_ ?_ ?_ ?_
       · exact HKF.out.sw.there
       · exact info_cpu
       · exact cpuL_one ((C.push m x (x.c.r e1))).c
       refine cutL (fun W => I W ((C.push m x (x.c.r e1))).s ∧ Mv B (T s) (T ((C.push m x (x.c.r e1))).s) w W ∧ W.rangeAt (w.heap.size + 1 + 1) 0 (cpuL ((C.push m x (x.c.r e1))).c)) ?_ ?_
       · exact HKF.out.sw.fin HR.out hB (cpuL ((C.push m x (x.c.r e1))).c) rfl
       rintro W ⟨hIW, hmW, hrW⟩))
  have hl := load_cpu W _ _ hrW
  refine bodyPost_ret (v := .tuple #[cpuV ((C.push m x (x.c.r e1))).c, .int .i64 (K.cyc 22)]) ?_ rfl ⟨rfl, hIW, hmW⟩
  simp only [results, Tryz.results13]
  simp
  show (Result.andThen (Sem.run Tryz.prog (loadVar 25 ⟨w.heap.size + 1 + 1, 0, none⟩) W) _) = _
  rw [hl]
  rfl
end
end Go.Proofs.YtombboeonffejaaGreatDoor
