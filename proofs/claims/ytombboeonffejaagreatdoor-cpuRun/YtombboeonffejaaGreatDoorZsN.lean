/-
  The reference's orders that reckon.
-/
import Derived.Test.YtombboeonffejaaGreatDoorZsC
import Derived.Deep.DeepCutAuto
namespace Go.Proofs.YtombboeonffejaaGreatDoor
open Go.ChangeShapes Go.WideShapes Go.ChangeAt Go.RowKit
set_option linter.unusedVariables false

section
variable {σ : Type} {m : C.Mem σ} {B bs : Nat} {I : World → σ → Prop} {T : σ → Nat → Prop}
set_option maxRecDepth 100000 in
set_option maxHeartbeats 3200000 in
theorem rrk_7 (R : QS m B bs I T) (w : World) (s : σ) (hB : B ≤ w.heap.size) (d e1 : Nat) (n v : Int) (hd : d < 8) (he : e1 < 8) (hn : -16 ≤ n ∧ n ≤ 15) (x : C.St σ) : Rest B bs I T w s 7 d e1 n v x (C.act m ⟨x.c, x.s, K.cyc 7⟩ 7 d e1 n v) := by
  intro bo kb wx u0 u1 u2 u5 u11 u13 u15 u16 u17 u18 u19 u20 u21 u22 u23 u24 u25 u26 u27 u28 u29 u30 u31 u32 u33 u34 u35 u36 u37 u38 u39 u40 u41 u42 u43 u44 u45 u46 u47 u48 u49 u50 u51 u52 u53 u54 u55 u56 u57 u58 u59 u60 u61 u62 u63 u64 u65 u66 u67 u68 u69 u70 u71 u72 u73 u74 u75 u76 u77 u78 u79 u80 u81 u82 u83 u84 u85 u86 u87 u88 u89 u90 u91 u92 u93 u94 u95 u96 u97 u98 u99 u100 u101 u102 u103 u104 u105 u106 u107 u108 u109 u110 u111 u112 u113 u114 u115 u116 u117 u118 u119 u120 u121 u122 u123 u124 u125 u126 u127 u128 u129 u130 u131 u132 u133 u134 u135 u136 u137 u138 u139 u140 u141 u142 u143 u144 u145 u146 u147 u148 u149 u150 u151 u152 u153 u154 u155 u156 u157 u158 u159 u160 u161 u162 u163 u164 u165 u166 u167 u168 u169 u170 u171 u172 u173 u174 u175 u176 u177 u178 u179 u180 u181 u182 u183 u184 u185 u186 u187 u188 u189 u190 u191 u192 u193 u194 u195 u196 u197 u198 u199 u200 u201 u202 u203 u204 u205 u206 u207 u208 u209 u210 u211 u212 u213 u214 u215 u216 u217 u218 u219 u220 u221 u222 u223 u224 u225 u226 u227 u228 u229 u230 u231 u232 u233 u234 u235 u236 u237 u238 u239 u240 u241 u242 u243 u244 u245 u246 u247 u248 u249 u250 u251 u252 u253 u254 u255 u256 u257 u258 u259 u260 u261 u262 u263 u264 u265 u266 u267 u268 u269 u270 u271 u272 u273 u274 u275 u276 u277 u278 u279 u280 u281 u282 u283 u284 u285 u286 u287 u288 u289 u290 u291 u292 u293 u294 u295 u296 u297 u298 u299 u300 hK
  have HR := hid R
  obtain ⟨o0, o1, o2, o3, o4, k0, k1, k2⟩ := hK.cells
  have hnm : K.name 7 = ⟨#[97, 100, 100]⟩ := by kernel_rfl
  rw [hnm] at k0
  have zo := hK.ltO
  have zk := hK.ltK
  have zp := hK.sw.qc.lt
  have rd := hK.sw.qc.reg d hd
  have re := hK.sw.qc.reg e1 he
  obtain ⟨bd1, bd2⟩ := C.Cpu.r_bd hK.sw.qc.ok d
  obtain ⟨be1, be2⟩ := C.Cpu.r_bd hK.sw.qc.ok e1
  have hd0 : (0 : Int) ≤ d := by omega
  have hd1 : (d : Int) < 8 := by omega
  have he0 : (0 : Int) ≤ e1 := by omega
  have he1 : (e1 : Int) < 8 := by omega
  obtain ⟨hb1, hb2⟩ := M.addN_bd (x.c.r d) (x.c.r e1)
  have HK := hid hK
  have HNM := hid hnm
  clear hK R hnm
  conv =>
    arg 2
    dsimp only [cTl, cSec, Tryz.f13, Option.getD]
  go_wp2
  go_region_held3 (fun w' => w'.cell? ⟨bo, 1, none⟩ = some (.int .i64 d) ∧ w'.cell? ⟨bo, 2, none⟩ = some (.int .i64 e1) ∧ w'.cell? ⟨w.heap.size, d, none⟩ = some (.int .u16 (x.c.r d)) ∧ w'.cell? ⟨w.heap.size, e1, none⟩ = some (.int .u16 (x.c.r e1)))
    ((go_keep; done))
    (fail)
  have KD := hid (HK.out.kept HR.out (st0 wx).drew)
  obtain ⟨r0, r1, r2, r3, r4, r5, r6, r7⟩ := HK.out.sw.qc.regs
  obtain ⟨r8, r9, r10, r11, r12, r13, r14⟩ := HK.out.sw.qc.cells
  go_wp2_with (first
    | (go_at_call 31; refine (res_add 7 _ _ _ bd1 bd2 be1 be2 (Or.inl rfl)).mono ?_; rintro e w5 ⟨rfl, hg5⟩; have K5 := hid (KD.out.kept HR.out hg5); obtain ⟨p0, p1, p2, p3, p4, l0, l1, l2⟩ := K5.out.cells; rw [HNM.out] at l0; have yo := K5.out.ltO; have yk := K5.out.ltK; clear hg5)
    | (go_at_call 30; refine (rsigns_any HR.out (M.addN (x.c.r d) (x.c.r e1)) hb1 hb2 (M.addC (x.c.r d) (x.c.r e1)) (M.addV (x.c.r d) (x.c.r e1)) _ _ _ x K5.out.sw.qc).mono ?_; rintro e w6 ⟨rfl, hq6, hm6⟩; have KM := hid (K5.out.step hq6 hm6); obtain ⟨_, oo1, _, _, _, ll0, _⟩ := KM.out.cells; rw [HNM.out] at ll0; have zo6 := KM.out.ltO; have zk6 := KM.out.ltK; clear hq6 hm6)
    | (go_at_call 29; refine (rset_any HR.out (M.addN (x.c.r d) (x.c.r e1)) hb1 hb2 d hd _ _ _ bo (C.signs x (M.addN (x.c.r d) (x.c.r e1)) (M.addC (x.c.r d) (x.c.r e1)) (M.addV (x.c.r d) (x.c.r e1))) KM.out.sw.qc oo1).mono ?_; rintro e w7 ⟨rfl, hq7, hm7⟩; have HKF := hid (KM.out.step hq7 hm7); clear r0 r1 r2 r3 r4 r5 r6 r7 r8 r9 r10 r11 r12 r13 r14; obtain ⟨r0, r1, r2, r3, r4, r5, r6, r7⟩ := hq7.regs; obtain ⟨r8, r9, r10, r11, r12, r13, r14⟩ := hq7.cells; have zp6 := hq7.lt; clear hq7 hm7)
    | (refine wpList_store_mid rfl 25 (.tmp 6) (.tmp 118) rfl (w.heap.size + 1 + 1) 0 _ rfl rfl ?_ ?_ ?_ ?_
       · exact HKF.out.sw.there
       · exact info_cpu
       · exact cpuL_one ((⟨(C.signs x (M.addN (x.c.r d) (x.c.r e1)) (M.addC (x.c.r d) (x.c.r e1)) (M.addV (x.c.r d) (x.c.r e1))).c.set d (M.addN (x.c.r d) (x.c.r e1)), x.s, x.n⟩ : C.St σ)).c
       refine cutL (fun W => I W ((⟨(C.signs x (M.addN (x.c.r d) (x.c.r e1)) (M.addC (x.c.r d) (x.c.r e1)) (M.addV (x.c.r d) (x.c.r e1))).c.set d (M.addN (x.c.r d) (x.c.r e1)), x.s, x.n⟩ : C.St σ)).s ∧ Mv B (T s) (T ((⟨(C.signs x (M.addN (x.c.r d) (x.c.r e1)) (M.addC (x.c.r d) (x.c.r e1)) (M.addV (x.c.r d) (x.c.r e1))).c.set d (M.addN (x.c.r d) (x.c.r e1)), x.s, x.n⟩ : C.St σ)).s) w W ∧ W.rangeAt (w.heap.size + 1 + 1) 0 (cpuL ((⟨(C.signs x (M.addN (x.c.r d) (x.c.r e1)) (M.addC (x.c.r d) (x.c.r e1)) (M.addV (x.c.r d) (x.c.r e1))).c.set d (M.addN (x.c.r d) (x.c.r e1)), x.s, x.n⟩ : C.St σ)).c)) ?_ ?_
       · exact HKF.out.sw.fin HR.out hB (cpuL ((⟨(C.signs x (M.addN (x.c.r d) (x.c.r e1)) (M.addC (x.c.r d) (x.c.r e1)) (M.addV (x.c.r d) (x.c.r e1))).c.set d (M.addN (x.c.r d) (x.c.r e1)), x.s, x.n⟩ : C.St σ)).c) rfl
       rintro W ⟨hIW, hmW, hrW⟩))
  have hl := load_cpu W _ _ hrW
  refine bodyPost_ret (v := .tuple #[cpuV ((⟨(C.signs x (M.addN (x.c.r d) (x.c.r e1)) (M.addC (x.c.r d) (x.c.r e1)) (M.addV (x.c.r d) (x.c.r e1))).c.set d (M.addN (x.c.r d) (x.c.r e1)), x.s, x.n⟩ : C.St σ)).c, .int .i64 (K.cyc 7)]) ?_ rfl ⟨rfl, hIW, hmW⟩
  simp only [results, Tryz.results13]
  simp
  show (Result.andThen (Sem.run Tryz.prog (loadVar 25 ⟨w.heap.size + 1 + 1, 0, none⟩) W) _) = _
  rw [hl]
  rfl
set_option maxRecDepth 100000 in
set_option maxHeartbeats 3200000 in
theorem rrk_8 (R : QS m B bs I T) (w : World) (s : σ) (hB : B ≤ w.heap.size) (d e1 : Nat) (n v : Int) (hd : d < 8) (he : e1 < 8) (hn : -16 ≤ n ∧ n ≤ 15) (x : C.St σ) : Rest B bs I T w s 8 d e1 n v x (C.act m ⟨x.c, x.s, K.cyc 8⟩ 8 d e1 n v) := by
  intro bo kb wx u0 u1 u2 u5 u11 u13 u15 u16 u17 u18 u19 u20 u21 u22 u23 u24 u25 u26 u27 u28 u29 u30 u31 u32 u33 u34 u35 u36 u37 u38 u39 u40 u41 u42 u43 u44 u45 u46 u47 u48 u49 u50 u51 u52 u53 u54 u55 u56 u57 u58 u59 u60 u61 u62 u63 u64 u65 u66 u67 u68 u69 u70 u71 u72 u73 u74 u75 u76 u77 u78 u79 u80 u81 u82 u83 u84 u85 u86 u87 u88 u89 u90 u91 u92 u93 u94 u95 u96 u97 u98 u99 u100 u101 u102 u103 u104 u105 u106 u107 u108 u109 u110 u111 u112 u113 u114 u115 u116 u117 u118 u119 u120 u121 u122 u123 u124 u125 u126 u127 u128 u129 u130 u131 u132 u133 u134 u135 u136 u137 u138 u139 u140 u141 u142 u143 u144 u145 u146 u147 u148 u149 u150 u151 u152 u153 u154 u155 u156 u157 u158 u159 u160 u161 u162 u163 u164 u165 u166 u167 u168 u169 u170 u171 u172 u173 u174 u175 u176 u177 u178 u179 u180 u181 u182 u183 u184 u185 u186 u187 u188 u189 u190 u191 u192 u193 u194 u195 u196 u197 u198 u199 u200 u201 u202 u203 u204 u205 u206 u207 u208 u209 u210 u211 u212 u213 u214 u215 u216 u217 u218 u219 u220 u221 u222 u223 u224 u225 u226 u227 u228 u229 u230 u231 u232 u233 u234 u235 u236 u237 u238 u239 u240 u241 u242 u243 u244 u245 u246 u247 u248 u249 u250 u251 u252 u253 u254 u255 u256 u257 u258 u259 u260 u261 u262 u263 u264 u265 u266 u267 u268 u269 u270 u271 u272 u273 u274 u275 u276 u277 u278 u279 u280 u281 u282 u283 u284 u285 u286 u287 u288 u289 u290 u291 u292 u293 u294 u295 u296 u297 u298 u299 u300 hK
  have HR := hid R
  obtain ⟨o0, o1, o2, o3, o4, k0, k1, k2⟩ := hK.cells
  have hnm : K.name 8 = ⟨#[115, 117, 98]⟩ := by kernel_rfl
  rw [hnm] at k0
  have zo := hK.ltO
  have zk := hK.ltK
  have zp := hK.sw.qc.lt
  have rd := hK.sw.qc.reg d hd
  have re := hK.sw.qc.reg e1 he
  obtain ⟨bd1, bd2⟩ := C.Cpu.r_bd hK.sw.qc.ok d
  obtain ⟨be1, be2⟩ := C.Cpu.r_bd hK.sw.qc.ok e1
  have hd0 : (0 : Int) ≤ d := by omega
  have hd1 : (d : Int) < 8 := by omega
  have he0 : (0 : Int) ≤ e1 := by omega
  have he1 : (e1 : Int) < 8 := by omega
  obtain ⟨hb1, hb2⟩ := M.subN_bd (x.c.r d) (x.c.r e1)
  have HK := hid hK
  have HNM := hid hnm
  clear hK R hnm
  conv =>
    arg 2
    dsimp only [cTl, cSec, Tryz.f13, Option.getD]
  go_wp2
  go_region_held3 (fun w' => w'.cell? ⟨bo, 1, none⟩ = some (.int .i64 d) ∧ w'.cell? ⟨bo, 2, none⟩ = some (.int .i64 e1) ∧ w'.cell? ⟨w.heap.size, d, none⟩ = some (.int .u16 (x.c.r d)) ∧ w'.cell? ⟨w.heap.size, e1, none⟩ = some (.int .u16 (x.c.r e1)))
    ((go_keep; done))
    (fail)
  have KD := hid (HK.out.kept HR.out (st0 wx).drew)
  obtain ⟨r0, r1, r2, r3, r4, r5, r6, r7⟩ := HK.out.sw.qc.regs
  obtain ⟨r8, r9, r10, r11, r12, r13, r14⟩ := HK.out.sw.qc.cells
  go_wp2_with (first
    | (go_at_call 31; refine (res_sub 8 _ _ _ bd1 bd2 be1 be2 (Or.inl rfl)).mono ?_; rintro e w5 ⟨rfl, hg5⟩; have K5 := hid (KD.out.kept HR.out hg5); obtain ⟨p0, p1, p2, p3, p4, l0, l1, l2⟩ := K5.out.cells; rw [HNM.out] at l0; have yo := K5.out.ltO; have yk := K5.out.ltK; clear hg5)
    | (go_at_call 30; refine (rsigns_any HR.out (M.subN (x.c.r d) (x.c.r e1)) hb1 hb2 (M.subC (x.c.r d) (x.c.r e1)) (M.subV (x.c.r d) (x.c.r e1)) _ _ _ x K5.out.sw.qc).mono ?_; rintro e w6 ⟨rfl, hq6, hm6⟩; have KM := hid (K5.out.step hq6 hm6); obtain ⟨_, oo1, _, _, _, ll0, _⟩ := KM.out.cells; rw [HNM.out] at ll0; have zo6 := KM.out.ltO; have zk6 := KM.out.ltK; clear hq6 hm6)
    | (go_at_call 29; refine (rset_any HR.out (M.subN (x.c.r d) (x.c.r e1)) hb1 hb2 d hd _ _ _ bo (C.signs x (M.subN (x.c.r d) (x.c.r e1)) (M.subC (x.c.r d) (x.c.r e1)) (M.subV (x.c.r d) (x.c.r e1))) KM.out.sw.qc oo1).mono ?_; rintro e w7 ⟨rfl, hq7, hm7⟩; have HKF := hid (KM.out.step hq7 hm7); clear r0 r1 r2 r3 r4 r5 r6 r7 r8 r9 r10 r11 r12 r13 r14; obtain ⟨r0, r1, r2, r3, r4, r5, r6, r7⟩ := hq7.regs; obtain ⟨r8, r9, r10, r11, r12, r13, r14⟩ := hq7.cells; have zp6 := hq7.lt; clear hq7 hm7)
    | (refine wpList_store_mid rfl 25 (.tmp 6) (.tmp 118) rfl (w.heap.size + 1 + 1) 0 _ rfl rfl ?_ ?_ ?_ ?_
       · exact HKF.out.sw.there
       · exact info_cpu
       · exact cpuL_one ((⟨(C.signs x (M.subN (x.c.r d) (x.c.r e1)) (M.subC (x.c.r d) (x.c.r e1)) (M.subV (x.c.r d) (x.c.r e1))).c.set d (M.subN (x.c.r d) (x.c.r e1)), x.s, x.n⟩ : C.St σ)).c
       refine cutL (fun W => I W ((⟨(C.signs x (M.subN (x.c.r d) (x.c.r e1)) (M.subC (x.c.r d) (x.c.r e1)) (M.subV (x.c.r d) (x.c.r e1))).c.set d (M.subN (x.c.r d) (x.c.r e1)), x.s, x.n⟩ : C.St σ)).s ∧ Mv B (T s) (T ((⟨(C.signs x (M.subN (x.c.r d) (x.c.r e1)) (M.subC (x.c.r d) (x.c.r e1)) (M.subV (x.c.r d) (x.c.r e1))).c.set d (M.subN (x.c.r d) (x.c.r e1)), x.s, x.n⟩ : C.St σ)).s) w W ∧ W.rangeAt (w.heap.size + 1 + 1) 0 (cpuL ((⟨(C.signs x (M.subN (x.c.r d) (x.c.r e1)) (M.subC (x.c.r d) (x.c.r e1)) (M.subV (x.c.r d) (x.c.r e1))).c.set d (M.subN (x.c.r d) (x.c.r e1)), x.s, x.n⟩ : C.St σ)).c)) ?_ ?_
       · exact HKF.out.sw.fin HR.out hB (cpuL ((⟨(C.signs x (M.subN (x.c.r d) (x.c.r e1)) (M.subC (x.c.r d) (x.c.r e1)) (M.subV (x.c.r d) (x.c.r e1))).c.set d (M.subN (x.c.r d) (x.c.r e1)), x.s, x.n⟩ : C.St σ)).c) rfl
       rintro W ⟨hIW, hmW, hrW⟩))
  have hl := load_cpu W _ _ hrW
  refine bodyPost_ret (v := .tuple #[cpuV ((⟨(C.signs x (M.subN (x.c.r d) (x.c.r e1)) (M.subC (x.c.r d) (x.c.r e1)) (M.subV (x.c.r d) (x.c.r e1))).c.set d (M.subN (x.c.r d) (x.c.r e1)), x.s, x.n⟩ : C.St σ)).c, .int .i64 (K.cyc 8)]) ?_ rfl ⟨rfl, hIW, hmW⟩
  simp only [results, Tryz.results13]
  simp
  show (Result.andThen (Sem.run Tryz.prog (loadVar 25 ⟨w.heap.size + 1 + 1, 0, none⟩) W) _) = _
  rw [hl]
  rfl
end
section
variable {σ : Type} {m : C.Mem σ} {B bs : Nat} {I : World → σ → Prop} {T : σ → Nat → Prop}
set_option maxRecDepth 100000 in
set_option maxHeartbeats 3200000 in
theorem rrk_9 (R : QS m B bs I T) (w : World) (s : σ) (hB : B ≤ w.heap.size) (d e1 : Nat) (n v : Int) (hd : d < 8) (he : e1 < 8) (hn : -16 ≤ n ∧ n ≤ 15) (x : C.St σ) : Rest B bs I T w s 9 d e1 n v x (C.act m ⟨x.c, x.s, K.cyc 9⟩ 9 d e1 n v) := by
  intro bo kb wx u0 u1 u2 u5 u11 u13 u15 u16 u17 u18 u19 u20 u21 u22 u23 u24 u25 u26 u27 u28 u29 u30 u31 u32 u33 u34 u35 u36 u37 u38 u39 u40 u41 u42 u43 u44 u45 u46 u47 u48 u49 u50 u51 u52 u53 u54 u55 u56 u57 u58 u59 u60 u61 u62 u63 u64 u65 u66 u67 u68 u69 u70 u71 u72 u73 u74 u75 u76 u77 u78 u79 u80 u81 u82 u83 u84 u85 u86 u87 u88 u89 u90 u91 u92 u93 u94 u95 u96 u97 u98 u99 u100 u101 u102 u103 u104 u105 u106 u107 u108 u109 u110 u111 u112 u113 u114 u115 u116 u117 u118 u119 u120 u121 u122 u123 u124 u125 u126 u127 u128 u129 u130 u131 u132 u133 u134 u135 u136 u137 u138 u139 u140 u141 u142 u143 u144 u145 u146 u147 u148 u149 u150 u151 u152 u153 u154 u155 u156 u157 u158 u159 u160 u161 u162 u163 u164 u165 u166 u167 u168 u169 u170 u171 u172 u173 u174 u175 u176 u177 u178 u179 u180 u181 u182 u183 u184 u185 u186 u187 u188 u189 u190 u191 u192 u193 u194 u195 u196 u197 u198 u199 u200 u201 u202 u203 u204 u205 u206 u207 u208 u209 u210 u211 u212 u213 u214 u215 u216 u217 u218 u219 u220 u221 u222 u223 u224 u225 u226 u227 u228 u229 u230 u231 u232 u233 u234 u235 u236 u237 u238 u239 u240 u241 u242 u243 u244 u245 u246 u247 u248 u249 u250 u251 u252 u253 u254 u255 u256 u257 u258 u259 u260 u261 u262 u263 u264 u265 u266 u267 u268 u269 u270 u271 u272 u273 u274 u275 u276 u277 u278 u279 u280 u281 u282 u283 u284 u285 u286 u287 u288 u289 u290 u291 u292 u293 u294 u295 u296 u297 u298 u299 u300 hK
  have HR := hid R
  obtain ⟨o0, o1, o2, o3, o4, k0, k1, k2⟩ := hK.cells
  have hnm : K.name 9 = ⟨#[97, 110, 100]⟩ := by kernel_rfl
  rw [hnm] at k0
  have zo := hK.ltO
  have zk := hK.ltK
  have zp := hK.sw.qc.lt
  have rd := hK.sw.qc.reg d hd
  have re := hK.sw.qc.reg e1 he
  obtain ⟨bd1, bd2⟩ := C.Cpu.r_bd hK.sw.qc.ok d
  obtain ⟨be1, be2⟩ := C.Cpu.r_bd hK.sw.qc.ok e1
  have hd0 : (0 : Int) ≤ d := by omega
  have hd1 : (d : Int) < 8 := by omega
  have he0 : (0 : Int) ≤ e1 := by omega
  have he1 : (e1 : Int) < 8 := by omega
  obtain ⟨hb1, hb2⟩ := M.and_bd (x.c.r d) (x.c.r e1) bd1 bd2 be1 be2
  have HK := hid hK
  have HNM := hid hnm
  clear hK R hnm
  conv =>
    arg 2
    dsimp only [cTl, cSec, Tryz.f13, Option.getD]
  go_wp2
  go_region_held3 (fun w' => w'.cell? ⟨bo, 1, none⟩ = some (.int .i64 d) ∧ w'.cell? ⟨bo, 2, none⟩ = some (.int .i64 e1) ∧ w'.cell? ⟨w.heap.size, d, none⟩ = some (.int .u16 (x.c.r d)) ∧ w'.cell? ⟨w.heap.size, e1, none⟩ = some (.int .u16 (x.c.r e1)))
    ((go_keep; done))
    (fail)
  have KD := hid (HK.out.kept HR.out (st0 wx).drew)
  obtain ⟨r0, r1, r2, r3, r4, r5, r6, r7⟩ := HK.out.sw.qc.regs
  obtain ⟨r8, r9, r10, r11, r12, r13, r14⟩ := HK.out.sw.qc.cells
  go_wp2_with (first
    | (go_at_call 31; refine (res_and _ _ _ bd1 bd2 be1 be2).mono ?_; rintro e w5 ⟨rfl, hg5⟩; have K5 := hid (KD.out.kept HR.out hg5); obtain ⟨p0, p1, p2, p3, p4, l0, l1, l2⟩ := K5.out.cells; rw [HNM.out] at l0; have yo := K5.out.ltO; have yk := K5.out.ltK; clear hg5)
    | (go_at_call 30; refine (rsigns_any HR.out (bits .and .u16 (x.c.r d) (x.c.r e1)) hb1 hb2 (false) (false) _ _ _ x K5.out.sw.qc).mono ?_; rintro e w6 ⟨rfl, hq6, hm6⟩; have KM := hid (K5.out.step hq6 hm6); obtain ⟨_, oo1, _, _, _, ll0, _⟩ := KM.out.cells; rw [HNM.out] at ll0; have zo6 := KM.out.ltO; have zk6 := KM.out.ltK; clear hq6 hm6)
    | (go_at_call 29; refine (rset_any HR.out (bits .and .u16 (x.c.r d) (x.c.r e1)) hb1 hb2 d hd _ _ _ bo (C.signs x (bits .and .u16 (x.c.r d) (x.c.r e1)) (false) (false)) KM.out.sw.qc oo1).mono ?_; rintro e w7 ⟨rfl, hq7, hm7⟩; have HKF := hid (KM.out.step hq7 hm7); clear r0 r1 r2 r3 r4 r5 r6 r7 r8 r9 r10 r11 r12 r13 r14; obtain ⟨r0, r1, r2, r3, r4, r5, r6, r7⟩ := hq7.regs; obtain ⟨r8, r9, r10, r11, r12, r13, r14⟩ := hq7.cells; have zp6 := hq7.lt; clear hq7 hm7)
    | (refine wpList_store_mid rfl 25 (.tmp 6) (.tmp 118) rfl (w.heap.size + 1 + 1) 0 _ rfl rfl ?_ ?_ ?_ ?_
       · exact HKF.out.sw.there
       · exact info_cpu
       · exact cpuL_one ((⟨(C.signs x (bits .and .u16 (x.c.r d) (x.c.r e1)) (false) (false)).c.set d (bits .and .u16 (x.c.r d) (x.c.r e1)), x.s, x.n⟩ : C.St σ)).c
       refine cutL (fun W => I W ((⟨(C.signs x (bits .and .u16 (x.c.r d) (x.c.r e1)) (false) (false)).c.set d (bits .and .u16 (x.c.r d) (x.c.r e1)), x.s, x.n⟩ : C.St σ)).s ∧ Mv B (T s) (T ((⟨(C.signs x (bits .and .u16 (x.c.r d) (x.c.r e1)) (false) (false)).c.set d (bits .and .u16 (x.c.r d) (x.c.r e1)), x.s, x.n⟩ : C.St σ)).s) w W ∧ W.rangeAt (w.heap.size + 1 + 1) 0 (cpuL ((⟨(C.signs x (bits .and .u16 (x.c.r d) (x.c.r e1)) (false) (false)).c.set d (bits .and .u16 (x.c.r d) (x.c.r e1)), x.s, x.n⟩ : C.St σ)).c)) ?_ ?_
       · exact HKF.out.sw.fin HR.out hB (cpuL ((⟨(C.signs x (bits .and .u16 (x.c.r d) (x.c.r e1)) (false) (false)).c.set d (bits .and .u16 (x.c.r d) (x.c.r e1)), x.s, x.n⟩ : C.St σ)).c) rfl
       rintro W ⟨hIW, hmW, hrW⟩))
  have hl := load_cpu W _ _ hrW
  refine bodyPost_ret (v := .tuple #[cpuV ((⟨(C.signs x (bits .and .u16 (x.c.r d) (x.c.r e1)) (false) (false)).c.set d (bits .and .u16 (x.c.r d) (x.c.r e1)), x.s, x.n⟩ : C.St σ)).c, .int .i64 (K.cyc 9)]) ?_ rfl ⟨rfl, hIW, hmW⟩
  simp only [results, Tryz.results13]
  simp
  show (Result.andThen (Sem.run Tryz.prog (loadVar 25 ⟨w.heap.size + 1 + 1, 0, none⟩) W) _) = _
  rw [hl]
  rfl
set_option maxRecDepth 100000 in
set_option maxHeartbeats 3200000 in
theorem rrk_10 (R : QS m B bs I T) (w : World) (s : σ) (hB : B ≤ w.heap.size) (d e1 : Nat) (n v : Int) (hd : d < 8) (he : e1 < 8) (hn : -16 ≤ n ∧ n ≤ 15) (x : C.St σ) : Rest B bs I T w s 10 d e1 n v x (C.act m ⟨x.c, x.s, K.cyc 10⟩ 10 d e1 n v) := by
  intro bo kb wx u0 u1 u2 u5 u11 u13 u15 u16 u17 u18 u19 u20 u21 u22 u23 u24 u25 u26 u27 u28 u29 u30 u31 u32 u33 u34 u35 u36 u37 u38 u39 u40 u41 u42 u43 u44 u45 u46 u47 u48 u49 u50 u51 u52 u53 u54 u55 u56 u57 u58 u59 u60 u61 u62 u63 u64 u65 u66 u67 u68 u69 u70 u71 u72 u73 u74 u75 u76 u77 u78 u79 u80 u81 u82 u83 u84 u85 u86 u87 u88 u89 u90 u91 u92 u93 u94 u95 u96 u97 u98 u99 u100 u101 u102 u103 u104 u105 u106 u107 u108 u109 u110 u111 u112 u113 u114 u115 u116 u117 u118 u119 u120 u121 u122 u123 u124 u125 u126 u127 u128 u129 u130 u131 u132 u133 u134 u135 u136 u137 u138 u139 u140 u141 u142 u143 u144 u145 u146 u147 u148 u149 u150 u151 u152 u153 u154 u155 u156 u157 u158 u159 u160 u161 u162 u163 u164 u165 u166 u167 u168 u169 u170 u171 u172 u173 u174 u175 u176 u177 u178 u179 u180 u181 u182 u183 u184 u185 u186 u187 u188 u189 u190 u191 u192 u193 u194 u195 u196 u197 u198 u199 u200 u201 u202 u203 u204 u205 u206 u207 u208 u209 u210 u211 u212 u213 u214 u215 u216 u217 u218 u219 u220 u221 u222 u223 u224 u225 u226 u227 u228 u229 u230 u231 u232 u233 u234 u235 u236 u237 u238 u239 u240 u241 u242 u243 u244 u245 u246 u247 u248 u249 u250 u251 u252 u253 u254 u255 u256 u257 u258 u259 u260 u261 u262 u263 u264 u265 u266 u267 u268 u269 u270 u271 u272 u273 u274 u275 u276 u277 u278 u279 u280 u281 u282 u283 u284 u285 u286 u287 u288 u289 u290 u291 u292 u293 u294 u295 u296 u297 u298 u299 u300 hK
  have HR := hid R
  obtain ⟨o0, o1, o2, o3, o4, k0, k1, k2⟩ := hK.cells
  have hnm : K.name 10 = ⟨#[111, 114]⟩ := by kernel_rfl
  rw [hnm] at k0
  have zo := hK.ltO
  have zk := hK.ltK
  have zp := hK.sw.qc.lt
  have rd := hK.sw.qc.reg d hd
  have re := hK.sw.qc.reg e1 he
  obtain ⟨bd1, bd2⟩ := C.Cpu.r_bd hK.sw.qc.ok d
  obtain ⟨be1, be2⟩ := C.Cpu.r_bd hK.sw.qc.ok e1
  have hd0 : (0 : Int) ≤ d := by omega
  have hd1 : (d : Int) < 8 := by omega
  have he0 : (0 : Int) ≤ e1 := by omega
  have he1 : (e1 : Int) < 8 := by omega
  obtain ⟨hb1, hb2⟩ := M.or_bd (x.c.r d) (x.c.r e1) bd1 bd2 be1 be2
  have HK := hid hK
  have HNM := hid hnm
  clear hK R hnm
  conv =>
    arg 2
    dsimp only [cTl, cSec, Tryz.f13, Option.getD]
  go_wp2
  go_region_held3 (fun w' => w'.cell? ⟨bo, 1, none⟩ = some (.int .i64 d) ∧ w'.cell? ⟨bo, 2, none⟩ = some (.int .i64 e1) ∧ w'.cell? ⟨w.heap.size, d, none⟩ = some (.int .u16 (x.c.r d)) ∧ w'.cell? ⟨w.heap.size, e1, none⟩ = some (.int .u16 (x.c.r e1)))
    ((go_keep; done))
    (fail)
  have KD := hid (HK.out.kept HR.out (st0 wx).drew)
  obtain ⟨r0, r1, r2, r3, r4, r5, r6, r7⟩ := HK.out.sw.qc.regs
  obtain ⟨r8, r9, r10, r11, r12, r13, r14⟩ := HK.out.sw.qc.cells
  go_wp2_with (first
    | (go_at_call 31; refine (res_or _ _ _ bd1 bd2 be1 be2).mono ?_; rintro e w5 ⟨rfl, hg5⟩; have K5 := hid (KD.out.kept HR.out hg5); obtain ⟨p0, p1, p2, p3, p4, l0, l1, l2⟩ := K5.out.cells; rw [HNM.out] at l0; have yo := K5.out.ltO; have yk := K5.out.ltK; clear hg5)
    | (go_at_call 30; refine (rsigns_any HR.out (bits .or .u16 (x.c.r d) (x.c.r e1)) hb1 hb2 (false) (false) _ _ _ x K5.out.sw.qc).mono ?_; rintro e w6 ⟨rfl, hq6, hm6⟩; have KM := hid (K5.out.step hq6 hm6); obtain ⟨_, oo1, _, _, _, ll0, _⟩ := KM.out.cells; rw [HNM.out] at ll0; have zo6 := KM.out.ltO; have zk6 := KM.out.ltK; clear hq6 hm6)
    | (go_at_call 29; refine (rset_any HR.out (bits .or .u16 (x.c.r d) (x.c.r e1)) hb1 hb2 d hd _ _ _ bo (C.signs x (bits .or .u16 (x.c.r d) (x.c.r e1)) (false) (false)) KM.out.sw.qc oo1).mono ?_; rintro e w7 ⟨rfl, hq7, hm7⟩; have HKF := hid (KM.out.step hq7 hm7); clear r0 r1 r2 r3 r4 r5 r6 r7 r8 r9 r10 r11 r12 r13 r14; obtain ⟨r0, r1, r2, r3, r4, r5, r6, r7⟩ := hq7.regs; obtain ⟨r8, r9, r10, r11, r12, r13, r14⟩ := hq7.cells; have zp6 := hq7.lt; clear hq7 hm7)
    | (refine wpList_store_mid rfl 25 (.tmp 6) (.tmp 118) rfl (w.heap.size + 1 + 1) 0 _ rfl rfl ?_ ?_ ?_ ?_
       · exact HKF.out.sw.there
       · exact info_cpu
       · exact cpuL_one ((⟨(C.signs x (bits .or .u16 (x.c.r d) (x.c.r e1)) (false) (false)).c.set d (bits .or .u16 (x.c.r d) (x.c.r e1)), x.s, x.n⟩ : C.St σ)).c
       refine cutL (fun W => I W ((⟨(C.signs x (bits .or .u16 (x.c.r d) (x.c.r e1)) (false) (false)).c.set d (bits .or .u16 (x.c.r d) (x.c.r e1)), x.s, x.n⟩ : C.St σ)).s ∧ Mv B (T s) (T ((⟨(C.signs x (bits .or .u16 (x.c.r d) (x.c.r e1)) (false) (false)).c.set d (bits .or .u16 (x.c.r d) (x.c.r e1)), x.s, x.n⟩ : C.St σ)).s) w W ∧ W.rangeAt (w.heap.size + 1 + 1) 0 (cpuL ((⟨(C.signs x (bits .or .u16 (x.c.r d) (x.c.r e1)) (false) (false)).c.set d (bits .or .u16 (x.c.r d) (x.c.r e1)), x.s, x.n⟩ : C.St σ)).c)) ?_ ?_
       · exact HKF.out.sw.fin HR.out hB (cpuL ((⟨(C.signs x (bits .or .u16 (x.c.r d) (x.c.r e1)) (false) (false)).c.set d (bits .or .u16 (x.c.r d) (x.c.r e1)), x.s, x.n⟩ : C.St σ)).c) rfl
       rintro W ⟨hIW, hmW, hrW⟩))
  have hl := load_cpu W _ _ hrW
  refine bodyPost_ret (v := .tuple #[cpuV ((⟨(C.signs x (bits .or .u16 (x.c.r d) (x.c.r e1)) (false) (false)).c.set d (bits .or .u16 (x.c.r d) (x.c.r e1)), x.s, x.n⟩ : C.St σ)).c, .int .i64 (K.cyc 10)]) ?_ rfl ⟨rfl, hIW, hmW⟩
  simp only [results, Tryz.results13]
  simp
  show (Result.andThen (Sem.run Tryz.prog (loadVar 25 ⟨w.heap.size + 1 + 1, 0, none⟩) W) _) = _
  rw [hl]
  rfl
end
section
variable {σ : Type} {m : C.Mem σ} {B bs : Nat} {I : World → σ → Prop} {T : σ → Nat → Prop}
set_option maxRecDepth 100000 in
set_option maxHeartbeats 3200000 in
theorem rrk_11 (R : QS m B bs I T) (w : World) (s : σ) (hB : B ≤ w.heap.size) (d e1 : Nat) (n v : Int) (hd : d < 8) (he : e1 < 8) (hn : -16 ≤ n ∧ n ≤ 15) (x : C.St σ) : Rest B bs I T w s 11 d e1 n v x (C.act m ⟨x.c, x.s, K.cyc 11⟩ 11 d e1 n v) := by
  intro bo kb wx u0 u1 u2 u5 u11 u13 u15 u16 u17 u18 u19 u20 u21 u22 u23 u24 u25 u26 u27 u28 u29 u30 u31 u32 u33 u34 u35 u36 u37 u38 u39 u40 u41 u42 u43 u44 u45 u46 u47 u48 u49 u50 u51 u52 u53 u54 u55 u56 u57 u58 u59 u60 u61 u62 u63 u64 u65 u66 u67 u68 u69 u70 u71 u72 u73 u74 u75 u76 u77 u78 u79 u80 u81 u82 u83 u84 u85 u86 u87 u88 u89 u90 u91 u92 u93 u94 u95 u96 u97 u98 u99 u100 u101 u102 u103 u104 u105 u106 u107 u108 u109 u110 u111 u112 u113 u114 u115 u116 u117 u118 u119 u120 u121 u122 u123 u124 u125 u126 u127 u128 u129 u130 u131 u132 u133 u134 u135 u136 u137 u138 u139 u140 u141 u142 u143 u144 u145 u146 u147 u148 u149 u150 u151 u152 u153 u154 u155 u156 u157 u158 u159 u160 u161 u162 u163 u164 u165 u166 u167 u168 u169 u170 u171 u172 u173 u174 u175 u176 u177 u178 u179 u180 u181 u182 u183 u184 u185 u186 u187 u188 u189 u190 u191 u192 u193 u194 u195 u196 u197 u198 u199 u200 u201 u202 u203 u204 u205 u206 u207 u208 u209 u210 u211 u212 u213 u214 u215 u216 u217 u218 u219 u220 u221 u222 u223 u224 u225 u226 u227 u228 u229 u230 u231 u232 u233 u234 u235 u236 u237 u238 u239 u240 u241 u242 u243 u244 u245 u246 u247 u248 u249 u250 u251 u252 u253 u254 u255 u256 u257 u258 u259 u260 u261 u262 u263 u264 u265 u266 u267 u268 u269 u270 u271 u272 u273 u274 u275 u276 u277 u278 u279 u280 u281 u282 u283 u284 u285 u286 u287 u288 u289 u290 u291 u292 u293 u294 u295 u296 u297 u298 u299 u300 hK
  have HR := hid R
  obtain ⟨o0, o1, o2, o3, o4, k0, k1, k2⟩ := hK.cells
  have hnm : K.name 11 = ⟨#[120, 111, 114]⟩ := by kernel_rfl
  rw [hnm] at k0
  have zo := hK.ltO
  have zk := hK.ltK
  have zp := hK.sw.qc.lt
  have rd := hK.sw.qc.reg d hd
  have re := hK.sw.qc.reg e1 he
  obtain ⟨bd1, bd2⟩ := C.Cpu.r_bd hK.sw.qc.ok d
  obtain ⟨be1, be2⟩ := C.Cpu.r_bd hK.sw.qc.ok e1
  have hd0 : (0 : Int) ≤ d := by omega
  have hd1 : (d : Int) < 8 := by omega
  have he0 : (0 : Int) ≤ e1 := by omega
  have he1 : (e1 : Int) < 8 := by omega
  obtain ⟨hb1, hb2⟩ := M.xor_bd (x.c.r d) (x.c.r e1) bd1 bd2 be1 be2
  have HK := hid hK
  have HNM := hid hnm
  clear hK R hnm
  conv =>
    arg 2
    dsimp only [cTl, cSec, Tryz.f13, Option.getD]
  go_wp2
  go_region_held3 (fun w' => w'.cell? ⟨bo, 1, none⟩ = some (.int .i64 d) ∧ w'.cell? ⟨bo, 2, none⟩ = some (.int .i64 e1) ∧ w'.cell? ⟨w.heap.size, d, none⟩ = some (.int .u16 (x.c.r d)) ∧ w'.cell? ⟨w.heap.size, e1, none⟩ = some (.int .u16 (x.c.r e1)))
    ((go_keep; done))
    (fail)
  have KD := hid (HK.out.kept HR.out (st0 wx).drew)
  obtain ⟨r0, r1, r2, r3, r4, r5, r6, r7⟩ := HK.out.sw.qc.regs
  obtain ⟨r8, r9, r10, r11, r12, r13, r14⟩ := HK.out.sw.qc.cells
  go_wp2_with (first
    | (go_at_call 31; refine (res_xor _ _ _ bd1 bd2 be1 be2).mono ?_; rintro e w5 ⟨rfl, hg5⟩; have K5 := hid (KD.out.kept HR.out hg5); obtain ⟨p0, p1, p2, p3, p4, l0, l1, l2⟩ := K5.out.cells; rw [HNM.out] at l0; have yo := K5.out.ltO; have yk := K5.out.ltK; clear hg5)
    | (go_at_call 30; refine (rsigns_any HR.out (bits .xor .u16 (x.c.r d) (x.c.r e1)) hb1 hb2 (false) (false) _ _ _ x K5.out.sw.qc).mono ?_; rintro e w6 ⟨rfl, hq6, hm6⟩; have KM := hid (K5.out.step hq6 hm6); obtain ⟨_, oo1, _, _, _, ll0, _⟩ := KM.out.cells; rw [HNM.out] at ll0; have zo6 := KM.out.ltO; have zk6 := KM.out.ltK; clear hq6 hm6)
    | (go_at_call 29; refine (rset_any HR.out (bits .xor .u16 (x.c.r d) (x.c.r e1)) hb1 hb2 d hd _ _ _ bo (C.signs x (bits .xor .u16 (x.c.r d) (x.c.r e1)) (false) (false)) KM.out.sw.qc oo1).mono ?_; rintro e w7 ⟨rfl, hq7, hm7⟩; have HKF := hid (KM.out.step hq7 hm7); clear r0 r1 r2 r3 r4 r5 r6 r7 r8 r9 r10 r11 r12 r13 r14; obtain ⟨r0, r1, r2, r3, r4, r5, r6, r7⟩ := hq7.regs; obtain ⟨r8, r9, r10, r11, r12, r13, r14⟩ := hq7.cells; have zp6 := hq7.lt; clear hq7 hm7)
    | (refine wpList_store_mid rfl 25 (.tmp 6) (.tmp 118) rfl (w.heap.size + 1 + 1) 0 _ rfl rfl ?_ ?_ ?_ ?_
       · exact HKF.out.sw.there
       · exact info_cpu
       · exact cpuL_one ((⟨(C.signs x (bits .xor .u16 (x.c.r d) (x.c.r e1)) (false) (false)).c.set d (bits .xor .u16 (x.c.r d) (x.c.r e1)), x.s, x.n⟩ : C.St σ)).c
       refine cutL (fun W => I W ((⟨(C.signs x (bits .xor .u16 (x.c.r d) (x.c.r e1)) (false) (false)).c.set d (bits .xor .u16 (x.c.r d) (x.c.r e1)), x.s, x.n⟩ : C.St σ)).s ∧ Mv B (T s) (T ((⟨(C.signs x (bits .xor .u16 (x.c.r d) (x.c.r e1)) (false) (false)).c.set d (bits .xor .u16 (x.c.r d) (x.c.r e1)), x.s, x.n⟩ : C.St σ)).s) w W ∧ W.rangeAt (w.heap.size + 1 + 1) 0 (cpuL ((⟨(C.signs x (bits .xor .u16 (x.c.r d) (x.c.r e1)) (false) (false)).c.set d (bits .xor .u16 (x.c.r d) (x.c.r e1)), x.s, x.n⟩ : C.St σ)).c)) ?_ ?_
       · exact HKF.out.sw.fin HR.out hB (cpuL ((⟨(C.signs x (bits .xor .u16 (x.c.r d) (x.c.r e1)) (false) (false)).c.set d (bits .xor .u16 (x.c.r d) (x.c.r e1)), x.s, x.n⟩ : C.St σ)).c) rfl
       rintro W ⟨hIW, hmW, hrW⟩))
  have hl := load_cpu W _ _ hrW
  refine bodyPost_ret (v := .tuple #[cpuV ((⟨(C.signs x (bits .xor .u16 (x.c.r d) (x.c.r e1)) (false) (false)).c.set d (bits .xor .u16 (x.c.r d) (x.c.r e1)), x.s, x.n⟩ : C.St σ)).c, .int .i64 (K.cyc 11)]) ?_ rfl ⟨rfl, hIW, hmW⟩
  simp only [results, Tryz.results13]
  simp
  show (Result.andThen (Sem.run Tryz.prog (loadVar 25 ⟨w.heap.size + 1 + 1, 0, none⟩) W) _) = _
  rw [hl]
  rfl
set_option maxRecDepth 100000 in
set_option maxHeartbeats 3200000 in
theorem rrk_28 (R : QS m B bs I T) (w : World) (s : σ) (hB : B ≤ w.heap.size) (d e1 : Nat) (n v : Int) (hd : d < 8) (he : e1 < 8) (hn : -16 ≤ n ∧ n ≤ 15) (x : C.St σ) : Rest B bs I T w s 28 d e1 n v x (C.act m ⟨x.c, x.s, K.cyc 28⟩ 28 d e1 n v) := by
  intro bo kb wx u0 u1 u2 u5 u11 u13 u15 u16 u17 u18 u19 u20 u21 u22 u23 u24 u25 u26 u27 u28 u29 u30 u31 u32 u33 u34 u35 u36 u37 u38 u39 u40 u41 u42 u43 u44 u45 u46 u47 u48 u49 u50 u51 u52 u53 u54 u55 u56 u57 u58 u59 u60 u61 u62 u63 u64 u65 u66 u67 u68 u69 u70 u71 u72 u73 u74 u75 u76 u77 u78 u79 u80 u81 u82 u83 u84 u85 u86 u87 u88 u89 u90 u91 u92 u93 u94 u95 u96 u97 u98 u99 u100 u101 u102 u103 u104 u105 u106 u107 u108 u109 u110 u111 u112 u113 u114 u115 u116 u117 u118 u119 u120 u121 u122 u123 u124 u125 u126 u127 u128 u129 u130 u131 u132 u133 u134 u135 u136 u137 u138 u139 u140 u141 u142 u143 u144 u145 u146 u147 u148 u149 u150 u151 u152 u153 u154 u155 u156 u157 u158 u159 u160 u161 u162 u163 u164 u165 u166 u167 u168 u169 u170 u171 u172 u173 u174 u175 u176 u177 u178 u179 u180 u181 u182 u183 u184 u185 u186 u187 u188 u189 u190 u191 u192 u193 u194 u195 u196 u197 u198 u199 u200 u201 u202 u203 u204 u205 u206 u207 u208 u209 u210 u211 u212 u213 u214 u215 u216 u217 u218 u219 u220 u221 u222 u223 u224 u225 u226 u227 u228 u229 u230 u231 u232 u233 u234 u235 u236 u237 u238 u239 u240 u241 u242 u243 u244 u245 u246 u247 u248 u249 u250 u251 u252 u253 u254 u255 u256 u257 u258 u259 u260 u261 u262 u263 u264 u265 u266 u267 u268 u269 u270 u271 u272 u273 u274 u275 u276 u277 u278 u279 u280 u281 u282 u283 u284 u285 u286 u287 u288 u289 u290 u291 u292 u293 u294 u295 u296 u297 u298 u299 u300 hK
  have HR := hid R
  obtain ⟨o0, o1, o2, o3, o4, k0, k1, k2⟩ := hK.cells
  have hnm : K.name 28 = ⟨#[109, 117, 108]⟩ := by kernel_rfl
  rw [hnm] at k0
  have zo := hK.ltO
  have zk := hK.ltK
  have zp := hK.sw.qc.lt
  have rd := hK.sw.qc.reg d hd
  have re := hK.sw.qc.reg e1 he
  obtain ⟨bd1, bd2⟩ := C.Cpu.r_bd hK.sw.qc.ok d
  obtain ⟨be1, be2⟩ := C.Cpu.r_bd hK.sw.qc.ok e1
  have hd0 : (0 : Int) ≤ d := by omega
  have hd1 : (d : Int) < 8 := by omega
  have he0 : (0 : Int) ≤ e1 := by omega
  have he1 : (e1 : Int) < 8 := by omega
  obtain ⟨hb1, hb2⟩ := M.mulN_bd (x.c.r d) (x.c.r e1)
  have HK := hid hK
  have HNM := hid hnm
  clear hK R hnm
  conv =>
    arg 2
    dsimp only [cTl, cSec, Tryz.f13, Option.getD]
  go_wp2
  go_region_held3 (fun w' => w'.cell? ⟨bo, 1, none⟩ = some (.int .i64 d) ∧ w'.cell? ⟨bo, 2, none⟩ = some (.int .i64 e1) ∧ w'.cell? ⟨w.heap.size, d, none⟩ = some (.int .u16 (x.c.r d)) ∧ w'.cell? ⟨w.heap.size, e1, none⟩ = some (.int .u16 (x.c.r e1)))
    ((go_keep; done))
    (fail)
  have KD := hid (HK.out.kept HR.out (st0 wx).drew)
  obtain ⟨r0, r1, r2, r3, r4, r5, r6, r7⟩ := HK.out.sw.qc.regs
  obtain ⟨r8, r9, r10, r11, r12, r13, r14⟩ := HK.out.sw.qc.cells
  go_wp2_with (first
    | (go_at_call 31; refine (res_mul _ _ _ bd1 bd2 be1 be2).mono ?_; rintro e w5 ⟨rfl, hg5⟩; have K5 := hid (KD.out.kept HR.out hg5); obtain ⟨p0, p1, p2, p3, p4, l0, l1, l2⟩ := K5.out.cells; rw [HNM.out] at l0; have yo := K5.out.ltO; have yk := K5.out.ltK; clear hg5)
    | (go_at_call 30; refine (rsigns_any HR.out (M.mulN (x.c.r d) (x.c.r e1)) hb1 hb2 (M.mulC (x.c.r d) (x.c.r e1)) (false) _ _ _ x K5.out.sw.qc).mono ?_; rintro e w6 ⟨rfl, hq6, hm6⟩; have KM := hid (K5.out.step hq6 hm6); obtain ⟨_, oo1, _, _, _, ll0, _⟩ := KM.out.cells; rw [HNM.out] at ll0; have zo6 := KM.out.ltO; have zk6 := KM.out.ltK; clear hq6 hm6)
    | (go_at_call 29; refine (rset_any HR.out (M.mulN (x.c.r d) (x.c.r e1)) hb1 hb2 d hd _ _ _ bo (C.signs x (M.mulN (x.c.r d) (x.c.r e1)) (M.mulC (x.c.r d) (x.c.r e1)) (false)) KM.out.sw.qc oo1).mono ?_; rintro e w7 ⟨rfl, hq7, hm7⟩; have HKF := hid (KM.out.step hq7 hm7); clear r0 r1 r2 r3 r4 r5 r6 r7 r8 r9 r10 r11 r12 r13 r14; obtain ⟨r0, r1, r2, r3, r4, r5, r6, r7⟩ := hq7.regs; obtain ⟨r8, r9, r10, r11, r12, r13, r14⟩ := hq7.cells; have zp6 := hq7.lt; clear hq7 hm7)
    | (refine wpList_store_mid rfl 25 (.tmp 6) (.tmp 118) rfl (w.heap.size + 1 + 1) 0 _ rfl rfl ?_ ?_ ?_ ?_
       · exact HKF.out.sw.there
       · exact info_cpu
       · exact cpuL_one ((⟨(C.signs x (M.mulN (x.c.r d) (x.c.r e1)) (M.mulC (x.c.r d) (x.c.r e1)) (false)).c.set d (M.mulN (x.c.r d) (x.c.r e1)), x.s, x.n⟩ : C.St σ)).c
       refine cutL (fun W => I W ((⟨(C.signs x (M.mulN (x.c.r d) (x.c.r e1)) (M.mulC (x.c.r d) (x.c.r e1)) (false)).c.set d (M.mulN (x.c.r d) (x.c.r e1)), x.s, x.n⟩ : C.St σ)).s ∧ Mv B (T s) (T ((⟨(C.signs x (M.mulN (x.c.r d) (x.c.r e1)) (M.mulC (x.c.r d) (x.c.r e1)) (false)).c.set d (M.mulN (x.c.r d) (x.c.r e1)), x.s, x.n⟩ : C.St σ)).s) w W ∧ W.rangeAt (w.heap.size + 1 + 1) 0 (cpuL ((⟨(C.signs x (M.mulN (x.c.r d) (x.c.r e1)) (M.mulC (x.c.r d) (x.c.r e1)) (false)).c.set d (M.mulN (x.c.r d) (x.c.r e1)), x.s, x.n⟩ : C.St σ)).c)) ?_ ?_
       · exact HKF.out.sw.fin HR.out hB (cpuL ((⟨(C.signs x (M.mulN (x.c.r d) (x.c.r e1)) (M.mulC (x.c.r d) (x.c.r e1)) (false)).c.set d (M.mulN (x.c.r d) (x.c.r e1)), x.s, x.n⟩ : C.St σ)).c) rfl
       rintro W ⟨hIW, hmW, hrW⟩))
  have hl := load_cpu W _ _ hrW
  refine bodyPost_ret (v := .tuple #[cpuV ((⟨(C.signs x (M.mulN (x.c.r d) (x.c.r e1)) (M.mulC (x.c.r d) (x.c.r e1)) (false)).c.set d (M.mulN (x.c.r d) (x.c.r e1)), x.s, x.n⟩ : C.St σ)).c, .int .i64 (K.cyc 28)]) ?_ rfl ⟨rfl, hIW, hmW⟩
  simp only [results, Tryz.results13]
  simp
  show (Result.andThen (Sem.run Tryz.prog (loadVar 25 ⟨w.heap.size + 1 + 1, 0, none⟩) W) _) = _
  rw [hl]
  rfl
end
section
variable {σ : Type} {m : C.Mem σ} {B bs : Nat} {I : World → σ → Prop} {T : σ → Nat → Prop}
set_option maxRecDepth 100000 in
set_option maxHeartbeats 3200000 in
theorem rrk_15 (R : QS m B bs I T) (w : World) (s : σ) (hB : B ≤ w.heap.size) (d e1 : Nat) (n v : Int) (hd : d < 8) (he : e1 < 8) (hn : -16 ≤ n ∧ n ≤ 15) (x : C.St σ) : Rest B bs I T w s 15 d e1 n v x (C.act m ⟨x.c, x.s, K.cyc 15⟩ 15 d e1 n v) := by
  intro bo kb wx u0 u1 u2 u5 u11 u13 u15 u16 u17 u18 u19 u20 u21 u22 u23 u24 u25 u26 u27 u28 u29 u30 u31 u32 u33 u34 u35 u36 u37 u38 u39 u40 u41 u42 u43 u44 u45 u46 u47 u48 u49 u50 u51 u52 u53 u54 u55 u56 u57 u58 u59 u60 u61 u62 u63 u64 u65 u66 u67 u68 u69 u70 u71 u72 u73 u74 u75 u76 u77 u78 u79 u80 u81 u82 u83 u84 u85 u86 u87 u88 u89 u90 u91 u92 u93 u94 u95 u96 u97 u98 u99 u100 u101 u102 u103 u104 u105 u106 u107 u108 u109 u110 u111 u112 u113 u114 u115 u116 u117 u118 u119 u120 u121 u122 u123 u124 u125 u126 u127 u128 u129 u130 u131 u132 u133 u134 u135 u136 u137 u138 u139 u140 u141 u142 u143 u144 u145 u146 u147 u148 u149 u150 u151 u152 u153 u154 u155 u156 u157 u158 u159 u160 u161 u162 u163 u164 u165 u166 u167 u168 u169 u170 u171 u172 u173 u174 u175 u176 u177 u178 u179 u180 u181 u182 u183 u184 u185 u186 u187 u188 u189 u190 u191 u192 u193 u194 u195 u196 u197 u198 u199 u200 u201 u202 u203 u204 u205 u206 u207 u208 u209 u210 u211 u212 u213 u214 u215 u216 u217 u218 u219 u220 u221 u222 u223 u224 u225 u226 u227 u228 u229 u230 u231 u232 u233 u234 u235 u236 u237 u238 u239 u240 u241 u242 u243 u244 u245 u246 u247 u248 u249 u250 u251 u252 u253 u254 u255 u256 u257 u258 u259 u260 u261 u262 u263 u264 u265 u266 u267 u268 u269 u270 u271 u272 u273 u274 u275 u276 u277 u278 u279 u280 u281 u282 u283 u284 u285 u286 u287 u288 u289 u290 u291 u292 u293 u294 u295 u296 u297 u298 u299 u300 hK
  have HR := hid R
  obtain ⟨o0, o1, o2, o3, o4, k0, k1, k2⟩ := hK.cells
  have hnm : K.name 15 = ⟨#[97, 100, 100, 105]⟩ := by kernel_rfl
  rw [hnm] at k0
  have zo := hK.ltO
  have zk := hK.ltK
  have zp := hK.sw.qc.lt
  have rd := hK.sw.qc.reg d hd
  have re := hK.sw.qc.reg e1 he
  obtain ⟨bd1, bd2⟩ := C.Cpu.r_bd hK.sw.qc.ok d
  obtain ⟨be1, be2⟩ := C.Cpu.r_bd hK.sw.qc.ok e1
  have hd0 : (0 : Int) ≤ d := by omega
  have hd1 : (d : Int) < 8 := by omega
  have he0 : (0 : Int) ≤ e1 := by omega
  have he1 : (e1 : Int) < 8 := by omega
  obtain ⟨hb1, hb2⟩ := M.addN_bd (x.c.r d) (n % 65536)
  have hnw : IntKind.u16.wrap n = n % 65536 := u16w n
  have HK := hid hK
  have HNM := hid hnm
  clear hK R hnm
  conv =>
    arg 2
    dsimp only [cTl, cSec, Tryz.f13, Option.getD]
  go_wp2
  go_region_held3 (fun w' => w'.cell? ⟨bo, 1, none⟩ = some (.int .i64 d) ∧ w'.cell? ⟨bo, 2, none⟩ = some (.int .i64 e1) ∧ w'.cell? ⟨w.heap.size, d, none⟩ = some (.int .u16 (x.c.r d)) ∧ w'.cell? ⟨w.heap.size, e1, none⟩ = some (.int .u16 (x.c.r e1)))
    ((go_keep; done))
    (fail)
  have KD := hid (HK.out.kept HR.out (st0 wx).drew)
  obtain ⟨r0, r1, r2, r3, r4, r5, r6, r7⟩ := HK.out.sw.qc.regs
  obtain ⟨r8, r9, r10, r11, r12, r13, r14⟩ := HK.out.sw.qc.cells
  go_wp2_with (first
    | (go_at_call 31; refine (res_add 15 _ _ _ bd1 bd2 (by omega) (by omega) (Or.inr rfl)).mono ?_; rintro e w5 ⟨rfl, hg5⟩; have K5 := hid (KD.out.kept HR.out hg5); obtain ⟨p0, p1, p2, p3, p4, l0, l1, l2⟩ := K5.out.cells; rw [HNM.out] at l0; have yo := K5.out.ltO; have yk := K5.out.ltK; clear hg5)
    | (go_at_call 30; refine (rsigns_any HR.out (M.addN (x.c.r d) (n % 65536)) hb1 hb2 (M.addC (x.c.r d) (n % 65536)) (M.addV (x.c.r d) (n % 65536)) _ _ _ x K5.out.sw.qc).mono ?_; rintro e w6 ⟨rfl, hq6, hm6⟩; have KM := hid (K5.out.step hq6 hm6); obtain ⟨_, oo1, _, _, _, ll0, _⟩ := KM.out.cells; rw [HNM.out] at ll0; have zo6 := KM.out.ltO; have zk6 := KM.out.ltK; clear hq6 hm6)
    | (go_at_call 29; refine (rset_any HR.out (M.addN (x.c.r d) (n % 65536)) hb1 hb2 d hd _ _ _ bo (C.signs x (M.addN (x.c.r d) (n % 65536)) (M.addC (x.c.r d) (n % 65536)) (M.addV (x.c.r d) (n % 65536))) KM.out.sw.qc oo1).mono ?_; rintro e w7 ⟨rfl, hq7, hm7⟩; have HKF := hid (KM.out.step hq7 hm7); clear r0 r1 r2 r3 r4 r5 r6 r7 r8 r9 r10 r11 r12 r13 r14; obtain ⟨r0, r1, r2, r3, r4, r5, r6, r7⟩ := hq7.regs; obtain ⟨r8, r9, r10, r11, r12, r13, r14⟩ := hq7.cells; have zp6 := hq7.lt; clear hq7 hm7)
    | (refine wpList_store_mid rfl 25 (.tmp 6) (.tmp 118) rfl (w.heap.size + 1 + 1) 0 _ rfl rfl ?_ ?_ ?_ ?_
       · exact HKF.out.sw.there
       · exact info_cpu
       · exact cpuL_one ((⟨(C.signs x (M.addN (x.c.r d) (n % 65536)) (M.addC (x.c.r d) (n % 65536)) (M.addV (x.c.r d) (n % 65536))).c.set d (M.addN (x.c.r d) (n % 65536)), x.s, x.n⟩ : C.St σ)).c
       refine cutL (fun W => I W ((⟨(C.signs x (M.addN (x.c.r d) (n % 65536)) (M.addC (x.c.r d) (n % 65536)) (M.addV (x.c.r d) (n % 65536))).c.set d (M.addN (x.c.r d) (n % 65536)), x.s, x.n⟩ : C.St σ)).s ∧ Mv B (T s) (T ((⟨(C.signs x (M.addN (x.c.r d) (n % 65536)) (M.addC (x.c.r d) (n % 65536)) (M.addV (x.c.r d) (n % 65536))).c.set d (M.addN (x.c.r d) (n % 65536)), x.s, x.n⟩ : C.St σ)).s) w W ∧ W.rangeAt (w.heap.size + 1 + 1) 0 (cpuL ((⟨(C.signs x (M.addN (x.c.r d) (n % 65536)) (M.addC (x.c.r d) (n % 65536)) (M.addV (x.c.r d) (n % 65536))).c.set d (M.addN (x.c.r d) (n % 65536)), x.s, x.n⟩ : C.St σ)).c)) ?_ ?_
       · exact HKF.out.sw.fin HR.out hB (cpuL ((⟨(C.signs x (M.addN (x.c.r d) (n % 65536)) (M.addC (x.c.r d) (n % 65536)) (M.addV (x.c.r d) (n % 65536))).c.set d (M.addN (x.c.r d) (n % 65536)), x.s, x.n⟩ : C.St σ)).c) rfl
       rintro W ⟨hIW, hmW, hrW⟩))
  have hl := load_cpu W _ _ hrW
  refine bodyPost_ret (v := .tuple #[cpuV ((⟨(C.signs x (M.addN (x.c.r d) (n % 65536)) (M.addC (x.c.r d) (n % 65536)) (M.addV (x.c.r d) (n % 65536))).c.set d (M.addN (x.c.r d) (n % 65536)), x.s, x.n⟩ : C.St σ)).c, .int .i64 (K.cyc 15)]) ?_ rfl ⟨rfl, hIW, hmW⟩
  simp only [results, Tryz.results13]
  simp
  show (Result.andThen (Sem.run Tryz.prog (loadVar 25 ⟨w.heap.size + 1 + 1, 0, none⟩) W) _) = _
  rw [hl]
  rfl
end
end Go.Proofs.YtombboeonffejaaGreatDoor
