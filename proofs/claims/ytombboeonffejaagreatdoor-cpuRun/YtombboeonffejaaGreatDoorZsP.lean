/-
  The reference's jumps.
-/
import Derived.Test.YtombboeonffejaaGreatDoorZsC
import Derived.Deep.DeepCutAuto
namespace Go.Proofs.YtombboeonffejaaGreatDoor
open Go.ChangeShapes Go.WideShapes Go.ChangeAt Go.RowKit
set_option linter.unusedVariables false

section
variable {σ : Type} {m : C.Mem σ} {B bs : Nat} {I : World → σ → Prop} {T : σ → Nat → Prop}
theorem under_jmap0 : Tryz.prog.underlying 76 = some (.map 9 4) := by kernel_rfl
set_option maxRecDepth 100000 in
set_option maxHeartbeats 3200000 in
theorem rjt_16 (R : QS m B bs I T) (w : World) (s : σ) (hB : B ≤ w.heap.size) (d e1 : Nat) (n v : Int) (hd : d < 8) (he : e1 < 8) (hn : -16 ≤ n ∧ n ≤ 15) (hv : 0 ≤ v ∧ v ≤ 65535) (x : C.St σ) (HZ : Hid (true = true)) : Rest2 B bs I T w s 16 d e1 n v x (C.jump ⟨x.c, x.s, K.cyc 16⟩ v) := by
  intro bo kb wx u0 u1 u2 u5 u11 u13 u20 u21 u22 u23 u24 u26 u27 u28 u29 u30 u31 u32 u33 u34 u35 u36 u37 u38 u39 u40 u41 u42 u43 u44 u45 u46 u47 u48 u49 u50 u51 u52 u53 u54 u55 u56 u57 u58 u59 u60 u61 u62 u63 u64 u65 u66 u67 u68 u69 u70 u71 u72 u73 u74 u75 u76 u77 u78 u79 u80 u81 u82 u83 u84 u85 u86 u87 u88 u89 u90 u91 u92 u93 u94 u95 u96 u97 u98 u99 u100 u101 u102 u103 u104 u105 u106 u107 u108 u109 u110 u111 u112 u113 u114 u115 u116 u117 u118 u119 u120 u121 u122 u123 u124 u125 u126 u127 u128 u129 u130 u131 u132 u133 u134 u135 u136 u137 u138 u139 u140 u141 u142 u143 u144 u145 u146 u147 u148 u149 u150 u151 u152 u153 u154 u155 u156 u157 u158 u159 u160 u161 u162 u163 u164 u165 u166 u167 u168 u169 u170 u171 u172 u173 u174 u175 u176 u177 u178 u179 u180 u181 u182 u183 u184 u185 u186 u187 u188 u189 u190 u191 u192 u193 u194 u195 u196 u197 u198 u199 u200 u201 u202 u203 u204 u205 u206 u207 u208 u209 u210 u211 u212 u213 u214 u215 u216 u217 u218 u219 u220 u221 u222 u223 u224 u225 u226 u227 u228 u229 u230 u231 u232 u233 u234 u235 u236 u237 u238 u239 u240 u241 u242 u243 u244 u245 u246 u247 u248 u249 u250 u251 u252 u253 u254 u255 u256 u257 u258 u259 u260 u261 u262 u263 u264 u265 u266 u267 u268 u269 u270 u271 u272 u273 u274 u275 u276 u277 u278 u279 u280 u281 u282 u283 u284 u285 u286 u287 u288 u289 u290 u291 u292 u293 u294 u295 u296 u297 u298 u299 u300 hK
  have HR := hid R
  obtain ⟨o0, o1, o2, o3, o4, k0, k1, k2⟩ := hK.cells
  have hnm : K.name 16 = ⟨#[106, 109, 112]⟩ := by kernel_rfl
  rw [hnm] at k0
  clear hnm
  have zo := hK.ltO
  have zk := hK.ltK
  have zp := hK.sw.qc.lt
  obtain ⟨r0, r1, r2, r3, r4, r5, r6, r7⟩ := hK.sw.qc.regs
  obtain ⟨r8, r9, r10, r11, r12, r13, r14⟩ := hK.sw.qc.cells
  have fp := hK.sw.qc.frozen
  have HK := hid hK
  clear hK R
  have hmm := @run_makeMap Tryz.prog
  have HNM : Hid (K.name 16 = ⟨#[106, 109, 112]⟩) := by show K.name 16 = ⟨#[106, 109, 112]⟩; kernel_rfl
  have hwc : IntKind.i64.wrap (K.cyc 16 + 1) = K.cyc 16 + 1 := by kernel_rfl
  conv =>
    arg 2
    dsimp only [cTl, cSec, Tryz.f13, Option.getD]
  go_wp2_with (first
    | (refine wpList_insert_b _ rfl _ (.const (.string ⟨#[106, 109, 112]⟩)) _ 76 rfl 9 4 under_jmap0 Tryz.underlying9 wx.heap.size [] rfl (mapB_made wx) ⟨#[106, 109, 112]⟩ true rfl rfl (by rfl) ?_; intro wj1 hm1 hg1; have HM1 := hid hm1; have HB1 : Hid (Below wx.heap.size wx wj1) := ((stA (st0 wx) (.map #[] 0)).grown hg1 (stA (st0 wx) (.map #[] 0)).size (fun j hj => Nat.le_of_eq (Option.some.inj hj))); clear hm1 hg1 r8 r9 r10 r11 r12 r13 r14; obtain ⟨r8, r9, r10, r11, r12, r13, r14⟩ := (HK.out.kept HR.out HB1.out).sw.qc.cells; clear zp; have zp := (HK.out.kept HR.out HB1.out).sw.qc.lt)
    | (refine wpList_insert_b _ rfl _ (.const (.string ⟨#[106, 122]⟩)) _ 76 rfl 9 4 under_jmap0 Tryz.underlying9 wx.heap.size [(⟨#[106, 109, 112]⟩, true)] rfl HM1.out ⟨#[106, 122]⟩ x.c.Z rfl rfl (by rfl) ?_; intro wj2 hm2 hg2; have HM2 := hid hm2; have HB2 : Hid (Below wx.heap.size wx wj2) := (HB1.out.grown hg2 HB1.out.size (fun j hj => Nat.le_of_eq (Option.some.inj hj))); clear hm2 hg2 r8 r9 r10 r11 r12 r13 r14; obtain ⟨r8, r9, r10, r11, r12, r13, r14⟩ := (HK.out.kept HR.out HB2.out).sw.qc.cells; clear zp; have zp := (HK.out.kept HR.out HB2.out).sw.qc.lt)
    | (refine wpList_insert_b _ rfl _ (.const (.string ⟨#[106, 110, 122]⟩)) _ 76 rfl 9 4 under_jmap0 Tryz.underlying9 wx.heap.size [(⟨#[106, 109, 112]⟩, true), (⟨#[106, 122]⟩, x.c.Z)] rfl HM2.out ⟨#[106, 110, 122]⟩ (!x.c.Z) rfl rfl (by rfl) ?_; intro wj3 hm3 hg3; have HM3 := hid hm3; have HB3 : Hid (Below wx.heap.size wx wj3) := (HB2.out.grown hg3 HB2.out.size (fun j hj => Nat.le_of_eq (Option.some.inj hj))); clear hm3 hg3 r8 r9 r10 r11 r12 r13 r14; obtain ⟨r8, r9, r10, r11, r12, r13, r14⟩ := (HK.out.kept HR.out HB3.out).sw.qc.cells; clear zp; have zp := (HK.out.kept HR.out HB3.out).sw.qc.lt)
    | (refine wpList_insert_b _ rfl _ (.const (.string ⟨#[106, 110]⟩)) _ 76 rfl 9 4 under_jmap0 Tryz.underlying9 wx.heap.size [(⟨#[106, 109, 112]⟩, true), (⟨#[106, 122]⟩, x.c.Z), (⟨#[106, 110, 122]⟩, (!x.c.Z))] rfl HM3.out ⟨#[106, 110]⟩ x.c.N rfl rfl (by rfl) ?_; intro wj4 hm4 hg4; have HM4 := hid hm4; have HB4 : Hid (Below wx.heap.size wx wj4) := (HB3.out.grown hg4 HB3.out.size (fun j hj => Nat.le_of_eq (Option.some.inj hj))); clear hm4 hg4 r8 r9 r10 r11 r12 r13 r14; obtain ⟨r8, r9, r10, r11, r12, r13, r14⟩ := (HK.out.kept HR.out HB4.out).sw.qc.cells; clear zp; have zp := (HK.out.kept HR.out HB4.out).sw.qc.lt)
    | (refine wpList_insert_b _ rfl _ (.const (.string ⟨#[106, 99]⟩)) _ 76 rfl 9 4 under_jmap0 Tryz.underlying9 wx.heap.size [(⟨#[106, 109, 112]⟩, true), (⟨#[106, 122]⟩, x.c.Z), (⟨#[106, 110, 122]⟩, (!x.c.Z)), (⟨#[106, 110]⟩, x.c.N)] rfl HM4.out ⟨#[106, 99]⟩ x.c.C rfl rfl (by rfl) ?_; intro wj5 hm5 hg5; have HM5 := hid hm5; have HB5 : Hid (Below wx.heap.size wx wj5) := (HB4.out.grown hg5 HB4.out.size (fun j hj => Nat.le_of_eq (Option.some.inj hj))); clear hm5 hg5 r8 r9 r10 r11 r12 r13 r14; obtain ⟨r8, r9, r10, r11, r12, r13, r14⟩ := (HK.out.kept HR.out HB5.out).sw.qc.cells; clear zp; have zp := (HK.out.kept HR.out HB5.out).sw.qc.lt; have HK5 := hid (HK.out.kept HR.out HB5.out); clear o0 o1 o2 o3 o4 k0 k1 k2 zo zk r0 r1 r2 r3 r4 r5 r6 r7; obtain ⟨r0, r1, r2, r3, r4, r5, r6, r7⟩ := HK5.out.sw.qc.regs; obtain ⟨o0, o1, o2, o3, o4, k0, k1, k2⟩ := HK5.out.cells; rw [HNM.out] at k0; have zo := HK5.out.ltO; have zk := HK5.out.ltK; have fp5 := HK5.out.sw.qc.frozen; have lk := lookup_b under_jmap0 Tryz.underlying9 HM5.out ⟨#[106, 109, 112]⟩ true (by rfl); rw [HZ.out] at lk; have HKF := hid (HK5.out.step (HK5.out.sw.qc.putPC HR.out v hv.1 hv.2) ((PM.refl B T _ x.s wj5).set HK5.out.sw.qc.big 8 _)))
    | (refine wpList_store_mid rfl 25 (.tmp 6) (.tmp 299) rfl (w.heap.size + 1 + 1) 0 _ rfl rfl ?_ ?_ ?_ ?_
       · exact HKF.out.sw.there
       · exact info_cpu
       · exact cpuL_one ((⟨{ x.c with PC := v }, x.s, x.n⟩ : C.St σ)).c
       refine cutL (fun W => I W ((⟨{ x.c with PC := v }, x.s, x.n⟩ : C.St σ)).s ∧ Mv B (T s) (T ((⟨{ x.c with PC := v }, x.s, x.n⟩ : C.St σ)).s) w W ∧ W.rangeAt (w.heap.size + 1 + 1) 0 (cpuL ((⟨{ x.c with PC := v }, x.s, x.n⟩ : C.St σ)).c)) ?_ ?_
       · exact HKF.out.sw.fin HR.out hB (cpuL ((⟨{ x.c with PC := v }, x.s, x.n⟩ : C.St σ)).c) rfl
       rintro W ⟨hIW, hmW, hrW⟩))
  have hl := load_cpu W _ _ hrW
  refine bodyPost_ret (v := .tuple #[cpuV ((⟨{ x.c with PC := v }, x.s, x.n⟩ : C.St σ)).c, .int .i64 (K.cyc 16 + 1)]) ?_ rfl ⟨rfl, hIW, hmW⟩
  simp only [results, Tryz.results13]
  simp
  show (Result.andThen (Sem.run Tryz.prog (loadVar 25 ⟨w.heap.size + 1 + 1, 0, none⟩) W) _) = _
  rw [hl]
  rfl
set_option maxRecDepth 100000 in
set_option maxHeartbeats 3200000 in
theorem rjt_17 (R : QS m B bs I T) (w : World) (s : σ) (hB : B ≤ w.heap.size) (d e1 : Nat) (n v : Int) (hd : d < 8) (he : e1 < 8) (hn : -16 ≤ n ∧ n ≤ 15) (hv : 0 ≤ v ∧ v ≤ 65535) (x : C.St σ) (HZ : Hid (x.c.Z = true)) : Rest2 B bs I T w s 17 d e1 n v x (C.jump ⟨x.c, x.s, K.cyc 17⟩ v) := by
  intro bo kb wx u0 u1 u2 u5 u11 u13 u20 u21 u22 u23 u24 u26 u27 u28 u29 u30 u31 u32 u33 u34 u35 u36 u37 u38 u39 u40 u41 u42 u43 u44 u45 u46 u47 u48 u49 u50 u51 u52 u53 u54 u55 u56 u57 u58 u59 u60 u61 u62 u63 u64 u65 u66 u67 u68 u69 u70 u71 u72 u73 u74 u75 u76 u77 u78 u79 u80 u81 u82 u83 u84 u85 u86 u87 u88 u89 u90 u91 u92 u93 u94 u95 u96 u97 u98 u99 u100 u101 u102 u103 u104 u105 u106 u107 u108 u109 u110 u111 u112 u113 u114 u115 u116 u117 u118 u119 u120 u121 u122 u123 u124 u125 u126 u127 u128 u129 u130 u131 u132 u133 u134 u135 u136 u137 u138 u139 u140 u141 u142 u143 u144 u145 u146 u147 u148 u149 u150 u151 u152 u153 u154 u155 u156 u157 u158 u159 u160 u161 u162 u163 u164 u165 u166 u167 u168 u169 u170 u171 u172 u173 u174 u175 u176 u177 u178 u179 u180 u181 u182 u183 u184 u185 u186 u187 u188 u189 u190 u191 u192 u193 u194 u195 u196 u197 u198 u199 u200 u201 u202 u203 u204 u205 u206 u207 u208 u209 u210 u211 u212 u213 u214 u215 u216 u217 u218 u219 u220 u221 u222 u223 u224 u225 u226 u227 u228 u229 u230 u231 u232 u233 u234 u235 u236 u237 u238 u239 u240 u241 u242 u243 u244 u245 u246 u247 u248 u249 u250 u251 u252 u253 u254 u255 u256 u257 u258 u259 u260 u261 u262 u263 u264 u265 u266 u267 u268 u269 u270 u271 u272 u273 u274 u275 u276 u277 u278 u279 u280 u281 u282 u283 u284 u285 u286 u287 u288 u289 u290 u291 u292 u293 u294 u295 u296 u297 u298 u299 u300 hK
  have HR := hid R
  obtain ⟨o0, o1, o2, o3, o4, k0, k1, k2⟩ := hK.cells
  have hnm : K.name 17 = ⟨#[106, 122]⟩ := by kernel_rfl
  rw [hnm] at k0
  clear hnm
  have zo := hK.ltO
  have zk := hK.ltK
  have zp := hK.sw.qc.lt
  obtain ⟨r0, r1, r2, r3, r4, r5, r6, r7⟩ := hK.sw.qc.regs
  obtain ⟨r8, r9, r10, r11, r12, r13, r14⟩ := hK.sw.qc.cells
  have fp := hK.sw.qc.frozen
  have HK := hid hK
  clear hK R
  have hmm := @run_makeMap Tryz.prog
  have HNM : Hid (K.name 17 = ⟨#[106, 122]⟩) := by show K.name 17 = ⟨#[106, 122]⟩; kernel_rfl
  have hwc : IntKind.i64.wrap (K.cyc 17 + 1) = K.cyc 17 + 1 := by kernel_rfl
  conv =>
    arg 2
    dsimp only [cTl, cSec, Tryz.f13, Option.getD]
  go_wp2_with (first
    | (refine wpList_insert_b _ rfl _ (.const (.string ⟨#[106, 109, 112]⟩)) _ 76 rfl 9 4 under_jmap0 Tryz.underlying9 wx.heap.size [] rfl (mapB_made wx) ⟨#[106, 109, 112]⟩ true rfl rfl (by rfl) ?_; intro wj1 hm1 hg1; have HM1 := hid hm1; have HB1 : Hid (Below wx.heap.size wx wj1) := ((stA (st0 wx) (.map #[] 0)).grown hg1 (stA (st0 wx) (.map #[] 0)).size (fun j hj => Nat.le_of_eq (Option.some.inj hj))); clear hm1 hg1 r8 r9 r10 r11 r12 r13 r14; obtain ⟨r8, r9, r10, r11, r12, r13, r14⟩ := (HK.out.kept HR.out HB1.out).sw.qc.cells; clear zp; have zp := (HK.out.kept HR.out HB1.out).sw.qc.lt)
    | (refine wpList_insert_b _ rfl _ (.const (.string ⟨#[106, 122]⟩)) _ 76 rfl 9 4 under_jmap0 Tryz.underlying9 wx.heap.size [(⟨#[106, 109, 112]⟩, true)] rfl HM1.out ⟨#[106, 122]⟩ x.c.Z rfl rfl (by rfl) ?_; intro wj2 hm2 hg2; have HM2 := hid hm2; have HB2 : Hid (Below wx.heap.size wx wj2) := (HB1.out.grown hg2 HB1.out.size (fun j hj => Nat.le_of_eq (Option.some.inj hj))); clear hm2 hg2 r8 r9 r10 r11 r12 r13 r14; obtain ⟨r8, r9, r10, r11, r12, r13, r14⟩ := (HK.out.kept HR.out HB2.out).sw.qc.cells; clear zp; have zp := (HK.out.kept HR.out HB2.out).sw.qc.lt)
    | (refine wpList_insert_b _ rfl _ (.const (.string ⟨#[106, 110, 122]⟩)) _ 76 rfl 9 4 under_jmap0 Tryz.underlying9 wx.heap.size [(⟨#[106, 109, 112]⟩, true), (⟨#[106, 122]⟩, x.c.Z)] rfl HM2.out ⟨#[106, 110, 122]⟩ (!x.c.Z) rfl rfl (by rfl) ?_; intro wj3 hm3 hg3; have HM3 := hid hm3; have HB3 : Hid (Below wx.heap.size wx wj3) := (HB2.out.grown hg3 HB2.out.size (fun j hj => Nat.le_of_eq (Option.some.inj hj))); clear hm3 hg3 r8 r9 r10 r11 r12 r13 r14; obtain ⟨r8, r9, r10, r11, r12, r13, r14⟩ := (HK.out.kept HR.out HB3.out).sw.qc.cells; clear zp; have zp := (HK.out.kept HR.out HB3.out).sw.qc.lt)
    | (refine wpList_insert_b _ rfl _ (.const (.string ⟨#[106, 110]⟩)) _ 76 rfl 9 4 under_jmap0 Tryz.underlying9 wx.heap.size [(⟨#[106, 109, 112]⟩, true), (⟨#[106, 122]⟩, x.c.Z), (⟨#[106, 110, 122]⟩, (!x.c.Z))] rfl HM3.out ⟨#[106, 110]⟩ x.c.N rfl rfl (by rfl) ?_; intro wj4 hm4 hg4; have HM4 := hid hm4; have HB4 : Hid (Below wx.heap.size wx wj4) := (HB3.out.grown hg4 HB3.out.size (fun j hj => Nat.le_of_eq (Option.some.inj hj))); clear hm4 hg4 r8 r9 r10 r11 r12 r13 r14; obtain ⟨r8, r9, r10, r11, r12, r13, r14⟩ := (HK.out.kept HR.out HB4.out).sw.qc.cells; clear zp; have zp := (HK.out.kept HR.out HB4.out).sw.qc.lt)
    | (refine wpList_insert_b _ rfl _ (.const (.string ⟨#[106, 99]⟩)) _ 76 rfl 9 4 under_jmap0 Tryz.underlying9 wx.heap.size [(⟨#[106, 109, 112]⟩, true), (⟨#[106, 122]⟩, x.c.Z), (⟨#[106, 110, 122]⟩, (!x.c.Z)), (⟨#[106, 110]⟩, x.c.N)] rfl HM4.out ⟨#[106, 99]⟩ x.c.C rfl rfl (by rfl) ?_; intro wj5 hm5 hg5; have HM5 := hid hm5; have HB5 : Hid (Below wx.heap.size wx wj5) := (HB4.out.grown hg5 HB4.out.size (fun j hj => Nat.le_of_eq (Option.some.inj hj))); clear hm5 hg5 r8 r9 r10 r11 r12 r13 r14; obtain ⟨r8, r9, r10, r11, r12, r13, r14⟩ := (HK.out.kept HR.out HB5.out).sw.qc.cells; clear zp; have zp := (HK.out.kept HR.out HB5.out).sw.qc.lt; have HK5 := hid (HK.out.kept HR.out HB5.out); clear o0 o1 o2 o3 o4 k0 k1 k2 zo zk r0 r1 r2 r3 r4 r5 r6 r7; obtain ⟨r0, r1, r2, r3, r4, r5, r6, r7⟩ := HK5.out.sw.qc.regs; obtain ⟨o0, o1, o2, o3, o4, k0, k1, k2⟩ := HK5.out.cells; rw [HNM.out] at k0; have zo := HK5.out.ltO; have zk := HK5.out.ltK; have fp5 := HK5.out.sw.qc.frozen; have lk := lookup_b under_jmap0 Tryz.underlying9 HM5.out ⟨#[106, 122]⟩ x.c.Z (by rfl); rw [HZ.out] at lk; have HKF := hid (HK5.out.step (HK5.out.sw.qc.putPC HR.out v hv.1 hv.2) ((PM.refl B T _ x.s wj5).set HK5.out.sw.qc.big 8 _)))
    | (refine wpList_store_mid rfl 25 (.tmp 6) (.tmp 299) rfl (w.heap.size + 1 + 1) 0 _ rfl rfl ?_ ?_ ?_ ?_
       · exact HKF.out.sw.there
       · exact info_cpu
       · exact cpuL_one ((⟨{ x.c with PC := v }, x.s, x.n⟩ : C.St σ)).c
       refine cutL (fun W => I W ((⟨{ x.c with PC := v }, x.s, x.n⟩ : C.St σ)).s ∧ Mv B (T s) (T ((⟨{ x.c with PC := v }, x.s, x.n⟩ : C.St σ)).s) w W ∧ W.rangeAt (w.heap.size + 1 + 1) 0 (cpuL ((⟨{ x.c with PC := v }, x.s, x.n⟩ : C.St σ)).c)) ?_ ?_
       · exact HKF.out.sw.fin HR.out hB (cpuL ((⟨{ x.c with PC := v }, x.s, x.n⟩ : C.St σ)).c) rfl
       rintro W ⟨hIW, hmW, hrW⟩))
  have hl := load_cpu W _ _ hrW
  refine bodyPost_ret (v := .tuple #[cpuV ((⟨{ x.c with PC := v }, x.s, x.n⟩ : C.St σ)).c, .int .i64 (K.cyc 17 + 1)]) ?_ rfl ⟨rfl, hIW, hmW⟩
  simp only [results, Tryz.results13]
  simp
  show (Result.andThen (Sem.run Tryz.prog (loadVar 25 ⟨w.heap.size + 1 + 1, 0, none⟩) W) _) = _
  rw [hl]
  rfl
set_option maxRecDepth 100000 in
set_option maxHeartbeats 3200000 in
theorem rjf_17 (R : QS m B bs I T) (w : World) (s : σ) (hB : B ≤ w.heap.size) (d e1 : Nat) (n v : Int) (hd : d < 8) (he : e1 < 8) (hn : -16 ≤ n ∧ n ≤ 15) (hv : 0 ≤ v ∧ v ≤ 65535) (x : C.St σ) (HZ : Hid (x.c.Z = false)) : Rest2 B bs I T w s 17 d e1 n v x (⟨x.c, x.s, K.cyc 17⟩ : C.St σ) := by
  intro bo kb wx u0 u1 u2 u5 u11 u13 u20 u21 u22 u23 u24 u26 u27 u28 u29 u30 u31 u32 u33 u34 u35 u36 u37 u38 u39 u40 u41 u42 u43 u44 u45 u46 u47 u48 u49 u50 u51 u52 u53 u54 u55 u56 u57 u58 u59 u60 u61 u62 u63 u64 u65 u66 u67 u68 u69 u70 u71 u72 u73 u74 u75 u76 u77 u78 u79 u80 u81 u82 u83 u84 u85 u86 u87 u88 u89 u90 u91 u92 u93 u94 u95 u96 u97 u98 u99 u100 u101 u102 u103 u104 u105 u106 u107 u108 u109 u110 u111 u112 u113 u114 u115 u116 u117 u118 u119 u120 u121 u122 u123 u124 u125 u126 u127 u128 u129 u130 u131 u132 u133 u134 u135 u136 u137 u138 u139 u140 u141 u142 u143 u144 u145 u146 u147 u148 u149 u150 u151 u152 u153 u154 u155 u156 u157 u158 u159 u160 u161 u162 u163 u164 u165 u166 u167 u168 u169 u170 u171 u172 u173 u174 u175 u176 u177 u178 u179 u180 u181 u182 u183 u184 u185 u186 u187 u188 u189 u190 u191 u192 u193 u194 u195 u196 u197 u198 u199 u200 u201 u202 u203 u204 u205 u206 u207 u208 u209 u210 u211 u212 u213 u214 u215 u216 u217 u218 u219 u220 u221 u222 u223 u224 u225 u226 u227 u228 u229 u230 u231 u232 u233 u234 u235 u236 u237 u238 u239 u240 u241 u242 u243 u244 u245 u246 u247 u248 u249 u250 u251 u252 u253 u254 u255 u256 u257 u258 u259 u260 u261 u262 u263 u264 u265 u266 u267 u268 u269 u270 u271 u272 u273 u274 u275 u276 u277 u278 u279 u280 u281 u282 u283 u284 u285 u286 u287 u288 u289 u290 u291 u292 u293 u294 u295 u296 u297 u298 u299 u300 hK
  have HR := hid R
  obtain ⟨o0, o1, o2, o3, o4, k0, k1, k2⟩ := hK.cells
  have hnm : K.name 17 = ⟨#[106, 122]⟩ := by kernel_rfl
  rw [hnm] at k0
  clear hnm
  have zo := hK.ltO
  have zk := hK.ltK
  have zp := hK.sw.qc.lt
  obtain ⟨r0, r1, r2, r3, r4, r5, r6, r7⟩ := hK.sw.qc.regs
  obtain ⟨r8, r9, r10, r11, r12, r13, r14⟩ := hK.sw.qc.cells
  have fp := hK.sw.qc.frozen
  have HK := hid hK
  clear hK R
  have hmm := @run_makeMap Tryz.prog
  have HNM : Hid (K.name 17 = ⟨#[106, 122]⟩) := by show K.name 17 = ⟨#[106, 122]⟩; kernel_rfl
  have hwc : IntKind.i64.wrap (K.cyc 17 + 1) = K.cyc 17 + 1 := by kernel_rfl
  conv =>
    arg 2
    dsimp only [cTl, cSec, Tryz.f13, Option.getD]
  go_wp2_with (first
    | (refine wpList_insert_b _ rfl _ (.const (.string ⟨#[106, 109, 112]⟩)) _ 76 rfl 9 4 under_jmap0 Tryz.underlying9 wx.heap.size [] rfl (mapB_made wx) ⟨#[106, 109, 112]⟩ true rfl rfl (by rfl) ?_; intro wj1 hm1 hg1; have HM1 := hid hm1; have HB1 : Hid (Below wx.heap.size wx wj1) := ((stA (st0 wx) (.map #[] 0)).grown hg1 (stA (st0 wx) (.map #[] 0)).size (fun j hj => Nat.le_of_eq (Option.some.inj hj))); clear hm1 hg1 r8 r9 r10 r11 r12 r13 r14; obtain ⟨r8, r9, r10, r11, r12, r13, r14⟩ := (HK.out.kept HR.out HB1.out).sw.qc.cells; clear zp; have zp := (HK.out.kept HR.out HB1.out).sw.qc.lt)
    | (refine wpList_insert_b _ rfl _ (.const (.string ⟨#[106, 122]⟩)) _ 76 rfl 9 4 under_jmap0 Tryz.underlying9 wx.heap.size [(⟨#[106, 109, 112]⟩, true)] rfl HM1.out ⟨#[106, 122]⟩ x.c.Z rfl rfl (by rfl) ?_; intro wj2 hm2 hg2; have HM2 := hid hm2; have HB2 : Hid (Below wx.heap.size wx wj2) := (HB1.out.grown hg2 HB1.out.size (fun j hj => Nat.le_of_eq (Option.some.inj hj))); clear hm2 hg2 r8 r9 r10 r11 r12 r13 r14; obtain ⟨r8, r9, r10, r11, r12, r13, r14⟩ := (HK.out.kept HR.out HB2.out).sw.qc.cells; clear zp; have zp := (HK.out.kept HR.out HB2.out).sw.qc.lt)
    | (refine wpList_insert_b _ rfl _ (.const (.string ⟨#[106, 110, 122]⟩)) _ 76 rfl 9 4 under_jmap0 Tryz.underlying9 wx.heap.size [(⟨#[106, 109, 112]⟩, true), (⟨#[106, 122]⟩, x.c.Z)] rfl HM2.out ⟨#[106, 110, 122]⟩ (!x.c.Z) rfl rfl (by rfl) ?_; intro wj3 hm3 hg3; have HM3 := hid hm3; have HB3 : Hid (Below wx.heap.size wx wj3) := (HB2.out.grown hg3 HB2.out.size (fun j hj => Nat.le_of_eq (Option.some.inj hj))); clear hm3 hg3 r8 r9 r10 r11 r12 r13 r14; obtain ⟨r8, r9, r10, r11, r12, r13, r14⟩ := (HK.out.kept HR.out HB3.out).sw.qc.cells; clear zp; have zp := (HK.out.kept HR.out HB3.out).sw.qc.lt)
    | (refine wpList_insert_b _ rfl _ (.const (.string ⟨#[106, 110]⟩)) _ 76 rfl 9 4 under_jmap0 Tryz.underlying9 wx.heap.size [(⟨#[106, 109, 112]⟩, true), (⟨#[106, 122]⟩, x.c.Z), (⟨#[106, 110, 122]⟩, (!x.c.Z))] rfl HM3.out ⟨#[106, 110]⟩ x.c.N rfl rfl (by rfl) ?_; intro wj4 hm4 hg4; have HM4 := hid hm4; have HB4 : Hid (Below wx.heap.size wx wj4) := (HB3.out.grown hg4 HB3.out.size (fun j hj => Nat.le_of_eq (Option.some.inj hj))); clear hm4 hg4 r8 r9 r10 r11 r12 r13 r14; obtain ⟨r8, r9, r10, r11, r12, r13, r14⟩ := (HK.out.kept HR.out HB4.out).sw.qc.cells; clear zp; have zp := (HK.out.kept HR.out HB4.out).sw.qc.lt)
    | (refine wpList_insert_b _ rfl _ (.const (.string ⟨#[106, 99]⟩)) _ 76 rfl 9 4 under_jmap0 Tryz.underlying9 wx.heap.size [(⟨#[106, 109, 112]⟩, true), (⟨#[106, 122]⟩, x.c.Z), (⟨#[106, 110, 122]⟩, (!x.c.Z)), (⟨#[106, 110]⟩, x.c.N)] rfl HM4.out ⟨#[106, 99]⟩ x.c.C rfl rfl (by rfl) ?_; intro wj5 hm5 hg5; have HM5 := hid hm5; have HB5 : Hid (Below wx.heap.size wx wj5) := (HB4.out.grown hg5 HB4.out.size (fun j hj => Nat.le_of_eq (Option.some.inj hj))); clear hm5 hg5 r8 r9 r10 r11 r12 r13 r14; obtain ⟨r8, r9, r10, r11, r12, r13, r14⟩ := (HK.out.kept HR.out HB5.out).sw.qc.cells; clear zp; have zp := (HK.out.kept HR.out HB5.out).sw.qc.lt; have HK5 := hid (HK.out.kept HR.out HB5.out); clear o0 o1 o2 o3 o4 k0 k1 k2 zo zk r0 r1 r2 r3 r4 r5 r6 r7; obtain ⟨r0, r1, r2, r3, r4, r5, r6, r7⟩ := HK5.out.sw.qc.regs; obtain ⟨o0, o1, o2, o3, o4, k0, k1, k2⟩ := HK5.out.cells; rw [HNM.out] at k0; have zo := HK5.out.ltO; have zk := HK5.out.ltK; have fp5 := HK5.out.sw.qc.frozen; have lk := lookup_b under_jmap0 Tryz.underlying9 HM5.out ⟨#[106, 122]⟩ x.c.Z (by rfl); rw [HZ.out] at lk; have HKF := HK5)
    | (refine wpList_store_mid rfl 25 (.tmp 6) (.tmp 299) rfl (w.heap.size + 1 + 1) 0 _ rfl rfl ?_ ?_ ?_ ?_
       · exact HKF.out.sw.there
       · exact info_cpu
       · exact cpuL_one (x).c
       refine cutL (fun W => I W (x).s ∧ Mv B (T s) (T (x).s) w W ∧ W.rangeAt (w.heap.size + 1 + 1) 0 (cpuL (x).c)) ?_ ?_
       · exact HKF.out.sw.fin HR.out hB (cpuL (x).c) rfl
       rintro W ⟨hIW, hmW, hrW⟩))
  have hl := load_cpu W _ _ hrW
  refine bodyPost_ret (v := .tuple #[cpuV (x).c, .int .i64 (K.cyc 17)]) ?_ rfl ⟨rfl, hIW, hmW⟩
  simp only [results, Tryz.results13]
  simp
  show (Result.andThen (Sem.run Tryz.prog (loadVar 25 ⟨w.heap.size + 1 + 1, 0, none⟩) W) _) = _
  rw [hl]
  rfl
end
section
variable {σ : Type} {m : C.Mem σ} {B bs : Nat} {I : World → σ → Prop} {T : σ → Nat → Prop}
theorem under_jmap1 : Tryz.prog.underlying 76 = some (.map 9 4) := by kernel_rfl
set_option maxRecDepth 100000 in
set_option maxHeartbeats 3200000 in
theorem rjt_18 (R : QS m B bs I T) (w : World) (s : σ) (hB : B ≤ w.heap.size) (d e1 : Nat) (n v : Int) (hd : d < 8) (he : e1 < 8) (hn : -16 ≤ n ∧ n ≤ 15) (hv : 0 ≤ v ∧ v ≤ 65535) (x : C.St σ) (HZ : Hid (x.c.N = true)) : Rest2 B bs I T w s 18 d e1 n v x (C.jump ⟨x.c, x.s, K.cyc 18⟩ v) := by
  intro bo kb wx u0 u1 u2 u5 u11 u13 u20 u21 u22 u23 u24 u26 u27 u28 u29 u30 u31 u32 u33 u34 u35 u36 u37 u38 u39 u40 u41 u42 u43 u44 u45 u46 u47 u48 u49 u50 u51 u52 u53 u54 u55 u56 u57 u58 u59 u60 u61 u62 u63 u64 u65 u66 u67 u68 u69 u70 u71 u72 u73 u74 u75 u76 u77 u78 u79 u80 u81 u82 u83 u84 u85 u86 u87 u88 u89 u90 u91 u92 u93 u94 u95 u96 u97 u98 u99 u100 u101 u102 u103 u104 u105 u106 u107 u108 u109 u110 u111 u112 u113 u114 u115 u116 u117 u118 u119 u120 u121 u122 u123 u124 u125 u126 u127 u128 u129 u130 u131 u132 u133 u134 u135 u136 u137 u138 u139 u140 u141 u142 u143 u144 u145 u146 u147 u148 u149 u150 u151 u152 u153 u154 u155 u156 u157 u158 u159 u160 u161 u162 u163 u164 u165 u166 u167 u168 u169 u170 u171 u172 u173 u174 u175 u176 u177 u178 u179 u180 u181 u182 u183 u184 u185 u186 u187 u188 u189 u190 u191 u192 u193 u194 u195 u196 u197 u198 u199 u200 u201 u202 u203 u204 u205 u206 u207 u208 u209 u210 u211 u212 u213 u214 u215 u216 u217 u218 u219 u220 u221 u222 u223 u224 u225 u226 u227 u228 u229 u230 u231 u232 u233 u234 u235 u236 u237 u238 u239 u240 u241 u242 u243 u244 u245 u246 u247 u248 u249 u250 u251 u252 u253 u254 u255 u256 u257 u258 u259 u260 u261 u262 u263 u264 u265 u266 u267 u268 u269 u270 u271 u272 u273 u274 u275 u276 u277 u278 u279 u280 u281 u282 u283 u284 u285 u286 u287 u288 u289 u290 u291 u292 u293 u294 u295 u296 u297 u298 u299 u300 hK
  have HR := hid R
  obtain ⟨o0, o1, o2, o3, o4, k0, k1, k2⟩ := hK.cells
  have hnm : K.name 18 = ⟨#[106, 110]⟩ := by kernel_rfl
  rw [hnm] at k0
  clear hnm
  have zo := hK.ltO
  have zk := hK.ltK
  have zp := hK.sw.qc.lt
  obtain ⟨r0, r1, r2, r3, r4, r5, r6, r7⟩ := hK.sw.qc.regs
  obtain ⟨r8, r9, r10, r11, r12, r13, r14⟩ := hK.sw.qc.cells
  have fp := hK.sw.qc.frozen
  have HK := hid hK
  clear hK R
  have hmm := @run_makeMap Tryz.prog
  have HNM : Hid (K.name 18 = ⟨#[106, 110]⟩) := by show K.name 18 = ⟨#[106, 110]⟩; kernel_rfl
  have hwc : IntKind.i64.wrap (K.cyc 18 + 1) = K.cyc 18 + 1 := by kernel_rfl
  conv =>
    arg 2
    dsimp only [cTl, cSec, Tryz.f13, Option.getD]
  go_wp2_with (first
    | (refine wpList_insert_b _ rfl _ (.const (.string ⟨#[106, 109, 112]⟩)) _ 76 rfl 9 4 under_jmap1 Tryz.underlying9 wx.heap.size [] rfl (mapB_made wx) ⟨#[106, 109, 112]⟩ true rfl rfl (by rfl) ?_; intro wj1 hm1 hg1; have HM1 := hid hm1; have HB1 : Hid (Below wx.heap.size wx wj1) := ((stA (st0 wx) (.map #[] 0)).grown hg1 (stA (st0 wx) (.map #[] 0)).size (fun j hj => Nat.le_of_eq (Option.some.inj hj))); clear hm1 hg1 r8 r9 r10 r11 r12 r13 r14; obtain ⟨r8, r9, r10, r11, r12, r13, r14⟩ := (HK.out.kept HR.out HB1.out).sw.qc.cells; clear zp; have zp := (HK.out.kept HR.out HB1.out).sw.qc.lt)
    | (refine wpList_insert_b _ rfl _ (.const (.string ⟨#[106, 122]⟩)) _ 76 rfl 9 4 under_jmap1 Tryz.underlying9 wx.heap.size [(⟨#[106, 109, 112]⟩, true)] rfl HM1.out ⟨#[106, 122]⟩ x.c.Z rfl rfl (by rfl) ?_; intro wj2 hm2 hg2; have HM2 := hid hm2; have HB2 : Hid (Below wx.heap.size wx wj2) := (HB1.out.grown hg2 HB1.out.size (fun j hj => Nat.le_of_eq (Option.some.inj hj))); clear hm2 hg2 r8 r9 r10 r11 r12 r13 r14; obtain ⟨r8, r9, r10, r11, r12, r13, r14⟩ := (HK.out.kept HR.out HB2.out).sw.qc.cells; clear zp; have zp := (HK.out.kept HR.out HB2.out).sw.qc.lt)
    | (refine wpList_insert_b _ rfl _ (.const (.string ⟨#[106, 110, 122]⟩)) _ 76 rfl 9 4 under_jmap1 Tryz.underlying9 wx.heap.size [(⟨#[106, 109, 112]⟩, true), (⟨#[106, 122]⟩, x.c.Z)] rfl HM2.out ⟨#[106, 110, 122]⟩ (!x.c.Z) rfl rfl (by rfl) ?_; intro wj3 hm3 hg3; have HM3 := hid hm3; have HB3 : Hid (Below wx.heap.size wx wj3) := (HB2.out.grown hg3 HB2.out.size (fun j hj => Nat.le_of_eq (Option.some.inj hj))); clear hm3 hg3 r8 r9 r10 r11 r12 r13 r14; obtain ⟨r8, r9, r10, r11, r12, r13, r14⟩ := (HK.out.kept HR.out HB3.out).sw.qc.cells; clear zp; have zp := (HK.out.kept HR.out HB3.out).sw.qc.lt)
    | (refine wpList_insert_b _ rfl _ (.const (.string ⟨#[106, 110]⟩)) _ 76 rfl 9 4 under_jmap1 Tryz.underlying9 wx.heap.size [(⟨#[106, 109, 112]⟩, true), (⟨#[106, 122]⟩, x.c.Z), (⟨#[106, 110, 122]⟩, (!x.c.Z))] rfl HM3.out ⟨#[106, 110]⟩ x.c.N rfl rfl (by rfl) ?_; intro wj4 hm4 hg4; have HM4 := hid hm4; have HB4 : Hid (Below wx.heap.size wx wj4) := (HB3.out.grown hg4 HB3.out.size (fun j hj => Nat.le_of_eq (Option.some.inj hj))); clear hm4 hg4 r8 r9 r10 r11 r12 r13 r14; obtain ⟨r8, r9, r10, r11, r12, r13, r14⟩ := (HK.out.kept HR.out HB4.out).sw.qc.cells; clear zp; have zp := (HK.out.kept HR.out HB4.out).sw.qc.lt)
    | (refine wpList_insert_b _ rfl _ (.const (.string ⟨#[106, 99]⟩)) _ 76 rfl 9 4 under_jmap1 Tryz.underlying9 wx.heap.size [(⟨#[106, 109, 112]⟩, true), (⟨#[106, 122]⟩, x.c.Z), (⟨#[106, 110, 122]⟩, (!x.c.Z)), (⟨#[106, 110]⟩, x.c.N)] rfl HM4.out ⟨#[106, 99]⟩ x.c.C rfl rfl (by rfl) ?_; intro wj5 hm5 hg5; have HM5 := hid hm5; have HB5 : Hid (Below wx.heap.size wx wj5) := (HB4.out.grown hg5 HB4.out.size (fun j hj => Nat.le_of_eq (Option.some.inj hj))); clear hm5 hg5 r8 r9 r10 r11 r12 r13 r14; obtain ⟨r8, r9, r10, r11, r12, r13, r14⟩ := (HK.out.kept HR.out HB5.out).sw.qc.cells; clear zp; have zp := (HK.out.kept HR.out HB5.out).sw.qc.lt; have HK5 := hid (HK.out.kept HR.out HB5.out); clear o0 o1 o2 o3 o4 k0 k1 k2 zo zk r0 r1 r2 r3 r4 r5 r6 r7; obtain ⟨r0, r1, r2, r3, r4, r5, r6, r7⟩ := HK5.out.sw.qc.regs; obtain ⟨o0, o1, o2, o3, o4, k0, k1, k2⟩ := HK5.out.cells; rw [HNM.out] at k0; have zo := HK5.out.ltO; have zk := HK5.out.ltK; have fp5 := HK5.out.sw.qc.frozen; have lk := lookup_b under_jmap1 Tryz.underlying9 HM5.out ⟨#[106, 110]⟩ x.c.N (by rfl); rw [HZ.out] at lk; have HKF := hid (HK5.out.step (HK5.out.sw.qc.putPC HR.out v hv.1 hv.2) ((PM.refl B T _ x.s wj5).set HK5.out.sw.qc.big 8 _)))
    | (refine wpList_store_mid rfl 25 (.tmp 6) (.tmp 299) rfl (w.heap.size + 1 + 1) 0 _ rfl rfl ?_ ?_ ?_ ?_
       · exact HKF.out.sw.there
       · exact info_cpu
       · exact cpuL_one ((⟨{ x.c with PC := v }, x.s, x.n⟩ : C.St σ)).c
       refine cutL (fun W => I W ((⟨{ x.c with PC := v }, x.s, x.n⟩ : C.St σ)).s ∧ Mv B (T s) (T ((⟨{ x.c with PC := v }, x.s, x.n⟩ : C.St σ)).s) w W ∧ W.rangeAt (w.heap.size + 1 + 1) 0 (cpuL ((⟨{ x.c with PC := v }, x.s, x.n⟩ : C.St σ)).c)) ?_ ?_
       · exact HKF.out.sw.fin HR.out hB (cpuL ((⟨{ x.c with PC := v }, x.s, x.n⟩ : C.St σ)).c) rfl
       rintro W ⟨hIW, hmW, hrW⟩))
  have hl := load_cpu W _ _ hrW
  refine bodyPost_ret (v := .tuple #[cpuV ((⟨{ x.c with PC := v }, x.s, x.n⟩ : C.St σ)).c, .int .i64 (K.cyc 18 + 1)]) ?_ rfl ⟨rfl, hIW, hmW⟩
  simp only [results, Tryz.results13]
  simp
  show (Result.andThen (Sem.run Tryz.prog (loadVar 25 ⟨w.heap.size + 1 + 1, 0, none⟩) W) _) = _
  rw [hl]
  rfl
set_option maxRecDepth 100000 in
set_option maxHeartbeats 3200000 in
theorem rjf_18 (R : QS m B bs I T) (w : World) (s : σ) (hB : B ≤ w.heap.size) (d e1 : Nat) (n v : Int) (hd : d < 8) (he : e1 < 8) (hn : -16 ≤ n ∧ n ≤ 15) (hv : 0 ≤ v ∧ v ≤ 65535) (x : C.St σ) (HZ : Hid (x.c.N = false)) : Rest2 B bs I T w s 18 d e1 n v x (⟨x.c, x.s, K.cyc 18⟩ : C.St σ) := by
  intro bo kb wx u0 u1 u2 u5 u11 u13 u20 u21 u22 u23 u24 u26 u27 u28 u29 u30 u31 u32 u33 u34 u35 u36 u37 u38 u39 u40 u41 u42 u43 u44 u45 u46 u47 u48 u49 u50 u51 u52 u53 u54 u55 u56 u57 u58 u59 u60 u61 u62 u63 u64 u65 u66 u67 u68 u69 u70 u71 u72 u73 u74 u75 u76 u77 u78 u79 u80 u81 u82 u83 u84 u85 u86 u87 u88 u89 u90 u91 u92 u93 u94 u95 u96 u97 u98 u99 u100 u101 u102 u103 u104 u105 u106 u107 u108 u109 u110 u111 u112 u113 u114 u115 u116 u117 u118 u119 u120 u121 u122 u123 u124 u125 u126 u127 u128 u129 u130 u131 u132 u133 u134 u135 u136 u137 u138 u139 u140 u141 u142 u143 u144 u145 u146 u147 u148 u149 u150 u151 u152 u153 u154 u155 u156 u157 u158 u159 u160 u161 u162 u163 u164 u165 u166 u167 u168 u169 u170 u171 u172 u173 u174 u175 u176 u177 u178 u179 u180 u181 u182 u183 u184 u185 u186 u187 u188 u189 u190 u191 u192 u193 u194 u195 u196 u197 u198 u199 u200 u201 u202 u203 u204 u205 u206 u207 u208 u209 u210 u211 u212 u213 u214 u215 u216 u217 u218 u219 u220 u221 u222 u223 u224 u225 u226 u227 u228 u229 u230 u231 u232 u233 u234 u235 u236 u237 u238 u239 u240 u241 u242 u243 u244 u245 u246 u247 u248 u249 u250 u251 u252 u253 u254 u255 u256 u257 u258 u259 u260 u261 u262 u263 u264 u265 u266 u267 u268 u269 u270 u271 u272 u273 u274 u275 u276 u277 u278 u279 u280 u281 u282 u283 u284 u285 u286 u287 u288 u289 u290 u291 u292 u293 u294 u295 u296 u297 u298 u299 u300 hK
  have HR := hid R
  obtain ⟨o0, o1, o2, o3, o4, k0, k1, k2⟩ := hK.cells
  have hnm : K.name 18 = ⟨#[106, 110]⟩ := by kernel_rfl
  rw [hnm] at k0
  clear hnm
  have zo := hK.ltO
  have zk := hK.ltK
  have zp := hK.sw.qc.lt
  obtain ⟨r0, r1, r2, r3, r4, r5, r6, r7⟩ := hK.sw.qc.regs
  obtain ⟨r8, r9, r10, r11, r12, r13, r14⟩ := hK.sw.qc.cells
  have fp := hK.sw.qc.frozen
  have HK := hid hK
  clear hK R
  have hmm := @run_makeMap Tryz.prog
  have HNM : Hid (K.name 18 = ⟨#[106, 110]⟩) := by show K.name 18 = ⟨#[106, 110]⟩; kernel_rfl
  have hwc : IntKind.i64.wrap (K.cyc 18 + 1) = K.cyc 18 + 1 := by kernel_rfl
  conv =>
    arg 2
    dsimp only [cTl, cSec, Tryz.f13, Option.getD]
  go_wp2_with (first
    | (refine wpList_insert_b _ rfl _ (.const (.string ⟨#[106, 109, 112]⟩)) _ 76 rfl 9 4 under_jmap1 Tryz.underlying9 wx.heap.size [] rfl (mapB_made wx) ⟨#[106, 109, 112]⟩ true rfl rfl (by rfl) ?_; intro wj1 hm1 hg1; have HM1 := hid hm1; have HB1 : Hid (Below wx.heap.size wx wj1) := ((stA (st0 wx) (.map #[] 0)).grown hg1 (stA (st0 wx) (.map #[] 0)).size (fun j hj => Nat.le_of_eq (Option.some.inj hj))); clear hm1 hg1 r8 r9 r10 r11 r12 r13 r14; obtain ⟨r8, r9, r10, r11, r12, r13, r14⟩ := (HK.out.kept HR.out HB1.out).sw.qc.cells; clear zp; have zp := (HK.out.kept HR.out HB1.out).sw.qc.lt)
    | (refine wpList_insert_b _ rfl _ (.const (.string ⟨#[106, 122]⟩)) _ 76 rfl 9 4 under_jmap1 Tryz.underlying9 wx.heap.size [(⟨#[106, 109, 112]⟩, true)] rfl HM1.out ⟨#[106, 122]⟩ x.c.Z rfl rfl (by rfl) ?_; intro wj2 hm2 hg2; have HM2 := hid hm2; have HB2 : Hid (Below wx.heap.size wx wj2) := (HB1.out.grown hg2 HB1.out.size (fun j hj => Nat.le_of_eq (Option.some.inj hj))); clear hm2 hg2 r8 r9 r10 r11 r12 r13 r14; obtain ⟨r8, r9, r10, r11, r12, r13, r14⟩ := (HK.out.kept HR.out HB2.out).sw.qc.cells; clear zp; have zp := (HK.out.kept HR.out HB2.out).sw.qc.lt)
    | (refine wpList_insert_b _ rfl _ (.const (.string ⟨#[106, 110, 122]⟩)) _ 76 rfl 9 4 under_jmap1 Tryz.underlying9 wx.heap.size [(⟨#[106, 109, 112]⟩, true), (⟨#[106, 122]⟩, x.c.Z)] rfl HM2.out ⟨#[106, 110, 122]⟩ (!x.c.Z) rfl rfl (by rfl) ?_; intro wj3 hm3 hg3; have HM3 := hid hm3; have HB3 : Hid (Below wx.heap.size wx wj3) := (HB2.out.grown hg3 HB2.out.size (fun j hj => Nat.le_of_eq (Option.some.inj hj))); clear hm3 hg3 r8 r9 r10 r11 r12 r13 r14; obtain ⟨r8, r9, r10, r11, r12, r13, r14⟩ := (HK.out.kept HR.out HB3.out).sw.qc.cells; clear zp; have zp := (HK.out.kept HR.out HB3.out).sw.qc.lt)
    | (refine wpList_insert_b _ rfl _ (.const (.string ⟨#[106, 110]⟩)) _ 76 rfl 9 4 under_jmap1 Tryz.underlying9 wx.heap.size [(⟨#[106, 109, 112]⟩, true), (⟨#[106, 122]⟩, x.c.Z), (⟨#[106, 110, 122]⟩, (!x.c.Z))] rfl HM3.out ⟨#[106, 110]⟩ x.c.N rfl rfl (by rfl) ?_; intro wj4 hm4 hg4; have HM4 := hid hm4; have HB4 : Hid (Below wx.heap.size wx wj4) := (HB3.out.grown hg4 HB3.out.size (fun j hj => Nat.le_of_eq (Option.some.inj hj))); clear hm4 hg4 r8 r9 r10 r11 r12 r13 r14; obtain ⟨r8, r9, r10, r11, r12, r13, r14⟩ := (HK.out.kept HR.out HB4.out).sw.qc.cells; clear zp; have zp := (HK.out.kept HR.out HB4.out).sw.qc.lt)
    | (refine wpList_insert_b _ rfl _ (.const (.string ⟨#[106, 99]⟩)) _ 76 rfl 9 4 under_jmap1 Tryz.underlying9 wx.heap.size [(⟨#[106, 109, 112]⟩, true), (⟨#[106, 122]⟩, x.c.Z), (⟨#[106, 110, 122]⟩, (!x.c.Z)), (⟨#[106, 110]⟩, x.c.N)] rfl HM4.out ⟨#[106, 99]⟩ x.c.C rfl rfl (by rfl) ?_; intro wj5 hm5 hg5; have HM5 := hid hm5; have HB5 : Hid (Below wx.heap.size wx wj5) := (HB4.out.grown hg5 HB4.out.size (fun j hj => Nat.le_of_eq (Option.some.inj hj))); clear hm5 hg5 r8 r9 r10 r11 r12 r13 r14; obtain ⟨r8, r9, r10, r11, r12, r13, r14⟩ := (HK.out.kept HR.out HB5.out).sw.qc.cells; clear zp; have zp := (HK.out.kept HR.out HB5.out).sw.qc.lt; have HK5 := hid (HK.out.kept HR.out HB5.out); clear o0 o1 o2 o3 o4 k0 k1 k2 zo zk r0 r1 r2 r3 r4 r5 r6 r7; obtain ⟨r0, r1, r2, r3, r4, r5, r6, r7⟩ := HK5.out.sw.qc.regs; obtain ⟨o0, o1, o2, o3, o4, k0, k1, k2⟩ := HK5.out.cells; rw [HNM.out] at k0; have zo := HK5.out.ltO; have zk := HK5.out.ltK; have fp5 := HK5.out.sw.qc.frozen; have lk := lookup_b under_jmap1 Tryz.underlying9 HM5.out ⟨#[106, 110]⟩ x.c.N (by rfl); rw [HZ.out] at lk; have HKF := HK5)
    | (refine wpList_store_mid rfl 25 (.tmp 6) (.tmp 299) rfl (w.heap.size + 1 + 1) 0 _ rfl rfl ?_ ?_ ?_ ?_
       · exact HKF.out.sw.there
       · exact info_cpu
       · exact cpuL_one (x).c
       refine cutL (fun W => I W (x).s ∧ Mv B (T s) (T (x).s) w W ∧ W.rangeAt (w.heap.size + 1 + 1) 0 (cpuL (x).c)) ?_ ?_
       · exact HKF.out.sw.fin HR.out hB (cpuL (x).c) rfl
       rintro W ⟨hIW, hmW, hrW⟩))
  have hl := load_cpu W _ _ hrW
  refine bodyPost_ret (v := .tuple #[cpuV (x).c, .int .i64 (K.cyc 18)]) ?_ rfl ⟨rfl, hIW, hmW⟩
  simp only [results, Tryz.results13]
  simp
  show (Result.andThen (Sem.run Tryz.prog (loadVar 25 ⟨w.heap.size + 1 + 1, 0, none⟩) W) _) = _
  rw [hl]
  rfl
set_option maxRecDepth 100000 in
set_option maxHeartbeats 3200000 in
theorem rjt_19 (R : QS m B bs I T) (w : World) (s : σ) (hB : B ≤ w.heap.size) (d e1 : Nat) (n v : Int) (hd : d < 8) (he : e1 < 8) (hn : -16 ≤ n ∧ n ≤ 15) (hv : 0 ≤ v ∧ v ≤ 65535) (x : C.St σ) (HZ : Hid (x.c.C = true)) : Rest2 B bs I T w s 19 d e1 n v x (C.jump ⟨x.c, x.s, K.cyc 19⟩ v) := by
  intro bo kb wx u0 u1 u2 u5 u11 u13 u20 u21 u22 u23 u24 u26 u27 u28 u29 u30 u31 u32 u33 u34 u35 u36 u37 u38 u39 u40 u41 u42 u43 u44 u45 u46 u47 u48 u49 u50 u51 u52 u53 u54 u55 u56 u57 u58 u59 u60 u61 u62 u63 u64 u65 u66 u67 u68 u69 u70 u71 u72 u73 u74 u75 u76 u77 u78 u79 u80 u81 u82 u83 u84 u85 u86 u87 u88 u89 u90 u91 u92 u93 u94 u95 u96 u97 u98 u99 u100 u101 u102 u103 u104 u105 u106 u107 u108 u109 u110 u111 u112 u113 u114 u115 u116 u117 u118 u119 u120 u121 u122 u123 u124 u125 u126 u127 u128 u129 u130 u131 u132 u133 u134 u135 u136 u137 u138 u139 u140 u141 u142 u143 u144 u145 u146 u147 u148 u149 u150 u151 u152 u153 u154 u155 u156 u157 u158 u159 u160 u161 u162 u163 u164 u165 u166 u167 u168 u169 u170 u171 u172 u173 u174 u175 u176 u177 u178 u179 u180 u181 u182 u183 u184 u185 u186 u187 u188 u189 u190 u191 u192 u193 u194 u195 u196 u197 u198 u199 u200 u201 u202 u203 u204 u205 u206 u207 u208 u209 u210 u211 u212 u213 u214 u215 u216 u217 u218 u219 u220 u221 u222 u223 u224 u225 u226 u227 u228 u229 u230 u231 u232 u233 u234 u235 u236 u237 u238 u239 u240 u241 u242 u243 u244 u245 u246 u247 u248 u249 u250 u251 u252 u253 u254 u255 u256 u257 u258 u259 u260 u261 u262 u263 u264 u265 u266 u267 u268 u269 u270 u271 u272 u273 u274 u275 u276 u277 u278 u279 u280 u281 u282 u283 u284 u285 u286 u287 u288 u289 u290 u291 u292 u293 u294 u295 u296 u297 u298 u299 u300 hK
  have HR := hid R
  obtain ⟨o0, o1, o2, o3, o4, k0, k1, k2⟩ := hK.cells
  have hnm : K.name 19 = ⟨#[106, 99]⟩ := by kernel_rfl
  rw [hnm] at k0
  clear hnm
  have zo := hK.ltO
  have zk := hK.ltK
  have zp := hK.sw.qc.lt
  obtain ⟨r0, r1, r2, r3, r4, r5, r6, r7⟩ := hK.sw.qc.regs
  obtain ⟨r8, r9, r10, r11, r12, r13, r14⟩ := hK.sw.qc.cells
  have fp := hK.sw.qc.frozen
  have HK := hid hK
  clear hK R
  have hmm := @run_makeMap Tryz.prog
  have HNM : Hid (K.name 19 = ⟨#[106, 99]⟩) := by show K.name 19 = ⟨#[106, 99]⟩; kernel_rfl
  have hwc : IntKind.i64.wrap (K.cyc 19 + 1) = K.cyc 19 + 1 := by kernel_rfl
  conv =>
    arg 2
    dsimp only [cTl, cSec, Tryz.f13, Option.getD]
  go_wp2_with (first
    | (refine wpList_insert_b _ rfl _ (.const (.string ⟨#[106, 109, 112]⟩)) _ 76 rfl 9 4 under_jmap1 Tryz.underlying9 wx.heap.size [] rfl (mapB_made wx) ⟨#[106, 109, 112]⟩ true rfl rfl (by rfl) ?_; intro wj1 hm1 hg1; have HM1 := hid hm1; have HB1 : Hid (Below wx.heap.size wx wj1) := ((stA (st0 wx) (.map #[] 0)).grown hg1 (stA (st0 wx) (.map #[] 0)).size (fun j hj => Nat.le_of_eq (Option.some.inj hj))); clear hm1 hg1 r8 r9 r10 r11 r12 r13 r14; obtain ⟨r8, r9, r10, r11, r12, r13, r14⟩ := (HK.out.kept HR.out HB1.out).sw.qc.cells; clear zp; have zp := (HK.out.kept HR.out HB1.out).sw.qc.lt)
    | (refine wpList_insert_b _ rfl _ (.const (.string ⟨#[106, 122]⟩)) _ 76 rfl 9 4 under_jmap1 Tryz.underlying9 wx.heap.size [(⟨#[106, 109, 112]⟩, true)] rfl HM1.out ⟨#[106, 122]⟩ x.c.Z rfl rfl (by rfl) ?_; intro wj2 hm2 hg2; have HM2 := hid hm2; have HB2 : Hid (Below wx.heap.size wx wj2) := (HB1.out.grown hg2 HB1.out.size (fun j hj => Nat.le_of_eq (Option.some.inj hj))); clear hm2 hg2 r8 r9 r10 r11 r12 r13 r14; obtain ⟨r8, r9, r10, r11, r12, r13, r14⟩ := (HK.out.kept HR.out HB2.out).sw.qc.cells; clear zp; have zp := (HK.out.kept HR.out HB2.out).sw.qc.lt)
    | (refine wpList_insert_b _ rfl _ (.const (.string ⟨#[106, 110, 122]⟩)) _ 76 rfl 9 4 under_jmap1 Tryz.underlying9 wx.heap.size [(⟨#[106, 109, 112]⟩, true), (⟨#[106, 122]⟩, x.c.Z)] rfl HM2.out ⟨#[106, 110, 122]⟩ (!x.c.Z) rfl rfl (by rfl) ?_; intro wj3 hm3 hg3; have HM3 := hid hm3; have HB3 : Hid (Below wx.heap.size wx wj3) := (HB2.out.grown hg3 HB2.out.size (fun j hj => Nat.le_of_eq (Option.some.inj hj))); clear hm3 hg3 r8 r9 r10 r11 r12 r13 r14; obtain ⟨r8, r9, r10, r11, r12, r13, r14⟩ := (HK.out.kept HR.out HB3.out).sw.qc.cells; clear zp; have zp := (HK.out.kept HR.out HB3.out).sw.qc.lt)
    | (refine wpList_insert_b _ rfl _ (.const (.string ⟨#[106, 110]⟩)) _ 76 rfl 9 4 under_jmap1 Tryz.underlying9 wx.heap.size [(⟨#[106, 109, 112]⟩, true), (⟨#[106, 122]⟩, x.c.Z), (⟨#[106, 110, 122]⟩, (!x.c.Z))] rfl HM3.out ⟨#[106, 110]⟩ x.c.N rfl rfl (by rfl) ?_; intro wj4 hm4 hg4; have HM4 := hid hm4; have HB4 : Hid (Below wx.heap.size wx wj4) := (HB3.out.grown hg4 HB3.out.size (fun j hj => Nat.le_of_eq (Option.some.inj hj))); clear hm4 hg4 r8 r9 r10 r11 r12 r13 r14; obtain ⟨r8, r9, r10, r11, r12, r13, r14⟩ := (HK.out.kept HR.out HB4.out).sw.qc.cells; clear zp; have zp := (HK.out.kept HR.out HB4.out).sw.qc.lt)
    | (refine wpList_insert_b _ rfl _ (.const (.string ⟨#[106, 99]⟩)) _ 76 rfl 9 4 under_jmap1 Tryz.underlying9 wx.heap.size [(⟨#[106, 109, 112]⟩, true), (⟨#[106, 122]⟩, x.c.Z), (⟨#[106, 110, 122]⟩, (!x.c.Z)), (⟨#[106, 110]⟩, x.c.N)] rfl HM4.out ⟨#[106, 99]⟩ x.c.C rfl rfl (by rfl) ?_; intro wj5 hm5 hg5; have HM5 := hid hm5; have HB5 : Hid (Below wx.heap.size wx wj5) := (HB4.out.grown hg5 HB4.out.size (fun j hj => Nat.le_of_eq (Option.some.inj hj))); clear hm5 hg5 r8 r9 r10 r11 r12 r13 r14; obtain ⟨r8, r9, r10, r11, r12, r13, r14⟩ := (HK.out.kept HR.out HB5.out).sw.qc.cells; clear zp; have zp := (HK.out.kept HR.out HB5.out).sw.qc.lt; have HK5 := hid (HK.out.kept HR.out HB5.out); clear o0 o1 o2 o3 o4 k0 k1 k2 zo zk r0 r1 r2 r3 r4 r5 r6 r7; obtain ⟨r0, r1, r2, r3, r4, r5, r6, r7⟩ := HK5.out.sw.qc.regs; obtain ⟨o0, o1, o2, o3, o4, k0, k1, k2⟩ := HK5.out.cells; rw [HNM.out] at k0; have zo := HK5.out.ltO; have zk := HK5.out.ltK; have fp5 := HK5.out.sw.qc.frozen; have lk := lookup_b under_jmap1 Tryz.underlying9 HM5.out ⟨#[106, 99]⟩ x.c.C (by rfl); rw [HZ.out] at lk; have HKF := hid (HK5.out.step (HK5.out.sw.qc.putPC HR.out v hv.1 hv.2) ((PM.refl B T _ x.s wj5).set HK5.out.sw.qc.big 8 _)))
    | (refine wpList_store_mid rfl 25 (.tmp 6) (.tmp 299) rfl (w.heap.size + 1 + 1) 0 _ rfl rfl ?_ ?_ ?_ ?_
       · exact HKF.out.sw.there
       · exact info_cpu
       · exact cpuL_one ((⟨{ x.c with PC := v }, x.s, x.n⟩ : C.St σ)).c
       refine cutL (fun W => I W ((⟨{ x.c with PC := v }, x.s, x.n⟩ : C.St σ)).s ∧ Mv B (T s) (T ((⟨{ x.c with PC := v }, x.s, x.n⟩ : C.St σ)).s) w W ∧ W.rangeAt (w.heap.size + 1 + 1) 0 (cpuL ((⟨{ x.c with PC := v }, x.s, x.n⟩ : C.St σ)).c)) ?_ ?_
       · exact HKF.out.sw.fin HR.out hB (cpuL ((⟨{ x.c with PC := v }, x.s, x.n⟩ : C.St σ)).c) rfl
       rintro W ⟨hIW, hmW, hrW⟩))
  have hl := load_cpu W _ _ hrW
  refine bodyPost_ret (v := .tuple #[cpuV ((⟨{ x.c with PC := v }, x.s, x.n⟩ : C.St σ)).c, .int .i64 (K.cyc 19 + 1)]) ?_ rfl ⟨rfl, hIW, hmW⟩
  simp only [results, Tryz.results13]
  simp
  show (Result.andThen (Sem.run Tryz.prog (loadVar 25 ⟨w.heap.size + 1 + 1, 0, none⟩) W) _) = _
  rw [hl]
  rfl
end
section
variable {σ : Type} {m : C.Mem σ} {B bs : Nat} {I : World → σ → Prop} {T : σ → Nat → Prop}
theorem under_jmap2 : Tryz.prog.underlying 76 = some (.map 9 4) := by kernel_rfl
set_option maxRecDepth 100000 in
set_option maxHeartbeats 3200000 in
theorem rjf_19 (R : QS m B bs I T) (w : World) (s : σ) (hB : B ≤ w.heap.size) (d e1 : Nat) (n v : Int) (hd : d < 8) (he : e1 < 8) (hn : -16 ≤ n ∧ n ≤ 15) (hv : 0 ≤ v ∧ v ≤ 65535) (x : C.St σ) (HZ : Hid (x.c.C = false)) : Rest2 B bs I T w s 19 d e1 n v x (⟨x.c, x.s, K.cyc 19⟩ : C.St σ) := by
  intro bo kb wx u0 u1 u2 u5 u11 u13 u20 u21 u22 u23 u24 u26 u27 u28 u29 u30 u31 u32 u33 u34 u35 u36 u37 u38 u39 u40 u41 u42 u43 u44 u45 u46 u47 u48 u49 u50 u51 u52 u53 u54 u55 u56 u57 u58 u59 u60 u61 u62 u63 u64 u65 u66 u67 u68 u69 u70 u71 u72 u73 u74 u75 u76 u77 u78 u79 u80 u81 u82 u83 u84 u85 u86 u87 u88 u89 u90 u91 u92 u93 u94 u95 u96 u97 u98 u99 u100 u101 u102 u103 u104 u105 u106 u107 u108 u109 u110 u111 u112 u113 u114 u115 u116 u117 u118 u119 u120 u121 u122 u123 u124 u125 u126 u127 u128 u129 u130 u131 u132 u133 u134 u135 u136 u137 u138 u139 u140 u141 u142 u143 u144 u145 u146 u147 u148 u149 u150 u151 u152 u153 u154 u155 u156 u157 u158 u159 u160 u161 u162 u163 u164 u165 u166 u167 u168 u169 u170 u171 u172 u173 u174 u175 u176 u177 u178 u179 u180 u181 u182 u183 u184 u185 u186 u187 u188 u189 u190 u191 u192 u193 u194 u195 u196 u197 u198 u199 u200 u201 u202 u203 u204 u205 u206 u207 u208 u209 u210 u211 u212 u213 u214 u215 u216 u217 u218 u219 u220 u221 u222 u223 u224 u225 u226 u227 u228 u229 u230 u231 u232 u233 u234 u235 u236 u237 u238 u239 u240 u241 u242 u243 u244 u245 u246 u247 u248 u249 u250 u251 u252 u253 u254 u255 u256 u257 u258 u259 u260 u261 u262 u263 u264 u265 u266 u267 u268 u269 u270 u271 u272 u273 u274 u275 u276 u277 u278 u279 u280 u281 u282 u283 u284 u285 u286 u287 u288 u289 u290 u291 u292 u293 u294 u295 u296 u297 u298 u299 u300 hK
  have HR := hid R
  obtain ⟨o0, o1, o2, o3, o4, k0, k1, k2⟩ := hK.cells
  have hnm : K.name 19 = ⟨#[106, 99]⟩ := by kernel_rfl
  rw [hnm] at k0
  clear hnm
  have zo := hK.ltO
  have zk := hK.ltK
  have zp := hK.sw.qc.lt
  obtain ⟨r0, r1, r2, r3, r4, r5, r6, r7⟩ := hK.sw.qc.regs
  obtain ⟨r8, r9, r10, r11, r12, r13, r14⟩ := hK.sw.qc.cells
  have fp := hK.sw.qc.frozen
  have HK := hid hK
  clear hK R
  have hmm := @run_makeMap Tryz.prog
  have HNM : Hid (K.name 19 = ⟨#[106, 99]⟩) := by show K.name 19 = ⟨#[106, 99]⟩; kernel_rfl
  have hwc : IntKind.i64.wrap (K.cyc 19 + 1) = K.cyc 19 + 1 := by kernel_rfl
  conv =>
    arg 2
    dsimp only [cTl, cSec, Tryz.f13, Option.getD]
  go_wp2_with (first
    | (refine wpList_insert_b _ rfl _ (.const (.string ⟨#[106, 109, 112]⟩)) _ 76 rfl 9 4 under_jmap2 Tryz.underlying9 wx.heap.size [] rfl (mapB_made wx) ⟨#[106, 109, 112]⟩ true rfl rfl (by rfl) ?_; intro wj1 hm1 hg1; have HM1 := hid hm1; have HB1 : Hid (Below wx.heap.size wx wj1) := ((stA (st0 wx) (.map #[] 0)).grown hg1 (stA (st0 wx) (.map #[] 0)).size (fun j hj => Nat.le_of_eq (Option.some.inj hj))); clear hm1 hg1 r8 r9 r10 r11 r12 r13 r14; obtain ⟨r8, r9, r10, r11, r12, r13, r14⟩ := (HK.out.kept HR.out HB1.out).sw.qc.cells; clear zp; have zp := (HK.out.kept HR.out HB1.out).sw.qc.lt)
    | (refine wpList_insert_b _ rfl _ (.const (.string ⟨#[106, 122]⟩)) _ 76 rfl 9 4 under_jmap2 Tryz.underlying9 wx.heap.size [(⟨#[106, 109, 112]⟩, true)] rfl HM1.out ⟨#[106, 122]⟩ x.c.Z rfl rfl (by rfl) ?_; intro wj2 hm2 hg2; have HM2 := hid hm2; have HB2 : Hid (Below wx.heap.size wx wj2) := (HB1.out.grown hg2 HB1.out.size (fun j hj => Nat.le_of_eq (Option.some.inj hj))); clear hm2 hg2 r8 r9 r10 r11 r12 r13 r14; obtain ⟨r8, r9, r10, r11, r12, r13, r14⟩ := (HK.out.kept HR.out HB2.out).sw.qc.cells; clear zp; have zp := (HK.out.kept HR.out HB2.out).sw.qc.lt)
    | (refine wpList_insert_b _ rfl _ (.const (.string ⟨#[106, 110, 122]⟩)) _ 76 rfl 9 4 under_jmap2 Tryz.underlying9 wx.heap.size [(⟨#[106, 109, 112]⟩, true), (⟨#[106, 122]⟩, x.c.Z)] rfl HM2.out ⟨#[106, 110, 122]⟩ (!x.c.Z) rfl rfl (by rfl) ?_; intro wj3 hm3 hg3; have HM3 := hid hm3; have HB3 : Hid (Below wx.heap.size wx wj3) := (HB2.out.grown hg3 HB2.out.size (fun j hj => Nat.le_of_eq (Option.some.inj hj))); clear hm3 hg3 r8 r9 r10 r11 r12 r13 r14; obtain ⟨r8, r9, r10, r11, r12, r13, r14⟩ := (HK.out.kept HR.out HB3.out).sw.qc.cells; clear zp; have zp := (HK.out.kept HR.out HB3.out).sw.qc.lt)
    | (refine wpList_insert_b _ rfl _ (.const (.string ⟨#[106, 110]⟩)) _ 76 rfl 9 4 under_jmap2 Tryz.underlying9 wx.heap.size [(⟨#[106, 109, 112]⟩, true), (⟨#[106, 122]⟩, x.c.Z), (⟨#[106, 110, 122]⟩, (!x.c.Z))] rfl HM3.out ⟨#[106, 110]⟩ x.c.N rfl rfl (by rfl) ?_; intro wj4 hm4 hg4; have HM4 := hid hm4; have HB4 : Hid (Below wx.heap.size wx wj4) := (HB3.out.grown hg4 HB3.out.size (fun j hj => Nat.le_of_eq (Option.some.inj hj))); clear hm4 hg4 r8 r9 r10 r11 r12 r13 r14; obtain ⟨r8, r9, r10, r11, r12, r13, r14⟩ := (HK.out.kept HR.out HB4.out).sw.qc.cells; clear zp; have zp := (HK.out.kept HR.out HB4.out).sw.qc.lt)
    | (refine wpList_insert_b _ rfl _ (.const (.string ⟨#[106, 99]⟩)) _ 76 rfl 9 4 under_jmap2 Tryz.underlying9 wx.heap.size [(⟨#[106, 109, 112]⟩, true), (⟨#[106, 122]⟩, x.c.Z), (⟨#[106, 110, 122]⟩, (!x.c.Z)), (⟨#[106, 110]⟩, x.c.N)] rfl HM4.out ⟨#[106, 99]⟩ x.c.C rfl rfl (by rfl) ?_; intro wj5 hm5 hg5; have HM5 := hid hm5; have HB5 : Hid (Below wx.heap.size wx wj5) := (HB4.out.grown hg5 HB4.out.size (fun j hj => Nat.le_of_eq (Option.some.inj hj))); clear hm5 hg5 r8 r9 r10 r11 r12 r13 r14; obtain ⟨r8, r9, r10, r11, r12, r13, r14⟩ := (HK.out.kept HR.out HB5.out).sw.qc.cells; clear zp; have zp := (HK.out.kept HR.out HB5.out).sw.qc.lt; have HK5 := hid (HK.out.kept HR.out HB5.out); clear o0 o1 o2 o3 o4 k0 k1 k2 zo zk r0 r1 r2 r3 r4 r5 r6 r7; obtain ⟨r0, r1, r2, r3, r4, r5, r6, r7⟩ := HK5.out.sw.qc.regs; obtain ⟨o0, o1, o2, o3, o4, k0, k1, k2⟩ := HK5.out.cells; rw [HNM.out] at k0; have zo := HK5.out.ltO; have zk := HK5.out.ltK; have fp5 := HK5.out.sw.qc.frozen; have lk := lookup_b under_jmap2 Tryz.underlying9 HM5.out ⟨#[106, 99]⟩ x.c.C (by rfl); rw [HZ.out] at lk; have HKF := HK5)
    | (refine wpList_store_mid rfl 25 (.tmp 6) (.tmp 299) rfl (w.heap.size + 1 + 1) 0 _ rfl rfl ?_ ?_ ?_ ?_
       · exact HKF.out.sw.there
       · exact info_cpu
       · exact cpuL_one (x).c
       refine cutL (fun W => I W (x).s ∧ Mv B (T s) (T (x).s) w W ∧ W.rangeAt (w.heap.size + 1 + 1) 0 (cpuL (x).c)) ?_ ?_
       · exact HKF.out.sw.fin HR.out hB (cpuL (x).c) rfl
       rintro W ⟨hIW, hmW, hrW⟩))
  have hl := load_cpu W _ _ hrW
  refine bodyPost_ret (v := .tuple #[cpuV (x).c, .int .i64 (K.cyc 19)]) ?_ rfl ⟨rfl, hIW, hmW⟩
  simp only [results, Tryz.results13]
  simp
  show (Result.andThen (Sem.run Tryz.prog (loadVar 25 ⟨w.heap.size + 1 + 1, 0, none⟩) W) _) = _
  rw [hl]
  rfl
set_option maxRecDepth 100000 in
set_option maxHeartbeats 3200000 in
theorem rjt_29 (R : QS m B bs I T) (w : World) (s : σ) (hB : B ≤ w.heap.size) (d e1 : Nat) (n v : Int) (hd : d < 8) (he : e1 < 8) (hn : -16 ≤ n ∧ n ≤ 15) (hv : 0 ≤ v ∧ v ≤ 65535) (x : C.St σ) (HZ : Hid ((!x.c.Z) = true)) : Rest2 B bs I T w s 29 d e1 n v x (C.jump ⟨x.c, x.s, K.cyc 29⟩ v) := by
  intro bo kb wx u0 u1 u2 u5 u11 u13 u20 u21 u22 u23 u24 u26 u27 u28 u29 u30 u31 u32 u33 u34 u35 u36 u37 u38 u39 u40 u41 u42 u43 u44 u45 u46 u47 u48 u49 u50 u51 u52 u53 u54 u55 u56 u57 u58 u59 u60 u61 u62 u63 u64 u65 u66 u67 u68 u69 u70 u71 u72 u73 u74 u75 u76 u77 u78 u79 u80 u81 u82 u83 u84 u85 u86 u87 u88 u89 u90 u91 u92 u93 u94 u95 u96 u97 u98 u99 u100 u101 u102 u103 u104 u105 u106 u107 u108 u109 u110 u111 u112 u113 u114 u115 u116 u117 u118 u119 u120 u121 u122 u123 u124 u125 u126 u127 u128 u129 u130 u131 u132 u133 u134 u135 u136 u137 u138 u139 u140 u141 u142 u143 u144 u145 u146 u147 u148 u149 u150 u151 u152 u153 u154 u155 u156 u157 u158 u159 u160 u161 u162 u163 u164 u165 u166 u167 u168 u169 u170 u171 u172 u173 u174 u175 u176 u177 u178 u179 u180 u181 u182 u183 u184 u185 u186 u187 u188 u189 u190 u191 u192 u193 u194 u195 u196 u197 u198 u199 u200 u201 u202 u203 u204 u205 u206 u207 u208 u209 u210 u211 u212 u213 u214 u215 u216 u217 u218 u219 u220 u221 u222 u223 u224 u225 u226 u227 u228 u229 u230 u231 u232 u233 u234 u235 u236 u237 u238 u239 u240 u241 u242 u243 u244 u245 u246 u247 u248 u249 u250 u251 u252 u253 u254 u255 u256 u257 u258 u259 u260 u261 u262 u263 u264 u265 u266 u267 u268 u269 u270 u271 u272 u273 u274 u275 u276 u277 u278 u279 u280 u281 u282 u283 u284 u285 u286 u287 u288 u289 u290 u291 u292 u293 u294 u295 u296 u297 u298 u299 u300 hK
  have HR := hid R
  obtain ⟨o0, o1, o2, o3, o4, k0, k1, k2⟩ := hK.cells
  have hnm : K.name 29 = ⟨#[106, 110, 122]⟩ := by kernel_rfl
  rw [hnm] at k0
  clear hnm
  have zo := hK.ltO
  have zk := hK.ltK
  have zp := hK.sw.qc.lt
  obtain ⟨r0, r1, r2, r3, r4, r5, r6, r7⟩ := hK.sw.qc.regs
  obtain ⟨r8, r9, r10, r11, r12, r13, r14⟩ := hK.sw.qc.cells
  have fp := hK.sw.qc.frozen
  have HK := hid hK
  clear hK R
  have hmm := @run_makeMap Tryz.prog
  have HNM : Hid (K.name 29 = ⟨#[106, 110, 122]⟩) := by show K.name 29 = ⟨#[106, 110, 122]⟩; kernel_rfl
  have hwc : IntKind.i64.wrap (K.cyc 29 + 1) = K.cyc 29 + 1 := by kernel_rfl
  conv =>
    arg 2
    dsimp only [cTl, cSec, Tryz.f13, Option.getD]
  go_wp2_with (first
    | (refine wpList_insert_b _ rfl _ (.const (.string ⟨#[106, 109, 112]⟩)) _ 76 rfl 9 4 under_jmap2 Tryz.underlying9 wx.heap.size [] rfl (mapB_made wx) ⟨#[106, 109, 112]⟩ true rfl rfl (by rfl) ?_; intro wj1 hm1 hg1; have HM1 := hid hm1; have HB1 : Hid (Below wx.heap.size wx wj1) := ((stA (st0 wx) (.map #[] 0)).grown hg1 (stA (st0 wx) (.map #[] 0)).size (fun j hj => Nat.le_of_eq (Option.some.inj hj))); clear hm1 hg1 r8 r9 r10 r11 r12 r13 r14; obtain ⟨r8, r9, r10, r11, r12, r13, r14⟩ := (HK.out.kept HR.out HB1.out).sw.qc.cells; clear zp; have zp := (HK.out.kept HR.out HB1.out).sw.qc.lt)
    | (refine wpList_insert_b _ rfl _ (.const (.string ⟨#[106, 122]⟩)) _ 76 rfl 9 4 under_jmap2 Tryz.underlying9 wx.heap.size [(⟨#[106, 109, 112]⟩, true)] rfl HM1.out ⟨#[106, 122]⟩ x.c.Z rfl rfl (by rfl) ?_; intro wj2 hm2 hg2; have HM2 := hid hm2; have HB2 : Hid (Below wx.heap.size wx wj2) := (HB1.out.grown hg2 HB1.out.size (fun j hj => Nat.le_of_eq (Option.some.inj hj))); clear hm2 hg2 r8 r9 r10 r11 r12 r13 r14; obtain ⟨r8, r9, r10, r11, r12, r13, r14⟩ := (HK.out.kept HR.out HB2.out).sw.qc.cells; clear zp; have zp := (HK.out.kept HR.out HB2.out).sw.qc.lt)
    | (refine wpList_insert_b _ rfl _ (.const (.string ⟨#[106, 110, 122]⟩)) _ 76 rfl 9 4 under_jmap2 Tryz.underlying9 wx.heap.size [(⟨#[106, 109, 112]⟩, true), (⟨#[106, 122]⟩, x.c.Z)] rfl HM2.out ⟨#[106, 110, 122]⟩ (!x.c.Z) rfl rfl (by rfl) ?_; intro wj3 hm3 hg3; have HM3 := hid hm3; have HB3 : Hid (Below wx.heap.size wx wj3) := (HB2.out.grown hg3 HB2.out.size (fun j hj => Nat.le_of_eq (Option.some.inj hj))); clear hm3 hg3 r8 r9 r10 r11 r12 r13 r14; obtain ⟨r8, r9, r10, r11, r12, r13, r14⟩ := (HK.out.kept HR.out HB3.out).sw.qc.cells; clear zp; have zp := (HK.out.kept HR.out HB3.out).sw.qc.lt)
    | (refine wpList_insert_b _ rfl _ (.const (.string ⟨#[106, 110]⟩)) _ 76 rfl 9 4 under_jmap2 Tryz.underlying9 wx.heap.size [(⟨#[106, 109, 112]⟩, true), (⟨#[106, 122]⟩, x.c.Z), (⟨#[106, 110, 122]⟩, (!x.c.Z))] rfl HM3.out ⟨#[106, 110]⟩ x.c.N rfl rfl (by rfl) ?_; intro wj4 hm4 hg4; have HM4 := hid hm4; have HB4 : Hid (Below wx.heap.size wx wj4) := (HB3.out.grown hg4 HB3.out.size (fun j hj => Nat.le_of_eq (Option.some.inj hj))); clear hm4 hg4 r8 r9 r10 r11 r12 r13 r14; obtain ⟨r8, r9, r10, r11, r12, r13, r14⟩ := (HK.out.kept HR.out HB4.out).sw.qc.cells; clear zp; have zp := (HK.out.kept HR.out HB4.out).sw.qc.lt)
    | (refine wpList_insert_b _ rfl _ (.const (.string ⟨#[106, 99]⟩)) _ 76 rfl 9 4 under_jmap2 Tryz.underlying9 wx.heap.size [(⟨#[106, 109, 112]⟩, true), (⟨#[106, 122]⟩, x.c.Z), (⟨#[106, 110, 122]⟩, (!x.c.Z)), (⟨#[106, 110]⟩, x.c.N)] rfl HM4.out ⟨#[106, 99]⟩ x.c.C rfl rfl (by rfl) ?_; intro wj5 hm5 hg5; have HM5 := hid hm5; have HB5 : Hid (Below wx.heap.size wx wj5) := (HB4.out.grown hg5 HB4.out.size (fun j hj => Nat.le_of_eq (Option.some.inj hj))); clear hm5 hg5 r8 r9 r10 r11 r12 r13 r14; obtain ⟨r8, r9, r10, r11, r12, r13, r14⟩ := (HK.out.kept HR.out HB5.out).sw.qc.cells; clear zp; have zp := (HK.out.kept HR.out HB5.out).sw.qc.lt; have HK5 := hid (HK.out.kept HR.out HB5.out); clear o0 o1 o2 o3 o4 k0 k1 k2 zo zk r0 r1 r2 r3 r4 r5 r6 r7; obtain ⟨r0, r1, r2, r3, r4, r5, r6, r7⟩ := HK5.out.sw.qc.regs; obtain ⟨o0, o1, o2, o3, o4, k0, k1, k2⟩ := HK5.out.cells; rw [HNM.out] at k0; have zo := HK5.out.ltO; have zk := HK5.out.ltK; have fp5 := HK5.out.sw.qc.frozen; have lk := lookup_b under_jmap2 Tryz.underlying9 HM5.out ⟨#[106, 110, 122]⟩ (!x.c.Z) (by rfl); rw [HZ.out] at lk; have HKF := hid (HK5.out.step (HK5.out.sw.qc.putPC HR.out v hv.1 hv.2) ((PM.refl B T _ x.s wj5).set HK5.out.sw.qc.big 8 _)))
    | (refine wpList_store_mid rfl 25 (.tmp 6) (.tmp 299) rfl (w.heap.size + 1 + 1) 0 _ rfl rfl ?_ ?_ ?_ ?_
       · exact HKF.out.sw.there
       · exact info_cpu
       · exact cpuL_one ((⟨{ x.c with PC := v }, x.s, x.n⟩ : C.St σ)).c
       refine cutL (fun W => I W ((⟨{ x.c with PC := v }, x.s, x.n⟩ : C.St σ)).s ∧ Mv B (T s) (T ((⟨{ x.c with PC := v }, x.s, x.n⟩ : C.St σ)).s) w W ∧ W.rangeAt (w.heap.size + 1 + 1) 0 (cpuL ((⟨{ x.c with PC := v }, x.s, x.n⟩ : C.St σ)).c)) ?_ ?_
       · exact HKF.out.sw.fin HR.out hB (cpuL ((⟨{ x.c with PC := v }, x.s, x.n⟩ : C.St σ)).c) rfl
       rintro W ⟨hIW, hmW, hrW⟩))
  have hl := load_cpu W _ _ hrW
  refine bodyPost_ret (v := .tuple #[cpuV ((⟨{ x.c with PC := v }, x.s, x.n⟩ : C.St σ)).c, .int .i64 (K.cyc 29 + 1)]) ?_ rfl ⟨rfl, hIW, hmW⟩
  simp only [results, Tryz.results13]
  simp
  show (Result.andThen (Sem.run Tryz.prog (loadVar 25 ⟨w.heap.size + 1 + 1, 0, none⟩) W) _) = _
  rw [hl]
  rfl
set_option maxRecDepth 100000 in
set_option maxHeartbeats 3200000 in
theorem rjf_29 (R : QS m B bs I T) (w : World) (s : σ) (hB : B ≤ w.heap.size) (d e1 : Nat) (n v : Int) (hd : d < 8) (he : e1 < 8) (hn : -16 ≤ n ∧ n ≤ 15) (hv : 0 ≤ v ∧ v ≤ 65535) (x : C.St σ) (HZ : Hid ((!x.c.Z) = false)) : Rest2 B bs I T w s 29 d e1 n v x (⟨x.c, x.s, K.cyc 29⟩ : C.St σ) := by
  intro bo kb wx u0 u1 u2 u5 u11 u13 u20 u21 u22 u23 u24 u26 u27 u28 u29 u30 u31 u32 u33 u34 u35 u36 u37 u38 u39 u40 u41 u42 u43 u44 u45 u46 u47 u48 u49 u50 u51 u52 u53 u54 u55 u56 u57 u58 u59 u60 u61 u62 u63 u64 u65 u66 u67 u68 u69 u70 u71 u72 u73 u74 u75 u76 u77 u78 u79 u80 u81 u82 u83 u84 u85 u86 u87 u88 u89 u90 u91 u92 u93 u94 u95 u96 u97 u98 u99 u100 u101 u102 u103 u104 u105 u106 u107 u108 u109 u110 u111 u112 u113 u114 u115 u116 u117 u118 u119 u120 u121 u122 u123 u124 u125 u126 u127 u128 u129 u130 u131 u132 u133 u134 u135 u136 u137 u138 u139 u140 u141 u142 u143 u144 u145 u146 u147 u148 u149 u150 u151 u152 u153 u154 u155 u156 u157 u158 u159 u160 u161 u162 u163 u164 u165 u166 u167 u168 u169 u170 u171 u172 u173 u174 u175 u176 u177 u178 u179 u180 u181 u182 u183 u184 u185 u186 u187 u188 u189 u190 u191 u192 u193 u194 u195 u196 u197 u198 u199 u200 u201 u202 u203 u204 u205 u206 u207 u208 u209 u210 u211 u212 u213 u214 u215 u216 u217 u218 u219 u220 u221 u222 u223 u224 u225 u226 u227 u228 u229 u230 u231 u232 u233 u234 u235 u236 u237 u238 u239 u240 u241 u242 u243 u244 u245 u246 u247 u248 u249 u250 u251 u252 u253 u254 u255 u256 u257 u258 u259 u260 u261 u262 u263 u264 u265 u266 u267 u268 u269 u270 u271 u272 u273 u274 u275 u276 u277 u278 u279 u280 u281 u282 u283 u284 u285 u286 u287 u288 u289 u290 u291 u292 u293 u294 u295 u296 u297 u298 u299 u300 hK
  have HR := hid R
  obtain ⟨o0, o1, o2, o3, o4, k0, k1, k2⟩ := hK.cells
  have hnm : K.name 29 = ⟨#[106, 110, 122]⟩ := by kernel_rfl
  rw [hnm] at k0
  clear hnm
  have zo := hK.ltO
  have zk := hK.ltK
  have zp := hK.sw.qc.lt
  obtain ⟨r0, r1, r2, r3, r4, r5, r6, r7⟩ := hK.sw.qc.regs
  obtain ⟨r8, r9, r10, r11, r12, r13, r14⟩ := hK.sw.qc.cells
  have fp := hK.sw.qc.frozen
  have HK := hid hK
  clear hK R
  have hmm := @run_makeMap Tryz.prog
  have HNM : Hid (K.name 29 = ⟨#[106, 110, 122]⟩) := by show K.name 29 = ⟨#[106, 110, 122]⟩; kernel_rfl
  have hwc : IntKind.i64.wrap (K.cyc 29 + 1) = K.cyc 29 + 1 := by kernel_rfl
  conv =>
    arg 2
    dsimp only [cTl, cSec, Tryz.f13, Option.getD]
  go_wp2_with (first
    | (refine wpList_insert_b _ rfl _ (.const (.string ⟨#[106, 109, 112]⟩)) _ 76 rfl 9 4 under_jmap2 Tryz.underlying9 wx.heap.size [] rfl (mapB_made wx) ⟨#[106, 109, 112]⟩ true rfl rfl (by rfl) ?_; intro wj1 hm1 hg1; have HM1 := hid hm1; have HB1 : Hid (Below wx.heap.size wx wj1) := ((stA (st0 wx) (.map #[] 0)).grown hg1 (stA (st0 wx) (.map #[] 0)).size (fun j hj => Nat.le_of_eq (Option.some.inj hj))); clear hm1 hg1 r8 r9 r10 r11 r12 r13 r14; obtain ⟨r8, r9, r10, r11, r12, r13, r14⟩ := (HK.out.kept HR.out HB1.out).sw.qc.cells; clear zp; have zp := (HK.out.kept HR.out HB1.out).sw.qc.lt)
    | (refine wpList_insert_b _ rfl _ (.const (.string ⟨#[106, 122]⟩)) _ 76 rfl 9 4 under_jmap2 Tryz.underlying9 wx.heap.size [(⟨#[106, 109, 112]⟩, true)] rfl HM1.out ⟨#[106, 122]⟩ x.c.Z rfl rfl (by rfl) ?_; intro wj2 hm2 hg2; have HM2 := hid hm2; have HB2 : Hid (Below wx.heap.size wx wj2) := (HB1.out.grown hg2 HB1.out.size (fun j hj => Nat.le_of_eq (Option.some.inj hj))); clear hm2 hg2 r8 r9 r10 r11 r12 r13 r14; obtain ⟨r8, r9, r10, r11, r12, r13, r14⟩ := (HK.out.kept HR.out HB2.out).sw.qc.cells; clear zp; have zp := (HK.out.kept HR.out HB2.out).sw.qc.lt)
    | (refine wpList_insert_b _ rfl _ (.const (.string ⟨#[106, 110, 122]⟩)) _ 76 rfl 9 4 under_jmap2 Tryz.underlying9 wx.heap.size [(⟨#[106, 109, 112]⟩, true), (⟨#[106, 122]⟩, x.c.Z)] rfl HM2.out ⟨#[106, 110, 122]⟩ (!x.c.Z) rfl rfl (by rfl) ?_; intro wj3 hm3 hg3; have HM3 := hid hm3; have HB3 : Hid (Below wx.heap.size wx wj3) := (HB2.out.grown hg3 HB2.out.size (fun j hj => Nat.le_of_eq (Option.some.inj hj))); clear hm3 hg3 r8 r9 r10 r11 r12 r13 r14; obtain ⟨r8, r9, r10, r11, r12, r13, r14⟩ := (HK.out.kept HR.out HB3.out).sw.qc.cells; clear zp; have zp := (HK.out.kept HR.out HB3.out).sw.qc.lt)
    | (refine wpList_insert_b _ rfl _ (.const (.string ⟨#[106, 110]⟩)) _ 76 rfl 9 4 under_jmap2 Tryz.underlying9 wx.heap.size [(⟨#[106, 109, 112]⟩, true), (⟨#[106, 122]⟩, x.c.Z), (⟨#[106, 110, 122]⟩, (!x.c.Z))] rfl HM3.out ⟨#[106, 110]⟩ x.c.N rfl rfl (by rfl) ?_; intro wj4 hm4 hg4; have HM4 := hid hm4; have HB4 : Hid (Below wx.heap.size wx wj4) := (HB3.out.grown hg4 HB3.out.size (fun j hj => Nat.le_of_eq (Option.some.inj hj))); clear hm4 hg4 r8 r9 r10 r11 r12 r13 r14; obtain ⟨r8, r9, r10, r11, r12, r13, r14⟩ := (HK.out.kept HR.out HB4.out).sw.qc.cells; clear zp; have zp := (HK.out.kept HR.out HB4.out).sw.qc.lt)
    | (refine wpList_insert_b _ rfl _ (.const (.string ⟨#[106, 99]⟩)) _ 76 rfl 9 4 under_jmap2 Tryz.underlying9 wx.heap.size [(⟨#[106, 109, 112]⟩, true), (⟨#[106, 122]⟩, x.c.Z), (⟨#[106, 110, 122]⟩, (!x.c.Z)), (⟨#[106, 110]⟩, x.c.N)] rfl HM4.out ⟨#[106, 99]⟩ x.c.C rfl rfl (by rfl) ?_; intro wj5 hm5 hg5; have HM5 := hid hm5; have HB5 : Hid (Below wx.heap.size wx wj5) := (HB4.out.grown hg5 HB4.out.size (fun j hj => Nat.le_of_eq (Option.some.inj hj))); clear hm5 hg5 r8 r9 r10 r11 r12 r13 r14; obtain ⟨r8, r9, r10, r11, r12, r13, r14⟩ := (HK.out.kept HR.out HB5.out).sw.qc.cells; clear zp; have zp := (HK.out.kept HR.out HB5.out).sw.qc.lt; have HK5 := hid (HK.out.kept HR.out HB5.out); clear o0 o1 o2 o3 o4 k0 k1 k2 zo zk r0 r1 r2 r3 r4 r5 r6 r7; obtain ⟨r0, r1, r2, r3, r4, r5, r6, r7⟩ := HK5.out.sw.qc.regs; obtain ⟨o0, o1, o2, o3, o4, k0, k1, k2⟩ := HK5.out.cells; rw [HNM.out] at k0; have zo := HK5.out.ltO; have zk := HK5.out.ltK; have fp5 := HK5.out.sw.qc.frozen; have lk := lookup_b under_jmap2 Tryz.underlying9 HM5.out ⟨#[106, 110, 122]⟩ (!x.c.Z) (by rfl); rw [HZ.out] at lk; have HKF := HK5)
    | (refine wpList_store_mid rfl 25 (.tmp 6) (.tmp 299) rfl (w.heap.size + 1 + 1) 0 _ rfl rfl ?_ ?_ ?_ ?_
       · exact HKF.out.sw.there
       · exact info_cpu
       · exact cpuL_one (x).c
       refine cutL (fun W => I W (x).s ∧ Mv B (T s) (T (x).s) w W ∧ W.rangeAt (w.heap.size + 1 + 1) 0 (cpuL (x).c)) ?_ ?_
       · exact HKF.out.sw.fin HR.out hB (cpuL (x).c) rfl
       rintro W ⟨hIW, hmW, hrW⟩))
  have hl := load_cpu W _ _ hrW
  refine bodyPost_ret (v := .tuple #[cpuV (x).c, .int .i64 (K.cyc 29)]) ?_ rfl ⟨rfl, hIW, hmW⟩
  simp only [results, Tryz.results13]
  simp
  show (Result.andThen (Sem.run Tryz.prog (loadVar 25 ⟨w.heap.size + 1 + 1, 0, none⟩) W) _) = _
  rw [hl]
  rfl
end
section
variable {σ : Type} {m : C.Mem σ} {B bs : Nat} {I : World → σ → Prop} {T : σ → Nat → Prop}
theorem rsw_16 (R : QS m B bs I T) (w : World) (s : σ) (hB : B ≤ w.heap.size) (d e1 : Nat) (n v : Int) (hd : d < 8) (he : e1 < 8) (hn : -16 ≤ n ∧ n ≤ 15) (hv : 0 ≤ v ∧ v ≤ 65535) (x : C.St σ) : Rest2 B bs I T w s 16 d e1 n v x (C.act m ⟨x.c, x.s, K.cyc 16⟩ 16 d e1 n v) := by
  exact rjt_16 R w s hB d e1 n v hd he hn hv x (hid rfl)
theorem rsw_17 (R : QS m B bs I T) (w : World) (s : σ) (hB : B ≤ w.heap.size) (d e1 : Nat) (n v : Int) (hd : d < 8) (he : e1 < 8) (hn : -16 ≤ n ∧ n ≤ 15) (hv : 0 ≤ v ∧ v ≤ 65535) (x : C.St σ) : Rest2 B bs I T w s 17 d e1 n v x (C.act m ⟨x.c, x.s, K.cyc 17⟩ 17 d e1 n v) := by
  cases hz : x.c.Z
  · have e : C.act m ⟨x.c, x.s, K.cyc 17⟩ 17 d e1 n v = (⟨x.c, x.s, K.cyc 17⟩ : C.St σ) := by simp only [C.act, hz]; rfl
    rw [e]; exact rjf_17 R w s hB d e1 n v hd he hn hv x (hid hz)
  · have e : C.act m ⟨x.c, x.s, K.cyc 17⟩ 17 d e1 n v = C.jump ⟨x.c, x.s, K.cyc 17⟩ v := by simp only [C.act, hz]; rfl
    rw [e]; exact rjt_17 R w s hB d e1 n v hd he hn hv x (hid hz)
theorem rsw_18 (R : QS m B bs I T) (w : World) (s : σ) (hB : B ≤ w.heap.size) (d e1 : Nat) (n v : Int) (hd : d < 8) (he : e1 < 8) (hn : -16 ≤ n ∧ n ≤ 15) (hv : 0 ≤ v ∧ v ≤ 65535) (x : C.St σ) : Rest2 B bs I T w s 18 d e1 n v x (C.act m ⟨x.c, x.s, K.cyc 18⟩ 18 d e1 n v) := by
  cases hz : x.c.N
  · have e : C.act m ⟨x.c, x.s, K.cyc 18⟩ 18 d e1 n v = (⟨x.c, x.s, K.cyc 18⟩ : C.St σ) := by simp only [C.act, hz]; rfl
    rw [e]; exact rjf_18 R w s hB d e1 n v hd he hn hv x (hid hz)
  · have e : C.act m ⟨x.c, x.s, K.cyc 18⟩ 18 d e1 n v = C.jump ⟨x.c, x.s, K.cyc 18⟩ v := by simp only [C.act, hz]; rfl
    rw [e]; exact rjt_18 R w s hB d e1 n v hd he hn hv x (hid hz)
theorem rsw_19 (R : QS m B bs I T) (w : World) (s : σ) (hB : B ≤ w.heap.size) (d e1 : Nat) (n v : Int) (hd : d < 8) (he : e1 < 8) (hn : -16 ≤ n ∧ n ≤ 15) (hv : 0 ≤ v ∧ v ≤ 65535) (x : C.St σ) : Rest2 B bs I T w s 19 d e1 n v x (C.act m ⟨x.c, x.s, K.cyc 19⟩ 19 d e1 n v) := by
  cases hz : x.c.C
  · have e : C.act m ⟨x.c, x.s, K.cyc 19⟩ 19 d e1 n v = (⟨x.c, x.s, K.cyc 19⟩ : C.St σ) := by simp only [C.act, hz]; rfl
    rw [e]; exact rjf_19 R w s hB d e1 n v hd he hn hv x (hid hz)
  · have e : C.act m ⟨x.c, x.s, K.cyc 19⟩ 19 d e1 n v = C.jump ⟨x.c, x.s, K.cyc 19⟩ v := by simp only [C.act, hz]; rfl
    rw [e]; exact rjt_19 R w s hB d e1 n v hd he hn hv x (hid hz)
theorem rsw_29 (R : QS m B bs I T) (w : World) (s : σ) (hB : B ≤ w.heap.size) (d e1 : Nat) (n v : Int) (hd : d < 8) (he : e1 < 8) (hn : -16 ≤ n ∧ n ≤ 15) (hv : 0 ≤ v ∧ v ≤ 65535) (x : C.St σ) : Rest2 B bs I T w s 29 d e1 n v x (C.act m ⟨x.c, x.s, K.cyc 29⟩ 29 d e1 n v) := by
  cases hz : x.c.Z
  · have e : C.act m ⟨x.c, x.s, K.cyc 29⟩ 29 d e1 n v = C.jump ⟨x.c, x.s, K.cyc 29⟩ v := by simp only [C.act, hz]; rfl
    rw [e]; exact rjt_29 R w s hB d e1 n v hd he hn hv x (by show (!x.c.Z) = true; rw [hz]; rfl)
  · have e : C.act m ⟨x.c, x.s, K.cyc 29⟩ 29 d e1 n v = (⟨x.c, x.s, K.cyc 29⟩ : C.St σ) := by simp only [C.act, hz]; rfl
    rw [e]; exact rjf_29 R w s hB d e1 n v hd he hn hv x (by show (!x.c.Z) = false; rw [hz]; rfl)
end
end Go.Proofs.YtombboeonffejaaGreatDoor
