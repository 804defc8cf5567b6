/-
  Parts of a proof, joined.
-/
import Derived.Shelf.Small.Wraps
import Derived.Shelf.LaysM
import Derived.Shelf.Strconv.Itoa3
import Derived.Shelf.LaysC
import Derived.Shelf.Strconv.AtoiAll
import Derived.Shelf.Strings.Cut
import Derived.Shelf.Strings.Count
import Derived.Shelf.Strings.Split
import Derived.Test.YtdgeghlilkbboaaGreatDoorProg
import Derived.Test.YtdgeghlilkbboaaGreatDoorQk02
import Derived.Test.YtdgeghlilkbboaaGreatDoorQk03
import Derived.Lib.SmallJoins
import Derived.Deep.QuietTactic
import Derived.BigQuiet
import Derived.WalkKit
import Derived.ProofKit
import Derived.Maps.OwnOps
import Derived.ChangeMaps5
namespace Go.Proofs
open Go.Shelf
def Tryz.lays104_ren : Go.Shelf.Ren := ⟨fun | 104 => 191 | 211 => 247 | 207 => 278 | n => n, fun | 9 => 9 | 4 => 4 | 24 => 264 | 3 => 3 | n => n, fun | n => n⟩
theorem Tryz.lays104 : Go.Proofs.Lays.n104 Tryz.prog Tryz.lays104_ren := {
  mixed := by kernel_rfl
  f104 := Tryz.func191.trans (congrArg some (by kernel_rfl))
  f207 := Tryz.func278.trans (congrArg some (by kernel_rfl))
  f211 := Tryz.func247.trans (congrArg some (by kernel_rfl))
  t3 := Tryz.underlying3
  a3 := Tryz.isAgg3
  z3 := Tryz.sizeOf3
  v3 := Tryz.zeroValue3
  t4 := Tryz.underlying4
  a4 := Tryz.isAgg4
  z4 := Tryz.sizeOf4
  v4 := Tryz.zeroValue4
  t9 := Tryz.underlying9
  a9 := Tryz.isAgg9
  z9 := Tryz.sizeOf9
  v9 := Tryz.zeroValue9
  t24 := Tryz.underlying264
  a24 := Tryz.isAgg264
  z24 := Tryz.sizeOf264
  v24 := Tryz.zeroValue264 }
open Go.RowKit in
theorem Tryz.strings_CutSuffix (s p : ByteArray) (w : World) (hs : s.size ≤ 9223372036854775807) :
    Calls Tryz.prog 191 #[.string s, .string p] w fun e w' => e = .returned (.tuple #[.string ⟨(Lib.trimSuffix s.data.toList p.data.toList).toArray⟩, .bool (Lib.hasSuffix s.data.toList p.data.toList)]) ∧ w' = w := Any.strings_CutSuffix Tryz.lays104 s p w hs
def Tryz.laysM171_ren : Go.Shelf.Ren := ⟨fun | 171 => 282 | 243 => 293 | 246 => 304 | 283 => 307 | 284 => 308 | 285 => 309 | 286 => 310 | 129 => 312 | 317 => 311 | 318 => 313 | 319 => 314 | 320 => 315 | 337 => 316 | 338 => 317 | n => n, fun | 3 => 3 | 9 => 9 | 2 => 2 | 4 => 4 | 171 => 370 | 0 => 0 | 53 => 313 | 37 => 26 | 5 => 5 | 173 => 373 | 212 => 376 | 51 => 287 | 20 => 20 | 213 => 377 | 46 => 259 | 232 => 380 | 233 => 381 | n => n, fun | 17 => 8 | 18 => 9 | 19 => 10 | n => n⟩
theorem Tryz.laysM171 : Go.Proofs.LaysM.n171 Tryz.prog Tryz.laysM171_ren := {
  mixed := by kernel_rfl
  f129 := Tryz.func312.trans (congrArg some (by kernel_rfl))
  f171 := Tryz.func282.trans (congrArg some (by kernel_rfl))
  f243 := Tryz.func293.trans (congrArg some (by kernel_rfl))
  f246 := Tryz.func304.trans (congrArg some (by kernel_rfl))
  f283 := Tryz.func307.trans (congrArg some (by kernel_rfl))
  f284 := Tryz.func308.trans (congrArg some (by kernel_rfl))
  f285 := Tryz.func309.trans (congrArg some (by kernel_rfl))
  f286 := Tryz.func310.trans (congrArg some (by kernel_rfl))
  f317 := Tryz.func311.trans (congrArg some (by kernel_rfl))
  f318 := Tryz.func313.trans (congrArg some (by kernel_rfl))
  f319 := Tryz.func314.trans (congrArg some (by kernel_rfl))
  f320 := Tryz.func315.trans (congrArg some (by kernel_rfl))
  f337 := Tryz.func316.trans (congrArg some (by kernel_rfl))
  f338 := Tryz.func317.trans (congrArg some (by kernel_rfl))
  t0 := Tryz.underlying0
  a0 := Tryz.isAgg0
  z0 := Tryz.sizeOf0
  v0 := Tryz.zeroValue0
  t2 := Tryz.underlying2
  a2 := Tryz.isAgg2
  z2 := Tryz.sizeOf2
  v2 := Tryz.zeroValue2
  t3 := Tryz.underlying3
  a3 := Tryz.isAgg3
  z3 := Tryz.sizeOf3
  v3 := Tryz.zeroValue3
  t4 := Tryz.underlying4
  a4 := Tryz.isAgg4
  z4 := Tryz.sizeOf4
  v4 := Tryz.zeroValue4
  t5 := Tryz.underlying5
  a5 := Tryz.isAgg5
  z5 := Tryz.sizeOf5
  v5 := Tryz.zeroValue5
  t9 := Tryz.underlying9
  a9 := Tryz.isAgg9
  z9 := Tryz.sizeOf9
  v9 := Tryz.zeroValue9
  t20 := Tryz.underlying20
  a20 := Tryz.isAgg20
  z20 := Tryz.sizeOf20
  v20 := Tryz.zeroValue20
  t37 := Tryz.underlying26
  a37 := Tryz.isAgg26
  z37 := Tryz.sizeOf26
  v37 := Tryz.zeroValue26
  t46 := Tryz.underlying259
  a46 := Tryz.isAgg259
  z46 := Tryz.sizeOf259
  v46 := Tryz.zeroValue259
  t51 := Tryz.underlying287
  a51 := Tryz.isAgg287
  z51 := Tryz.sizeOf287
  v51 := Tryz.zeroValue287
  t53 := Tryz.underlying313
  a53 := Tryz.isAgg313
  z53 := Tryz.sizeOf313
  v53 := Tryz.zeroValue313
  t171 := Tryz.underlying370
  a171 := Tryz.isAgg370
  z171 := Tryz.sizeOf370
  v171 := Tryz.zeroValue370
  t173 := Tryz.underlying373
  a173 := Tryz.isAgg373
  z173 := Tryz.sizeOf373
  v173 := Tryz.zeroValue373
  t212 := Tryz.underlying376
  a212 := Tryz.isAgg376
  z212 := Tryz.sizeOf376
  v212 := Tryz.zeroValue376
  t213 := Tryz.underlying377
  a213 := Tryz.isAgg377
  z213 := Tryz.sizeOf377
  t232 := Tryz.underlying380
  a232 := Tryz.isAgg380
  z232 := Tryz.sizeOf380
  v232 := Tryz.zeroValue380
  t233 := Tryz.underlying381
  a233 := Tryz.isAgg381
  z233 := Tryz.sizeOf381
  v233 := Tryz.zeroValue381
  g17 := by kernel_rfl
  g18 := by kernel_rfl
  g19 := by kernel_rfl
  i0 := by kernel_rfl
  i2 := by kernel_rfl
  i3 := by kernel_rfl
  i4 := by kernel_rfl
  i5 := by kernel_rfl
  i9 := by kernel_rfl
  i20 := by kernel_rfl
  i37 := by kernel_rfl
  i46 := by kernel_rfl
  i51 := by kernel_rfl
  i53 := by kernel_rfl
  i171 := by kernel_rfl
  i173 := by kernel_rfl
  i212 := by kernel_rfl
  i232 := by kernel_rfl
  i233 := by kernel_rfl
  m17 := by kernel_rfl
  m18 := by kernel_rfl
  m19 := by kernel_rfl }
open Go.RowKit Go.Sort Go.Lib in
theorem Tryz.strconv_Itoa (n : Int) (h0 : -9223372036854775808 ≤ n) (h1 : n ≤ 9223372036854775807) (w : World) (htab : Lib.TabIs Tryz.prog w "internal/strconv.uint64pow10" .u64 Lib.pow10Tab) :
    Calls Tryz.prog 282 #[.int .i64 n] w fun e w' => e = .returned (.string ⟨(Lib.itoa n).toArray⟩) ∧ ∃ k os, w' = grow (w.drewN k) os := Any.strconv_Itoa Tryz.laysM171 n h0 h1 w htab
def Tryz.laysC172_ren : Go.Shelf.Ren := ⟨fun | 172 => 281 | 244 => 292 | 245 => 199 | 247 => 198 | 279 => 260 | 280 => 261 | 281 => 262 | 282 => 263 | 287 => 259 | 316 => 288 | 171 => 282 | 205 => 289 | 321 => 286 | 322 => 287 | 243 => 293 | 246 => 304 | 283 => 307 | 284 => 308 | 285 => 309 | 286 => 310 | 129 => 312 | 317 => 311 | 318 => 313 | 319 => 314 | 320 => 315 | 337 => 316 | 338 => 317 | n => n, fun | 9 => 9 | 3 => 3 | 75 => 230 | 76 => 328 | 4 => 4 | 5 => 5 | 167 => 312 | 37 => 26 | 0 => 0 | 85 => 231 | 2 => 2 | 168 => 316 | 53 => 313 | 175 => 314 | 46 => 259 | 210 => 346 | 127 => 198 | 145 => 361 | 143 => 359 | 21 => 21 | 171 => 370 | 173 => 373 | 212 => 376 | 51 => 287 | 20 => 20 | 213 => 377 | 232 => 380 | 233 => 381 | 80 => 382 | n => n, fun | 15 => 4 | 16 => 5 | 17 => 8 | 18 => 9 | 19 => 10 | n => n⟩
theorem Tryz.laysC172 : Go.Proofs.LaysC.n172 Tryz.prog Tryz.laysC172_ren := {
  mixed := by kernel_rfl
  f129 := Tryz.func312.trans (congrArg some (by kernel_rfl))
  f171 := Tryz.func282.trans (congrArg some (by kernel_rfl))
  f172 := Tryz.func281.trans (congrArg some (by kernel_rfl))
  f205 := Tryz.func289.trans (congrArg some (by kernel_rfl))
  f243 := Tryz.func293.trans (congrArg some (by kernel_rfl))
  f244 := Tryz.func292.trans (congrArg some (by kernel_rfl))
  f245 := Tryz.func199.trans (congrArg some (by kernel_rfl))
  f246 := Tryz.func304.trans (congrArg some (by kernel_rfl))
  f247 := Tryz.func198.trans (congrArg some (by kernel_rfl))
  f279 := Tryz.func260.trans (congrArg some (by kernel_rfl))
  f280 := Tryz.func261.trans (congrArg some (by kernel_rfl))
  f281 := Tryz.func262.trans (congrArg some (by kernel_rfl))
  f282 := Tryz.func263.trans (congrArg some (by kernel_rfl))
  f283 := Tryz.func307.trans (congrArg some (by kernel_rfl))
  f284 := Tryz.func308.trans (congrArg some (by kernel_rfl))
  f285 := Tryz.func309.trans (congrArg some (by kernel_rfl))
  f286 := Tryz.func310.trans (congrArg some (by kernel_rfl))
  f287 := Tryz.func259.trans (congrArg some (by kernel_rfl))
  f316 := Tryz.func288.trans (congrArg some (by kernel_rfl))
  f317 := Tryz.func311.trans (congrArg some (by kernel_rfl))
  f318 := Tryz.func313.trans (congrArg some (by kernel_rfl))
  f319 := Tryz.func314.trans (congrArg some (by kernel_rfl))
  f320 := Tryz.func315.trans (congrArg some (by kernel_rfl))
  f321 := Tryz.func286.trans (congrArg some (by kernel_rfl))
  f322 := Tryz.func287.trans (congrArg some (by kernel_rfl))
  f337 := Tryz.func316.trans (congrArg some (by kernel_rfl))
  f338 := Tryz.func317.trans (congrArg some (by kernel_rfl))
  t0 := Tryz.underlying0
  a0 := Tryz.isAgg0
  z0 := Tryz.sizeOf0
  v0 := Tryz.zeroValue0
  t2 := Tryz.underlying2
  a2 := Tryz.isAgg2
  z2 := Tryz.sizeOf2
  v2 := Tryz.zeroValue2
  t3 := Tryz.underlying3
  a3 := Tryz.isAgg3
  z3 := Tryz.sizeOf3
  v3 := Tryz.zeroValue3
  t4 := Tryz.underlying4
  a4 := Tryz.isAgg4
  z4 := Tryz.sizeOf4
  v4 := Tryz.zeroValue4
  t5 := Tryz.underlying5
  a5 := Tryz.isAgg5
  z5 := Tryz.sizeOf5
  v5 := Tryz.zeroValue5
  t9 := Tryz.underlying9
  a9 := Tryz.isAgg9
  z9 := Tryz.sizeOf9
  v9 := Tryz.zeroValue9
  t20 := Tryz.underlying20
  a20 := Tryz.isAgg20
  z20 := Tryz.sizeOf20
  v20 := Tryz.zeroValue20
  t21 := Tryz.underlying21
  a21 := Tryz.isAgg21
  z21 := Tryz.sizeOf21
  v21 := Tryz.zeroValue21
  t37 := Tryz.underlying26
  a37 := Tryz.isAgg26
  z37 := Tryz.sizeOf26
  v37 := Tryz.zeroValue26
  t46 := Tryz.underlying259
  a46 := Tryz.isAgg259
  z46 := Tryz.sizeOf259
  v46 := Tryz.zeroValue259
  t51 := Tryz.underlying287
  a51 := Tryz.isAgg287
  z51 := Tryz.sizeOf287
  v51 := Tryz.zeroValue287
  t53 := Tryz.underlying313
  a53 := Tryz.isAgg313
  z53 := Tryz.sizeOf313
  v53 := Tryz.zeroValue313
  t75 := Tryz.underlying230
  a75 := Tryz.isAgg230
  z75 := Tryz.sizeOf230
  v75 := Tryz.zeroValue230
  t76 := Tryz.underlying328
  a76 := Tryz.isAgg328
  z76 := Tryz.sizeOf328
  v76 := Tryz.zeroValue328
  t85 := Tryz.underlying231
  a85 := Tryz.isAgg231
  z85 := Tryz.sizeOf231
  v85 := Tryz.zeroValue231
  t127 := Tryz.underlying198
  a127 := Tryz.isAgg198
  z127 := Tryz.sizeOf198
  v127 := Tryz.zeroValue198
  t143 := Tryz.underlying359
  a143 := Tryz.isAgg359
  z143 := Tryz.sizeOf359
  v143 := Tryz.zeroValue359
  t145 := Tryz.underlying361
  a145 := Tryz.isAgg361
  z145 := Tryz.sizeOf361
  v145 := Tryz.zeroValue361
  t167 := Tryz.underlying312
  a167 := Tryz.isAgg312
  z167 := Tryz.sizeOf312
  v167 := Tryz.zeroValue312
  t168 := Tryz.underlying316
  a168 := Tryz.isAgg316
  z168 := Tryz.sizeOf316
  v168 := Tryz.zeroValue316
  t171 := Tryz.underlying370
  a171 := Tryz.isAgg370
  z171 := Tryz.sizeOf370
  v171 := Tryz.zeroValue370
  t173 := Tryz.underlying373
  a173 := Tryz.isAgg373
  z173 := Tryz.sizeOf373
  v173 := Tryz.zeroValue373
  t175 := Tryz.underlying314
  a175 := Tryz.isAgg314
  z175 := Tryz.sizeOf314
  v175 := Tryz.zeroValue314
  t210 := Tryz.underlying346
  a210 := Tryz.isAgg346
  z210 := Tryz.sizeOf346
  v210 := Tryz.zeroValue346
  t212 := Tryz.underlying376
  a212 := Tryz.isAgg376
  z212 := Tryz.sizeOf376
  v212 := Tryz.zeroValue376
  t213 := Tryz.underlying377
  a213 := Tryz.isAgg377
  z213 := Tryz.sizeOf377
  t232 := Tryz.underlying380
  a232 := Tryz.isAgg380
  z232 := Tryz.sizeOf380
  v232 := Tryz.zeroValue380
  t233 := Tryz.underlying381
  a233 := Tryz.isAgg381
  z233 := Tryz.sizeOf381
  v233 := Tryz.zeroValue381
  g15 := by kernel_rfl
  g16 := by kernel_rfl
  g17 := by kernel_rfl
  g18 := by kernel_rfl
  g19 := by kernel_rfl
  t80 := Tryz.underlying382
  a80 := Tryz.isAgg382
  z80 := Tryz.sizeOf382
  v80 := Tryz.zeroValue382
  i0 := by kernel_rfl
  i2 := by kernel_rfl
  i3 := by kernel_rfl
  i4 := by kernel_rfl
  i5 := by kernel_rfl
  i9 := by kernel_rfl
  i20 := by kernel_rfl
  i21 := by kernel_rfl
  i37 := by kernel_rfl
  i46 := by kernel_rfl
  i51 := by kernel_rfl
  i53 := by kernel_rfl
  i75 := by kernel_rfl
  i76 := by kernel_rfl
  i80 := by kernel_rfl
  i85 := by kernel_rfl
  i127 := by kernel_rfl
  i143 := by kernel_rfl
  i145 := by kernel_rfl
  i167 := by kernel_rfl
  i168 := by kernel_rfl
  i171 := by kernel_rfl
  i173 := by kernel_rfl
  i175 := by kernel_rfl
  i210 := by kernel_rfl
  i212 := by kernel_rfl
  i232 := by kernel_rfl
  i233 := by kernel_rfl
  m15 := by kernel_rfl
  m16 := by kernel_rfl
  m17 := by kernel_rfl
  m18 := by kernel_rfl
  m19 := by kernel_rfl
  c0 := by kernel_rfl
  c2 := by kernel_rfl
  c3 := by kernel_rfl
  c4 := by kernel_rfl
  c5 := by kernel_rfl
  c9 := by kernel_rfl
  c20 := by kernel_rfl
  c21 := by kernel_rfl
  c37 := by kernel_rfl
  c46 := by kernel_rfl
  c51 := by kernel_rfl
  c53 := by kernel_rfl
  c75 := by kernel_rfl
  c76 := by kernel_rfl
  c80 := by kernel_rfl
  c85 := by kernel_rfl
  c127 := by kernel_rfl
  c143 := by kernel_rfl
  c145 := by kernel_rfl
  c167 := by kernel_rfl
  c168 := by kernel_rfl
  c171 := by kernel_rfl
  c173 := by kernel_rfl
  c175 := by kernel_rfl
  c210 := by kernel_rfl
  c212 := by kernel_rfl
  c213 := by kernel_rfl
  c232 := by kernel_rfl
  c233 := by kernel_rfl }
open Go.RowKit in
theorem Tryz.strconv_Atoi_ok (s : ByteArray) (hmax : s.size ≤ 9223372036854775806) (v : Int) (h : Lib.atoiAll s.data.toList = .ok v) (w : World) :
    Calls Tryz.prog 281 #[.string s] w fun e w' => e = .returned (.tuple #[.int .i64 v, .nilIface]) ∧ (w' = w ∨ ∃ t, w' = Lib.bytesWorld w 5 t) := Any.strconv_Atoi_ok Tryz.laysC172 s hmax v h w
def Tryz.lays145_ren : Go.Shelf.Ren := ⟨fun | 145 => 149 | 220 => 190 | 219 => 147 | 217 => 185 | 225 => 186 | 224 => 187 | 267 => 188 | 266 => 245 | 314 => 246 | n => n, fun | 9 => 9 | 4 => 4 | 59 => 213 | 3 => 3 | 5 => 5 | 46 => 259 | 146 => 288 | 51 => 287 | n => n, fun | 1 => 0 | n => n⟩
theorem Tryz.lays145 : Go.Proofs.Lays.n145 Tryz.prog Tryz.lays145_ren := {
  mixed := by kernel_rfl
  f145 := Tryz.func149.trans (congrArg some (by kernel_rfl))
  f217 := Tryz.func185.trans (congrArg some (by kernel_rfl))
  f219 := Tryz.func147.trans (congrArg some (by kernel_rfl))
  f220 := Tryz.func190.trans (congrArg some (by kernel_rfl))
  f224 := Tryz.func187.trans (congrArg some (by kernel_rfl))
  f225 := Tryz.func186.trans (congrArg some (by kernel_rfl))
  f266 := Tryz.func245.trans (congrArg some (by kernel_rfl))
  f267 := Tryz.func188.trans (congrArg some (by kernel_rfl))
  f314 := Tryz.func246.trans (congrArg some (by kernel_rfl))
  t3 := Tryz.underlying3
  a3 := Tryz.isAgg3
  z3 := Tryz.sizeOf3
  v3 := Tryz.zeroValue3
  t4 := Tryz.underlying4
  a4 := Tryz.isAgg4
  z4 := Tryz.sizeOf4
  v4 := Tryz.zeroValue4
  t5 := Tryz.underlying5
  a5 := Tryz.isAgg5
  z5 := Tryz.sizeOf5
  v5 := Tryz.zeroValue5
  t9 := Tryz.underlying9
  a9 := Tryz.isAgg9
  z9 := Tryz.sizeOf9
  v9 := Tryz.zeroValue9
  t46 := Tryz.underlying259
  a46 := Tryz.isAgg259
  z46 := Tryz.sizeOf259
  v46 := Tryz.zeroValue259
  t51 := Tryz.underlying287
  a51 := Tryz.isAgg287
  z51 := Tryz.sizeOf287
  v51 := Tryz.zeroValue287
  t59 := Tryz.underlying213
  a59 := Tryz.isAgg213
  z59 := Tryz.sizeOf213
  v59 := Tryz.zeroValue213
  t146 := Tryz.underlying288
  a146 := Tryz.isAgg288
  z146 := Tryz.sizeOf288
  v146 := Tryz.zeroValue288
  g1 := by kernel_rfl }
open Go.RowKit Go.Lib in
theorem Tryz.strings_Cut (s sep : ByteArray) (m : Int) (w : World) (hs : s.size < 4294967281) (hm : w.cell? ⟨0, 0, none⟩ = some (.int .i64 m)) :
    Calls Tryz.prog 149 #[.string s, .string sep] w fun e w' => e = .returned (.tuple #[.string ⟨(Lib.cut s.data.toList sep.data.toList).1.toArray⟩, .string ⟨(Lib.cut s.data.toList sep.data.toList).2.1.toArray⟩, .bool (Lib.cut s.data.toList sep.data.toList).2.2]) ∧ ∃ n, w' = w.drewN n := Any.strings_Cut Tryz.lays145 s sep m w hs hm
def Tryz.lays138_ren : Go.Shelf.Ren := ⟨fun | 138 => 49 | 195 => 79 | 218 => 80 | 143 => 81 | 219 => 147 | 217 => 185 | 225 => 186 | 224 => 187 | 267 => 188 | 266 => 245 | 314 => 246 | n => n, fun | 9 => 9 | 3 => 3 | 4 => 4 | 5 => 5 | 0 => 0 | 46 => 259 | 146 => 288 | 51 => 287 | n => n, fun | 1 => 0 | n => n⟩
theorem Tryz.lays138 : Go.Proofs.Lays.n138 Tryz.prog Tryz.lays138_ren := {
  mixed := by kernel_rfl
  f138 := Tryz.func49.trans (congrArg some (by kernel_rfl))
  f143 := Tryz.func81.trans (congrArg some (by kernel_rfl))
  f195 := Tryz.func79.trans (congrArg some (by kernel_rfl))
  f217 := Tryz.func185.trans (congrArg some (by kernel_rfl))
  f218 := Tryz.func80.trans (congrArg some (by kernel_rfl))
  f219 := Tryz.func147.trans (congrArg some (by kernel_rfl))
  f224 := Tryz.func187.trans (congrArg some (by kernel_rfl))
  f225 := Tryz.func186.trans (congrArg some (by kernel_rfl))
  f266 := Tryz.func245.trans (congrArg some (by kernel_rfl))
  f267 := Tryz.func188.trans (congrArg some (by kernel_rfl))
  f314 := Tryz.func246.trans (congrArg some (by kernel_rfl))
  t0 := Tryz.underlying0
  a0 := Tryz.isAgg0
  z0 := Tryz.sizeOf0
  v0 := Tryz.zeroValue0
  t3 := Tryz.underlying3
  a3 := Tryz.isAgg3
  z3 := Tryz.sizeOf3
  v3 := Tryz.zeroValue3
  t4 := Tryz.underlying4
  a4 := Tryz.isAgg4
  z4 := Tryz.sizeOf4
  v4 := Tryz.zeroValue4
  t5 := Tryz.underlying5
  a5 := Tryz.isAgg5
  z5 := Tryz.sizeOf5
  v5 := Tryz.zeroValue5
  t9 := Tryz.underlying9
  a9 := Tryz.isAgg9
  z9 := Tryz.sizeOf9
  v9 := Tryz.zeroValue9
  t46 := Tryz.underlying259
  a46 := Tryz.isAgg259
  z46 := Tryz.sizeOf259
  v46 := Tryz.zeroValue259
  t51 := Tryz.underlying287
  a51 := Tryz.isAgg287
  z51 := Tryz.sizeOf287
  v51 := Tryz.zeroValue287
  t146 := Tryz.underlying288
  a146 := Tryz.isAgg288
  z146 := Tryz.sizeOf288
  v146 := Tryz.zeroValue288
  g1 := by kernel_rfl }
open Go.RowKit Go.Lib in
theorem Tryz.strings_Count_one (s : ByteArray) (c : UInt8) (w : World) :
    Calls Tryz.prog 49 #[.string s, .string ⟨#[c]⟩] w fun e w' => e = .returned (.int .i64 (Lib.countByte s.data.toList c)) ∧ w' = w := Any.strings_Count_one Tryz.lays138 s c w
def Tryz.lays146_ren : Go.Shelf.Ren := ⟨fun | 146 => 160 | 221 => 197 | 268 => 258 | 138 => 49 | 143 => 81 | 195 => 79 | 197 => 285 | 218 => 80 | 219 => 147 | 260 => 294 | 217 => 185 | 225 => 186 | 224 => 187 | 267 => 188 | 266 => 245 | 314 => 246 | n => n, fun | 9 => 9 | 31 => 226 | 3 => 3 | 4 => 4 | 0 => 0 | 105 => 341 | 21 => 21 | 5 => 5 | 46 => 259 | 119 => 268 | 139 => 369 | 138 => 368 | 146 => 288 | 51 => 287 | n => n, fun | 1 => 0 | 3 => 6 | 4 => 7 | n => n⟩
theorem Tryz.lays146 : Go.Proofs.Lays.n146 Tryz.prog Tryz.lays146_ren := {
  mixed := by kernel_rfl
  f138 := Tryz.func49.trans (congrArg some (by kernel_rfl))
  f143 := Tryz.func81.trans (congrArg some (by kernel_rfl))
  f146 := Tryz.func160.trans (congrArg some (by kernel_rfl))
  f195 := Tryz.func79.trans (congrArg some (by kernel_rfl))
  f197 := Tryz.func285.trans (congrArg some (by kernel_rfl))
  f217 := Tryz.func185.trans (congrArg some (by kernel_rfl))
  f218 := Tryz.func80.trans (congrArg some (by kernel_rfl))
  f219 := Tryz.func147.trans (congrArg some (by kernel_rfl))
  f221 := Tryz.func197.trans (congrArg some (by kernel_rfl))
  f224 := Tryz.func187.trans (congrArg some (by kernel_rfl))
  f225 := Tryz.func186.trans (congrArg some (by kernel_rfl))
  f260 := Tryz.func294.trans (congrArg some (by kernel_rfl))
  f266 := Tryz.func245.trans (congrArg some (by kernel_rfl))
  f267 := Tryz.func188.trans (congrArg some (by kernel_rfl))
  f268 := Tryz.func258.trans (congrArg some (by kernel_rfl))
  f314 := Tryz.func246.trans (congrArg some (by kernel_rfl))
  t0 := Tryz.underlying0
  a0 := Tryz.isAgg0
  z0 := Tryz.sizeOf0
  v0 := Tryz.zeroValue0
  t3 := Tryz.underlying3
  a3 := Tryz.isAgg3
  z3 := Tryz.sizeOf3
  v3 := Tryz.zeroValue3
  t4 := Tryz.underlying4
  a4 := Tryz.isAgg4
  z4 := Tryz.sizeOf4
  v4 := Tryz.zeroValue4
  t5 := Tryz.underlying5
  a5 := Tryz.isAgg5
  z5 := Tryz.sizeOf5
  v5 := Tryz.zeroValue5
  t9 := Tryz.underlying9
  a9 := Tryz.isAgg9
  z9 := Tryz.sizeOf9
  v9 := Tryz.zeroValue9
  t21 := Tryz.underlying21
  a21 := Tryz.isAgg21
  z21 := Tryz.sizeOf21
  v21 := Tryz.zeroValue21
  t31 := Tryz.underlying226
  a31 := Tryz.isAgg226
  z31 := Tryz.sizeOf226
  v31 := Tryz.zeroValue226
  t46 := Tryz.underlying259
  a46 := Tryz.isAgg259
  z46 := Tryz.sizeOf259
  v46 := Tryz.zeroValue259
  t51 := Tryz.underlying287
  a51 := Tryz.isAgg287
  z51 := Tryz.sizeOf287
  v51 := Tryz.zeroValue287
  t105 := Tryz.underlying341
  a105 := Tryz.isAgg341
  z105 := Tryz.sizeOf341
  v105 := Tryz.zeroValue341
  t119 := Tryz.underlying268
  a119 := Tryz.isAgg268
  z119 := Tryz.sizeOf268
  t138 := Tryz.underlying368
  a138 := Tryz.isAgg368
  z138 := Tryz.sizeOf368
  v138 := Tryz.zeroValue368
  t139 := Tryz.underlying369
  a139 := Tryz.isAgg369
  z139 := Tryz.sizeOf369
  v139 := Tryz.zeroValue369
  t146 := Tryz.underlying288
  a146 := Tryz.isAgg288
  z146 := Tryz.sizeOf288
  v146 := Tryz.zeroValue288
  g1 := by kernel_rfl
  g3 := by kernel_rfl
  g4 := by kernel_rfl }
open Go.RowKit Go.Lib in
theorem Tryz.strings_Split (s sep : ByteArray) (m : Int) (w : World) (hs : s.size < 4294967281) (hm : w.cell? ⟨0, 0, none⟩ = some (.int .i64 m)) (h1 : 1 ≤ sep.size) :
    Calls Tryz.prog 160 #[.string s, .string sep] w fun e w' =>
      e = .returned (.slice (some ⟨w.heap.size, 0, none⟩) (Lib.countB s sep + 1) (Lib.countB s sep + 1)) ∧ w' = w.alloc (.cells ((Lib.splitB sep 0 (Lib.countB s sep) s).map Value.string).toArray 9) := Any.strings_Split Tryz.lays146 (by kernel_rfl) s sep m w hs hm h1
end Go.Proofs
namespace Go.Proofs.YtdgeghlilkbboaaGreatDoor
open Go.ChangeShapes Go.WideShapes Go.ChangeAt Go.RowKit
set_option linter.unusedVariables false
set_option maxRecDepth 100000
structure AF (w : World) : Prop where
  pow : Lib.TabIs Tryz.prog w "internal/strconv.uint64pow10" .u64 Lib.pow10Tab
  len : ∃ m, w.cell? ⟨0, 0, none⟩ = some (.int .i64 m)
  shapes : shapesAt w
theorem g_pow : Tryz.prog.globalNamed "internal/strconv.uint64pow10" = some 8 := by kernel_rfl
theorem AF.kept {w w' : World} (h : AF w) (hb : Below w.heap.size w w') : AF w' := by
  obtain ⟨t, ⟨m, hm⟩, s⟩ := h
  exact ⟨Joins.tab_stays g_pow t hb (Nat.le_refl _), ⟨m, (hb.cell (World.block_lt_of_cell? w _ hm)).trans hm⟩, s.kept hb⟩
theorem af_alloc {w : World} (h : AF w) (o : Obj) : AF (w.alloc o) := h.kept (stA (st0 _) _)
def Asmk (l : List UInt8) : ByteArray := ⟨l.toArray⟩
theorem mk_bs (s : ByteArray) : Asmk (bs s) = s := by obtain ⟨⟨l⟩⟩ := s; rfl
theorem bs_mk (l : List UInt8) : bs (Asmk l) = l := rfl
theorem mk_size (l : List UInt8) : (Asmk l).size = l.length := rfl
theorem below_grow' (w : World) (k : Nat) (os : Array Obj) : Below w.heap.size w (Sort.grow (w.drewN k) os) := by
  have h : ∀ k, Below w.heap.size w (w.drewN k) := fun k => by
    induction k with
    | zero => exact st0 w
    | succ k ih => exact ih.drew
  refine (h k).trans ⟨rfl, rfl, rfl, by simp [Sort.grow], fun i hi => ?_⟩
  have : (w.drewN k).heap.size = w.heap.size := by simp
  show ((w.drewN k).heap ++ os)[i]? = _
  rw [Array.getElem?_append_left (by omega)]
theorem itoa_any (n : Int) (h0 : -9223372036854775808 ≤ n) (h1 : n ≤ 9223372036854775807) (w : World) (h : AF w) :
    Calls Tryz.prog 282 #[.int .i64 n] w fun e w' => e = .returned (.string (Asmk (Lib.itoa n))) ∧ Below w.heap.size w w' := by
  refine (Tryz.strconv_Itoa n h0 h1 w h.pow).mono fun e w' ⟨he, k, os, hw⟩ => ⟨he, ?_⟩
  subst hw
  exact below_grow' w k os
def offP (p : Nat) : Nat := if p = 0 then 1 else if p = 1 then 2 else if p = 2 then 4 else 3
def ordCells (k : Nat) (o : S.Ord) : Array Value := #[.int .i64 k, .int .i64 o.d, .int .i64 o.s, .int .i64 o.n, .int .i64 o.w]
theorem pcs_at {k j : Nat} {p : Nat} (h : (S.parts k)[j]? = some p) : (pcs k 4)[j]? = some (.int .i64 p) := by
  unfold pcs
  rw [List.getElem?_map]
  have : ((List.range 4).filter (fun p => O.hasC k (S.sgn p)))[j]? = some p := h
  rw [this]; rfl
theorem pcs_len (k : Nat) : (pcs k 4).length = (S.parts k).length := by unfold pcs S.parts; rw [List.length_map]
theorem parts_lt {k j p : Nat} (h : (S.parts k)[j]? = some p) : p < 4 := by
  have := List.mem_of_getElem? h
  unfold S.parts at this
  have := (List.mem_filter.1 this).1
  simpa using this
theorem parts_le (k : Nat) : (S.parts k).length ≤ 4 := by
  unfold S.parts
  exact Nat.le_trans (List.length_filter_le _ _) (by simp)
theorem Asrow_slice {w : World} {B : Nat} {t : TypeId} {v : Value} {n : Nat} {xs : List Value} (h : w.ownsRow B t 1 v n xs) (hn : 0 < n) : ∃ g cap, v = .slice (some ⟨g, 0, none⟩) n cap ∧ B ≤ g ∧ g < w.heap.size ∧ n ≤ cap ∧ ∀ j, j < n → w.cell? ⟨g, j, none⟩ = xs[j]? := by
  obtain ⟨hl, h⟩ := h
  rcases h with ⟨_, h0⟩ | ⟨g, cap, cur, rfl, hB, hb, hc, _, hs, ht⟩
  · omega
  · refine ⟨g, cap, rfl, hB, (Array.getElem?_eq_some_iff.1 hb).1, hc, fun j hj => ?_⟩
    simp only [World.cell?, hb]
    have hj' : j < cur.size := by rw [hs]; omega
    rw [← ht, List.getElem?_take_of_lt (by omega)]
    simp [hj']
end Go.Proofs.YtdgeghlilkbboaaGreatDoor
namespace Go.Proofs.YtdgeghlilkbboaaGreatDoor
open Go.ChangeShapes Go.WideShapes Go.ChangeAt Go.RowKit
theorem own_slice {w : World} {B : Nat} {t : TypeId} {v : Value} {n : Nat} {xs : List Value} (h : w.ownsRow B t 1 v n xs) (hn : n = 0) : ∃ a cap, v = .slice a 0 cap := by
  subst hn
  rcases h.2 with ⟨h, _⟩ | ⟨g, cap, cur, h, _⟩
  · exact ⟨_, _, h⟩
  · exact ⟨_, _, h⟩
theorem partsOf_0 (k : Nat) (hk : k < 32) (h30 : k ≠ 30) (hp : S.parts k = []) (w : World) (hs : shapesAt w) :
    Calls Tryz.prog 251 #[.int .i64 k] w fun e w' => ∃ a cap, e = .returned (.slice a 0 cap) ∧ Below w.heap.size w w' := by
  refine (partsOf_any k hk h30 w hs).mono fun e w' ⟨v, he, hown, hb⟩ => ?_
  obtain ⟨a, cap, rfl⟩ := own_slice hown (by rw [pcs_len, hp]; rfl)
  exact ⟨a, cap, he, hb⟩
def partsAt (w : World) (g k : Nat) : Prop := ∀ j p : Nat, (S.parts k)[j]? = some p → w.cell? ⟨g, j, none⟩ = some (.int .i64 p)
theorem partsOf_n (k : Nat) (hk : k < 32) (h30 : k ≠ 30) (hp : 0 < (S.parts k).length) (w : World) (hs : shapesAt w) :
    Calls Tryz.prog 251 #[.int .i64 k] w fun e w' => ∃ g cap, e = .returned (.slice (some ⟨g, 0, none⟩) (S.parts k).length cap) ∧ partsAt w' g k ∧ w.heap.size ≤ g ∧ g < w'.heap.size ∧ (S.parts k).length ≤ cap ∧ Below w.heap.size w w' := by
  refine (partsOf_any k hk h30 w hs).mono fun e w' ⟨v, he, hown, hb⟩ => ?_
  obtain ⟨g, cap, rfl, h1, h2, h3, h4⟩ := Asrow_slice hown (by rw [pcs_len]; exact hp)
  rw [pcs_len] at he h3 h4
  refine ⟨g, cap, he, fun j p hj => ?_, h1, h2, h3, hb⟩
  rw [h4 j (List.getElem?_eq_some_iff.1 hj).1, pcs_at hj]
theorem partsAt.kept {w w' : World} {g k B : Nat} (h : partsAt w g k) (hb : Below B w w') (hB : g < B) : partsAt w' g k := fun j p hj => (hb.cell hB).trans (h j p hj)
theorem name_mk (k : Nat) (h30 : k ≠ 30) : O.nameS k = Asmk (K.row k).1 := by unfold O.nameS; rw [if_neg h30]; rfl
def AsbytesAt (w : World) (g o : Nat) (l : List UInt8) : Prop := ∀ (j : Nat) (c : UInt8), l[j]? = some c → w.cell? ⟨g, o + j, none⟩ = some (.int .u8 c.toNat)
theorem st_drewN {w a : World} (h : Below w.heap.size w a) (k : Nat) : Below w.heap.size w (a.drewN k) := by
  induction k with
  | zero => exact h
  | succ k ih => exact ih.drew
end Go.Proofs.YtdgeghlilkbboaaGreatDoor
namespace Go.Proofs.YtdgeghlilkbboaaGreatDoor
open Go.ChangeShapes Go.WideShapes Go.ChangeAt Go.RowKit
theorem byteCells_append (a b : List UInt8) : Lib.byteCells a ++ Lib.byteCells b = Lib.byteCells (a ++ b) := by
  first | rfl | simp [Lib.byteCells]
theorem byteCells_len (a : List UInt8) : (Lib.byteCells a).length = a.length := by
  first | rfl | simp [Lib.byteCells]
def AssliceAt (w : World) (v : Value) (l : List UInt8) : Prop := (∃ a cap, v = .slice a 0 cap ∧ l = []) ∨ ∃ g o cap, v = .slice (some ⟨g, o, none⟩) l.length cap ∧ l.length ≤ cap ∧ g < w.heap.size ∧ AsbytesAt w g o l
def mapS (w : World) (b : Nat) (l : List (ByteArray × Int)) : Prop :=
  ∃ es clock, w.heap[b]? = some (.map es clock) ∧ es.toList.map (fun e => (e.key, e.val)) = l.map (fun p => (Value.string p.1, Value.int .i64 p.2))
theorem beq_s (a b : ByteArray) : (a == b) = decide (a = b) := by
  cases h : (a == b)
  · rw [eq_comm, decide_eq_false_iff_not]; intro e; rw [(MapKept.bytes_beq a b).2 e] at h; cases h
  · rw [eq_comm, decide_eq_true_eq]; exact (MapKept.bytes_beq a b).1 h
theorem find_s (op : ByteArray) : ∀ (es : List MapEntry) (l : List (ByteArray × Int)), es.map (fun e => (e.key, e.val)) = l.map (fun p => (Value.string p.1, Value.int .i64 p.2)) → ∀ i : Nat,
    ∃ r, Instr.findNow .string (.string op) es i = some r ∧ r.map (·.2) = (l.find? (fun p => p.1 == op)).map (fun p => Value.int .i64 p.2)
  | [], [], _, i => ⟨none, rfl, rfl⟩
  | [], _ :: _, h, _ => by cases h
  | _ :: _, [], h, _ => by cases h
  | e :: es, p :: l, h, i => by
    simp only [List.map_cons, List.cons.injEq, Prod.mk.injEq] at h
    obtain ⟨⟨hk, hv⟩, h⟩ := h
    by_cases c : p.1 = op
    · refine ⟨some (i, e.val), ?_, ?_⟩
      · simp [Instr.findNow, hk, Instr.sameNow, c, beq_s]
      · simp [c, hv, beq_s]
    · obtain ⟨r, h1, h2⟩ := find_s op es l h (i + 1)
      refine ⟨r, ?_, ?_⟩
      · have c' : (op == p.1) = false := by rw [beq_s, decide_eq_false_iff_not]; exact fun e => c e.symm
        simp [Instr.findNow, hk, Instr.sameNow, c', h1]
      · have c' : (p.1 == op) = false := by rw [beq_s, decide_eq_false_iff_not]; exact c
        rw [h2, List.find?_cons, c']
theorem mapS_made (w : World) : mapS (w.alloc (.map #[] 0)) w.heap.size [] := ⟨#[], 0, (MapKept.heap_alloc w _).1, rfl⟩
theorem mapS.lt {w : World} {b : Nat} {l : List (ByteArray × Int)} (h : mapS w b l) : b < w.heap.size := by
  obtain ⟨es, c, hb, _⟩ := h
  exact (Array.getElem?_eq_some_iff.1 hb).1
theorem mapS.of_block {w w' : World} {b : Nat} {l : List (ByteArray × Int)} (h : mapS w b l) (e : w'.heap[b]? = w.heap[b]?) : mapS w' b l := by
  obtain ⟨es, c, hb, hm⟩ := h
  exact ⟨es, c, e.trans hb, hm⟩
theorem mapS.below {w w' : World} {b B : Nat} {l : List (ByteArray × Int)} (h : mapS w b l) (hb : Below B w w') (hB : b < B) : mapS w' b l := h.of_block (hb.block b hB)
theorem insert_s {P : Program} {t k e : TypeId} (ht : P.underlying t = some (.map k e)) (hk : P.underlying k = some .string) {w : World} {b : Nat} {l : List (ByteArray × Int)} (h : mapS w b l) (x : ByteArray) (v : Int)
    (hf : l.find? (fun p => p.1 == x) = none) : ∃ w', (Instr.mapUpdate t (.map (some b)) (.string x) (.int .i64 v)).run P w = .ok () w' ∧ mapS w' b (l ++ [(x, v)]) ∧ w.grownBy w' (some b) := by
  obtain ⟨es, c, hb, hm⟩ := h
  obtain ⟨r, h1, h2⟩ := find_s x es.toList l hm 0
  have hr : r = none := by
    cases r with
    | none => rfl
    | some q => simp [hf] at h2
  subst hr
  have hc : (Instr.checkKey false 10000 k (.string x)).run P w = .ok () w := MapKept.run_checkKey (k := .string x) hk (by simp [MapKept.IsKey]) false 9999
  refine ⟨{ w with heap := w.heap.setIfInBounds b (.map (es.push { key := .string x, val := .int .i64 v, born := c }) (c + 1)) }, ?_, ?_, ?_⟩
  · simp [Instr.mapUpdate, run_underlying ht, MapKept.run_getObj_map hb, hc, MapKept.run_findKey hk h1, MapKept.run_setObj_map _ hb, Result.andThen]
  · exact ⟨_, _, (MapKept.heap_set hb).1, by simp [hm]⟩
  · exact ⟨rfl, rfl, rfl, by simp, fun i hi hne => (MapKept.heap_set hb).2 i (fun e => hne (by rw [e]))⟩
theorem lookup_s {P : Program} {t k e : TypeId} (ht : P.underlying t = some (.map k e)) (hk : P.underlying k = some .string) {w : World} {b : Nat} {l : List (ByteArray × Int)} (h : mapS w b l) (x : ByteArray)
    (hz : (zeroValue e).run P w = .ok (.int .i64 0) w) : (Instr.lookup t (.map (some b)) (.string x) true).run P w =
      .ok (.tuple #[.int .i64 (((l.find? (fun p => p.1 == x)).map (·.2)).getD 0), .bool (l.find? (fun p => p.1 == x)).isSome]) w := by
  obtain ⟨es, c, hb, hm⟩ := h
  obtain ⟨r, h1, h2⟩ := find_s x es.toList l hm 0
  have hc : ∀ em, (Instr.checkKey em 10000 k (.string x)).run P w = .ok () w := fun em => MapKept.run_checkKey (k := .string x) hk (by simp [MapKept.IsKey]) em 9999
  cases r with
  | none =>
    have hn : l.find? (fun p => p.1 == x) = none := by simpa using h2.symm
    rw [hn]
    simp [Instr.lookup, run_underlying ht, MapKept.run_getObj_map hb, hc, MapKept.run_findKey hk h1, hz, Result.andThen]
  | some q =>
    obtain ⟨i, v⟩ := q
    cases hq : l.find? (fun p => p.1 == x) with
    | none => simp [hq] at h2
    | some y =>
      simp [hq] at h2
      simp [Instr.lookup, run_underlying ht, MapKept.run_getObj_map hb, hc, MapKept.run_findKey hk h1, Result.andThen, h2]
theorem wpList_store_s {P : Program} (w : World) {ops : Array Oper} {rest : List Oper} {o : Oper} {a : Act} {Q : Exit → Act → World → Prop}
    (hg : o.guard = none) (m x v : Operand) (t : TypeId) (hop : o.op = Op.mapUpdate t m x v) (k e : TypeId) (ht : P.underlying t = some (.map k e)) (hk : P.underlying k = some .string)
    (b : Nat) (l : List (ByteArray × Int)) (hm : a.eval m = .map (some b)) (h : mapS w b l) (key : ByteArray) (val : Int) (hx : a.eval x = .string key) (hv : a.eval v = .int .i64 val) (hf : l.find? (fun p => p.1 == key) = none)
    (hK : ∀ w', mapS w' b (l ++ [(key, val)]) → w.grownBy w' (some b) → wpList P ops Q rest (a.put o.dst undef) w') : wpList P ops Q (o :: rest) a w := by
  refine wpList_plain hg fun K' hK' => ?_
  obtain ⟨w', hrun, r1, r2⟩ := insert_s ht hk h key val hf
  unfold Oper.wp
  simp [execOp, hop, hm, hx, hv, hrun, Result.andThen]
  exact hK' _ _ (hK w' r1 r2)
end Go.Proofs.YtdgeghlilkbboaaGreatDoor
