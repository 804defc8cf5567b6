/-
  Parts of a proof, joined.
-/
import Derived.Shelf.Strings.Builder1
import Derived.Shelf.Strings.OnBuilder
import Derived.Shelf.Small.Wraps
import Derived.Shelf.LaysM
import Derived.Shelf.Strconv.Itoa3
import Derived.Shelf.LaysC
import Derived.Shelf.Strconv.AtoiAll
import Derived.Shelf.Strings.Cut
import Derived.Shelf.Strings.Count
import Derived.Shelf.Strings.Split
import Derived.Test.YtbhpfkjfijdmaaaGreatDoorProg
import Derived.Test.YtbhpfkjfijdmaaaGreatDoorZv01
import Derived.Lib.ItoaLen
import Derived.Lay
import Derived.Shelf.Vars
import Derived.Stop.Joined
import Derived.Lib.LaidTab
import Derived.Lib.LaidU8
import Derived.LaidLaws
namespace Go.Proofs
open Go.Shelf
open Go.RowKit in
open Go.RowKit in
open Go.RowKit in
def Tryz.laysM171_ren:Go.Shelf.Ren:=⟨fun | 171=>102 | 243=>149 | 246=>183 | 283=>245 | 284=>246 | 285=>247 | 286=>248 | 129=>271 | 317=>270 | 318=>272 | 319=>273 | 320=>274 | 337=>278 | 338=>279 | n=>n,fun | 3=>3 | 9=>9 | 2=>2 | 4=>4 | 171=>318 | 0=>0 | 53=>311 | 37=>26 | 5=>5 | 173=>321 | 212=>340 | 51=>277 | 20=>20 | 213=>341 | 46=>227 | 232=>365 | 233=>366 | n=>n,fun | 17=>4 | 18=>7 | 19=>8 | n=>n⟩
theorem Tryz.laysM171:Go.Proofs.LaysM.n171 Tryz.prog Tryz.laysM171_ren:={
 mixed:=by kernel_rfl
 f129:=Tryz.func271.trans (congrArg some (by kernel_rfl))
 f171:=Tryz.func102.trans (congrArg some (by kernel_rfl))
 f243:=Tryz.func149.trans (congrArg some (by kernel_rfl))
 f246:=Tryz.func183.trans (congrArg some (by kernel_rfl))
 f283:=Tryz.func245.trans (congrArg some (by kernel_rfl))
 f284:=Tryz.func246.trans (congrArg some (by kernel_rfl))
 f285:=Tryz.func247.trans (congrArg some (by kernel_rfl))
 f286:=Tryz.func248.trans (congrArg some (by kernel_rfl))
 f317:=Tryz.func270.trans (congrArg some (by kernel_rfl))
 f318:=Tryz.func272.trans (congrArg some (by kernel_rfl))
 f319:=Tryz.func273.trans (congrArg some (by kernel_rfl))
 f320:=Tryz.func274.trans (congrArg some (by kernel_rfl))
 f337:=Tryz.func278.trans (congrArg some (by kernel_rfl))
 f338:=Tryz.func279.trans (congrArg some (by kernel_rfl))
 t0:=Tryz.underlying0
 a0:=Tryz.isAgg0
 z0:=Tryz.sizeOf0
 v0:=Tryz.zeroValue0
 t2:=Tryz.underlying2
 a2:=Tryz.isAgg2
 z2:=Tryz.sizeOf2
 v2:=Tryz.zeroValue2
 t3:=Tryz.underlying3
 a3:=Tryz.isAgg3
 z3:=Tryz.sizeOf3
 v3:=Tryz.zeroValue3
 t4:=Tryz.underlying4
 a4:=Tryz.isAgg4
 z4:=Tryz.sizeOf4
 v4:=Tryz.zeroValue4
 t5:=Tryz.underlying5
 a5:=Tryz.isAgg5
 z5:=Tryz.sizeOf5
 v5:=Tryz.zeroValue5
 t9:=Tryz.underlying9
 a9:=Tryz.isAgg9
 z9:=Tryz.sizeOf9
 v9:=Tryz.zeroValue9
 t20:=Tryz.underlying20
 a20:=Tryz.isAgg20
 z20:=Tryz.sizeOf20
 v20:=Tryz.zeroValue20
 t37:=Tryz.underlying26
 a37:=Tryz.isAgg26
 z37:=Tryz.sizeOf26
 v37:=Tryz.zeroValue26
 t46:=Tryz.underlying227
 a46:=Tryz.isAgg227
 z46:=Tryz.sizeOf227
 v46:=Tryz.zeroValue227
 t51:=Tryz.underlying277
 a51:=Tryz.isAgg277
 z51:=Tryz.sizeOf277
 v51:=Tryz.zeroValue277
 t53:=Tryz.underlying311
 a53:=Tryz.isAgg311
 z53:=Tryz.sizeOf311
 v53:=Tryz.zeroValue311
 t171:=Tryz.underlying318
 a171:=Tryz.isAgg318
 z171:=Tryz.sizeOf318
 v171:=Tryz.zeroValue318
 t173:=Tryz.underlying321
 a173:=Tryz.isAgg321
 z173:=Tryz.sizeOf321
 v173:=Tryz.zeroValue321
 t212:=Tryz.underlying340
 a212:=Tryz.isAgg340
 z212:=Tryz.sizeOf340
 v212:=Tryz.zeroValue340
 t213:=Tryz.underlying341
 a213:=Tryz.isAgg341
 z213:=Tryz.sizeOf341
 t232:=Tryz.underlying365
 a232:=Tryz.isAgg365
 z232:=Tryz.sizeOf365
 v232:=Tryz.zeroValue365
 t233:=Tryz.underlying366
 a233:=Tryz.isAgg366
 z233:=Tryz.sizeOf366
 v233:=Tryz.zeroValue366
 g17:=by kernel_rfl
 g18:=by kernel_rfl
 g19:=by kernel_rfl
 i0:=by kernel_rfl
 i2:=by kernel_rfl
 i3:=by kernel_rfl
 i4:=by kernel_rfl
 i5:=by kernel_rfl
 i9:=by kernel_rfl
 i20:=by kernel_rfl
 i37:=by kernel_rfl
 i46:=by kernel_rfl
 i51:=by kernel_rfl
 i53:=by kernel_rfl
 i171:=by kernel_rfl
 i173:=by kernel_rfl
 i212:=by kernel_rfl
 i232:=by kernel_rfl
 i233:=by kernel_rfl
 m17:=by kernel_rfl
 m18:=by kernel_rfl
 m19:=by kernel_rfl }
open Go.RowKit Go.Sort Go.Lib in
theorem Tryz.strconv_Itoa (n:Int) (h0:-9223372036854775808<=n) (h1:n<=9223372036854775807) (w:World) (htab:Lib.TabIs Tryz.prog w "internal/strconv.uint64pow10" .u64 Lib.pow10Tab) :
 Calls Tryz.prog 102 #[.int .i64 n] w fun e w'=>e = .returned (.string ⟨(Lib.itoa n).toArray⟩) /\ ∃ k os,w'=grow (w.drewN k) os:=Any.strconv_Itoa Tryz.laysM171 n h0 h1 w htab
def Tryz.laysC172_ren:Go.Shelf.Ren:=⟨fun | 172=>99 | 244=>145 | 245=>146 | 247=>178 | 279=>179 | 280=>180 | 281=>181 | 282=>182 | 287=>242 | 316=>243 | 171=>102 | 205=>244 | 321=>268 | 322=>269 | 243=>149 | 246=>183 | 283=>245 | 284=>246 | 285=>247 | 286=>248 | 129=>271 | 317=>270 | 318=>272 | 319=>273 | 320=>274 | 337=>278 | 338=>279 | n=>n,fun | 9=>9 | 3=>3 | 75=>148 | 76=>149 | 4=>4 | 5=>5 | 167=>264 | 37=>26 | 0=>0 | 85=>265 | 2=>2 | 168=>267 | 53=>311 | 175=>312 | 46=>227 | 210=>316 | 127=>192 | 145=>338 | 143=>336 | 21=>21 | 171=>318 | 173=>321 | 212=>340 | 51=>277 | 20=>20 | 213=>341 | 232=>365 | 233=>366 | 80=>153 | n=>n,fun | 15=>2 | 16=>3 | 17=>4 | 18=>7 | 19=>8 | n=>n⟩
theorem Tryz.laysC172:Go.Proofs.LaysC.n172 Tryz.prog Tryz.laysC172_ren:={
 mixed:=by kernel_rfl
 f129:=Tryz.func271.trans (congrArg some (by kernel_rfl))
 f171:=Tryz.func102.trans (congrArg some (by kernel_rfl))
 f172:=Tryz.func99.trans (congrArg some (by kernel_rfl))
 f205:=Tryz.func244.trans (congrArg some (by kernel_rfl))
 f243:=Tryz.func149.trans (congrArg some (by kernel_rfl))
 f244:=Tryz.func145.trans (congrArg some (by kernel_rfl))
 f245:=Tryz.func146.trans (congrArg some (by kernel_rfl))
 f246:=Tryz.func183.trans (congrArg some (by kernel_rfl))
 f247:=Tryz.func178.trans (congrArg some (by kernel_rfl))
 f279:=Tryz.func179.trans (congrArg some (by kernel_rfl))
 f280:=Tryz.func180.trans (congrArg some (by kernel_rfl))
 f281:=Tryz.func181.trans (congrArg some (by kernel_rfl))
 f282:=Tryz.func182.trans (congrArg some (by kernel_rfl))
 f283:=Tryz.func245.trans (congrArg some (by kernel_rfl))
 f284:=Tryz.func246.trans (congrArg some (by kernel_rfl))
 f285:=Tryz.func247.trans (congrArg some (by kernel_rfl))
 f286:=Tryz.func248.trans (congrArg some (by kernel_rfl))
 f287:=Tryz.func242.trans (congrArg some (by kernel_rfl))
 f316:=Tryz.func243.trans (congrArg some (by kernel_rfl))
 f317:=Tryz.func270.trans (congrArg some (by kernel_rfl))
 f318:=Tryz.func272.trans (congrArg some (by kernel_rfl))
 f319:=Tryz.func273.trans (congrArg some (by kernel_rfl))
 f320:=Tryz.func274.trans (congrArg some (by kernel_rfl))
 f321:=Tryz.func268.trans (congrArg some (by kernel_rfl))
 f322:=Tryz.func269.trans (congrArg some (by kernel_rfl))
 f337:=Tryz.func278.trans (congrArg some (by kernel_rfl))
 f338:=Tryz.func279.trans (congrArg some (by kernel_rfl))
 t0:=Tryz.underlying0
 a0:=Tryz.isAgg0
 z0:=Tryz.sizeOf0
 v0:=Tryz.zeroValue0
 t2:=Tryz.underlying2
 a2:=Tryz.isAgg2
 z2:=Tryz.sizeOf2
 v2:=Tryz.zeroValue2
 t3:=Tryz.underlying3
 a3:=Tryz.isAgg3
 z3:=Tryz.sizeOf3
 v3:=Tryz.zeroValue3
 t4:=Tryz.underlying4
 a4:=Tryz.isAgg4
 z4:=Tryz.sizeOf4
 v4:=Tryz.zeroValue4
 t5:=Tryz.underlying5
 a5:=Tryz.isAgg5
 z5:=Tryz.sizeOf5
 v5:=Tryz.zeroValue5
 t9:=Tryz.underlying9
 a9:=Tryz.isAgg9
 z9:=Tryz.sizeOf9
 v9:=Tryz.zeroValue9
 t20:=Tryz.underlying20
 a20:=Tryz.isAgg20
 z20:=Tryz.sizeOf20
 v20:=Tryz.zeroValue20
 t21:=Tryz.underlying21
 a21:=Tryz.isAgg21
 z21:=Tryz.sizeOf21
 v21:=Tryz.zeroValue21
 t37:=Tryz.underlying26
 a37:=Tryz.isAgg26
 z37:=Tryz.sizeOf26
 v37:=Tryz.zeroValue26
 t46:=Tryz.underlying227
 a46:=Tryz.isAgg227
 z46:=Tryz.sizeOf227
 v46:=Tryz.zeroValue227
 t51:=Tryz.underlying277
 a51:=Tryz.isAgg277
 z51:=Tryz.sizeOf277
 v51:=Tryz.zeroValue277
 t53:=Tryz.underlying311
 a53:=Tryz.isAgg311
 z53:=Tryz.sizeOf311
 v53:=Tryz.zeroValue311
 t75:=Tryz.underlying148
 a75:=Tryz.isAgg148
 z75:=Tryz.sizeOf148
 v75:=Tryz.zeroValue148
 t76:=Tryz.underlying149
 a76:=Tryz.isAgg149
 z76:=Tryz.sizeOf149
 v76:=Tryz.zeroValue149
 t85:=Tryz.underlying265
 a85:=Tryz.isAgg265
 z85:=Tryz.sizeOf265
 v85:=Tryz.zeroValue265
 t127:=Tryz.underlying192
 a127:=Tryz.isAgg192
 z127:=Tryz.sizeOf192
 v127:=Tryz.zeroValue192
 t143:=Tryz.underlying336
 a143:=Tryz.isAgg336
 z143:=Tryz.sizeOf336
 v143:=Tryz.zeroValue336
 t145:=Tryz.underlying338
 a145:=Tryz.isAgg338
 z145:=Tryz.sizeOf338
 v145:=Tryz.zeroValue338
 t167:=Tryz.underlying264
 a167:=Tryz.isAgg264
 z167:=Tryz.sizeOf264
 v167:=Tryz.zeroValue264
 t168:=Tryz.underlying267
 a168:=Tryz.isAgg267
 z168:=Tryz.sizeOf267
 v168:=Tryz.zeroValue267
 t171:=Tryz.underlying318
 a171:=Tryz.isAgg318
 z171:=Tryz.sizeOf318
 v171:=Tryz.zeroValue318
 t173:=Tryz.underlying321
 a173:=Tryz.isAgg321
 z173:=Tryz.sizeOf321
 v173:=Tryz.zeroValue321
 t175:=Tryz.underlying312
 a175:=Tryz.isAgg312
 z175:=Tryz.sizeOf312
 v175:=Tryz.zeroValue312
 t210:=Tryz.underlying316
 a210:=Tryz.isAgg316
 z210:=Tryz.sizeOf316
 v210:=Tryz.zeroValue316
 t212:=Tryz.underlying340
 a212:=Tryz.isAgg340
 z212:=Tryz.sizeOf340
 v212:=Tryz.zeroValue340
 t213:=Tryz.underlying341
 a213:=Tryz.isAgg341
 z213:=Tryz.sizeOf341
 t232:=Tryz.underlying365
 a232:=Tryz.isAgg365
 z232:=Tryz.sizeOf365
 v232:=Tryz.zeroValue365
 t233:=Tryz.underlying366
 a233:=Tryz.isAgg366
 z233:=Tryz.sizeOf366
 v233:=Tryz.zeroValue366
 g15:=by kernel_rfl
 g16:=by kernel_rfl
 g17:=by kernel_rfl
 g18:=by kernel_rfl
 g19:=by kernel_rfl
 t80:=Tryz.underlying153
 a80:=Tryz.isAgg153
 z80:=Tryz.sizeOf153
 v80:=Tryz.zeroValue153
 i0:=by kernel_rfl
 i2:=by kernel_rfl
 i3:=by kernel_rfl
 i4:=by kernel_rfl
 i5:=by kernel_rfl
 i9:=by kernel_rfl
 i20:=by kernel_rfl
 i21:=by kernel_rfl
 i37:=by kernel_rfl
 i46:=by kernel_rfl
 i51:=by kernel_rfl
 i53:=by kernel_rfl
 i75:=by kernel_rfl
 i76:=by kernel_rfl
 i80:=by kernel_rfl
 i85:=by kernel_rfl
 i127:=by kernel_rfl
 i143:=by kernel_rfl
 i145:=by kernel_rfl
 i167:=by kernel_rfl
 i168:=by kernel_rfl
 i171:=by kernel_rfl
 i173:=by kernel_rfl
 i175:=by kernel_rfl
 i210:=by kernel_rfl
 i212:=by kernel_rfl
 i232:=by kernel_rfl
 i233:=by kernel_rfl
 m15:=by kernel_rfl
 m16:=by kernel_rfl
 m17:=by kernel_rfl
 m18:=by kernel_rfl
 m19:=by kernel_rfl
 c0:=by kernel_rfl
 c2:=by kernel_rfl
 c3:=by kernel_rfl
 c4:=by kernel_rfl
 c5:=by kernel_rfl
 c9:=by kernel_rfl
 c20:=by kernel_rfl
 c21:=by kernel_rfl
 c37:=by kernel_rfl
 c46:=by kernel_rfl
 c51:=by kernel_rfl
 c53:=by kernel_rfl
 c75:=by kernel_rfl
 c76:=by kernel_rfl
 c80:=by kernel_rfl
 c85:=by kernel_rfl
 c127:=by kernel_rfl
 c143:=by kernel_rfl
 c145:=by kernel_rfl
 c167:=by kernel_rfl
 c168:=by kernel_rfl
 c171:=by kernel_rfl
 c173:=by kernel_rfl
 c175:=by kernel_rfl
 c210:=by kernel_rfl
 c212:=by kernel_rfl
 c213:=by kernel_rfl
 c232:=by kernel_rfl
 c233:=by kernel_rfl }
open Go.RowKit in
theorem Tryz.strconv_Atoi_ok (s:ByteArray) (hmax:s.size<=9223372036854775806) (v:Int) (h:Lib.atoiAll s.data.toList = .ok v) (w:World) :
 Calls Tryz.prog 99 #[.string s] w fun e w'=>e = .returned (.tuple #[.int .i64 v,.nilIface])/\(w'=w \/ ∃ t,w'=Lib.bytesWorld w 5 t):=Any.strconv_Atoi_ok Tryz.laysC172 s hmax v h w
def Tryz.lays145_ren:Go.Shelf.Ren:=⟨fun | 145=>57 | 220=>97 | 219=>105 | 217=>151 | 225=>152 | 224=>153 | 267=>154 | 266=>187 | 314=>188 | n=>n,fun | 9=>9 | 4=>4 | 59=>140 | 3=>3 | 5=>5 | 46=>227 | 146=>278 | 51=>277 | n=>n,fun | 1=>0 | n=>n⟩
theorem Tryz.lays145:Go.Proofs.Lays.n145 Tryz.prog Tryz.lays145_ren:={
 mixed:=by kernel_rfl
 f145:=Tryz.func57.trans (congrArg some (by kernel_rfl))
 f217:=Tryz.func151.trans (congrArg some (by kernel_rfl))
 f219:=Tryz.func105.trans (congrArg some (by kernel_rfl))
 f220:=Tryz.func97.trans (congrArg some (by kernel_rfl))
 f224:=Tryz.func153.trans (congrArg some (by kernel_rfl))
 f225:=Tryz.func152.trans (congrArg some (by kernel_rfl))
 f266:=Tryz.func187.trans (congrArg some (by kernel_rfl))
 f267:=Tryz.func154.trans (congrArg some (by kernel_rfl))
 f314:=Tryz.func188.trans (congrArg some (by kernel_rfl))
 t3:=Tryz.underlying3
 a3:=Tryz.isAgg3
 z3:=Tryz.sizeOf3
 v3:=Tryz.zeroValue3
 t4:=Tryz.underlying4
 a4:=Tryz.isAgg4
 z4:=Tryz.sizeOf4
 v4:=Tryz.zeroValue4
 t5:=Tryz.underlying5
 a5:=Tryz.isAgg5
 z5:=Tryz.sizeOf5
 v5:=Tryz.zeroValue5
 t9:=Tryz.underlying9
 a9:=Tryz.isAgg9
 z9:=Tryz.sizeOf9
 v9:=Tryz.zeroValue9
 t46:=Tryz.underlying227
 a46:=Tryz.isAgg227
 z46:=Tryz.sizeOf227
 v46:=Tryz.zeroValue227
 t51:=Tryz.underlying277
 a51:=Tryz.isAgg277
 z51:=Tryz.sizeOf277
 v51:=Tryz.zeroValue277
 t59:=Tryz.underlying140
 a59:=Tryz.isAgg140
 z59:=Tryz.sizeOf140
 v59:=Tryz.zeroValue140
 t146:=Tryz.underlying278
 a146:=Tryz.isAgg278
 z146:=Tryz.sizeOf278
 v146:=Tryz.zeroValue278
 g1:=by kernel_rfl }
open Go.RowKit Go.Lib in
theorem Tryz.strings_Cut (s sep:ByteArray) (m:Int) (w:World) (hs:s.size < 4294967281) (hm:w.cell? ⟨0,0,none⟩=some (.int .i64 m)) :
 Calls Tryz.prog 57 #[.string s,.string sep] w fun e w'=>e = .returned (.tuple #[.string ⟨(Lib.cut s.data.toList sep.data.toList).1.toArray⟩,.string ⟨(Lib.cut s.data.toList sep.data.toList).2.1.toArray⟩,.bool (Lib.cut s.data.toList sep.data.toList).2.2]) /\ ∃ n,w'=w.drewN n:=Any.strings_Cut Tryz.lays145 s sep m w hs hm
open Go.RowKit Go.Lib in
def Tryz.lays146_ren:Go.Shelf.Ren:=⟨fun | 146=>98 | 221=>144 | 268=>177 | 138=>43 | 143=>70 | 195=>68 | 197=>241 | 218=>69 | 219=>105 | 260=>267 | 217=>151 | 225=>152 | 224=>153 | 267=>154 | 266=>187 | 314=>188 | n=>n,fun | 9=>9 | 31=>186 | 3=>3 | 4=>4 | 0=>0 | 105=>309 | 21=>21 | 5=>5 | 46=>227 | 119=>355 | 139=>358 | 138=>357 | 146=>278 | 51=>277 | n=>n,fun | 1=>0 | 3=>5 | 4=>6 | n=>n⟩
theorem Tryz.lays146:Go.Proofs.Lays.n146 Tryz.prog Tryz.lays146_ren:={
 mixed:=by kernel_rfl
 f138:=Tryz.func43.trans (congrArg some (by kernel_rfl))
 f143:=Tryz.func70.trans (congrArg some (by kernel_rfl))
 f146:=Tryz.func98.trans (congrArg some (by kernel_rfl))
 f195:=Tryz.func68.trans (congrArg some (by kernel_rfl))
 f197:=Tryz.func241.trans (congrArg some (by kernel_rfl))
 f217:=Tryz.func151.trans (congrArg some (by kernel_rfl))
 f218:=Tryz.func69.trans (congrArg some (by kernel_rfl))
 f219:=Tryz.func105.trans (congrArg some (by kernel_rfl))
 f221:=Tryz.func144.trans (congrArg some (by kernel_rfl))
 f224:=Tryz.func153.trans (congrArg some (by kernel_rfl))
 f225:=Tryz.func152.trans (congrArg some (by kernel_rfl))
 f260:=Tryz.func267.trans (congrArg some (by kernel_rfl))
 f266:=Tryz.func187.trans (congrArg some (by kernel_rfl))
 f267:=Tryz.func154.trans (congrArg some (by kernel_rfl))
 f268:=Tryz.func177.trans (congrArg some (by kernel_rfl))
 f314:=Tryz.func188.trans (congrArg some (by kernel_rfl))
 t0:=Tryz.underlying0
 a0:=Tryz.isAgg0
 z0:=Tryz.sizeOf0
 v0:=Tryz.zeroValue0
 t3:=Tryz.underlying3
 a3:=Tryz.isAgg3
 z3:=Tryz.sizeOf3
 v3:=Tryz.zeroValue3
 t4:=Tryz.underlying4
 a4:=Tryz.isAgg4
 z4:=Tryz.sizeOf4
 v4:=Tryz.zeroValue4
 t5:=Tryz.underlying5
 a5:=Tryz.isAgg5
 z5:=Tryz.sizeOf5
 v5:=Tryz.zeroValue5
 t9:=Tryz.underlying9
 a9:=Tryz.isAgg9
 z9:=Tryz.sizeOf9
 v9:=Tryz.zeroValue9
 t21:=Tryz.underlying21
 a21:=Tryz.isAgg21
 z21:=Tryz.sizeOf21
 v21:=Tryz.zeroValue21
 t31:=Tryz.underlying186
 a31:=Tryz.isAgg186
 z31:=Tryz.sizeOf186
 v31:=Tryz.zeroValue186
 t46:=Tryz.underlying227
 a46:=Tryz.isAgg227
 z46:=Tryz.sizeOf227
 v46:=Tryz.zeroValue227
 t51:=Tryz.underlying277
 a51:=Tryz.isAgg277
 z51:=Tryz.sizeOf277
 v51:=Tryz.zeroValue277
 t105:=Tryz.underlying309
 a105:=Tryz.isAgg309
 z105:=Tryz.sizeOf309
 v105:=Tryz.zeroValue309
 t119:=Tryz.underlying355
 a119:=Tryz.isAgg355
 z119:=Tryz.sizeOf355
 t138:=Tryz.underlying357
 a138:=Tryz.isAgg357
 z138:=Tryz.sizeOf357
 v138:=Tryz.zeroValue357
 t139:=Tryz.underlying358
 a139:=Tryz.isAgg358
 z139:=Tryz.sizeOf358
 v139:=Tryz.zeroValue358
 t146:=Tryz.underlying278
 a146:=Tryz.isAgg278
 z146:=Tryz.sizeOf278
 v146:=Tryz.zeroValue278
 g1:=by kernel_rfl
 g3:=by kernel_rfl
 g4:=by kernel_rfl }
open Go.RowKit Go.Lib in
theorem Tryz.strings_Split (s sep:ByteArray) (m:Int) (w:World) (hs:s.size < 4294967281) (hm:w.cell? ⟨0,0,none⟩=some (.int .i64 m)) (h1:1<=sep.size) :
 Calls Tryz.prog 98 #[.string s,.string sep] w fun e w' =>
  e = .returned (.slice (some ⟨w.heap.size,0,none⟩) (Lib.countB s sep+1) (Lib.countB s sep+1))/\w'=w.alloc (.cells ((Lib.splitB sep 0 (Lib.countB s sep) s).map Value.string).toArray 9):=Any.strings_Split Tryz.lays146 (by kernel_rfl) s sep m w hs hm h1
end Go.Proofs
namespace Go.Proofs.YtbhpfkjfijdmaaaGreatDoor
open Go.ChangeShapes Go.WideShapes Go.ChangeAt Go.RowKit
set_option linter.unusedVariables false
set_option maxRecDepth 100000
set_option maxHeartbeats 1600000
structure Tp.F (w : World) : Prop where
 pow:Lib.TabIs Tryz.prog w "internal/strconv.uint64pow10" .u64 Lib.pow10Tab
 len:∃ m,w.cell? ⟨0,0,none⟩=some (.int .i64 m)
 syn:∃ ev,w.cell? ⟨2,0,none⟩=some ev/\(ev = .nilIface \/ ∃ te pe,ev = .iface te pe)
 ran:∃ ev,w.cell? ⟨3,0,none⟩=some ev/\(ev = .nilIface \/ ∃ te pe,ev = .iface te pe)
theorem Tp.g_pow:Tryz.prog.globalNamed "internal/strconv.uint64pow10" = some 4:=by kernel_rfl
theorem Tp.F.kept {w w':World} (h:Tp.F w) (hb:Below w.heap.size w w'):Tp.F w':=by
 obtain ⟨t,⟨m,hm⟩,⟨e1,h1,k1⟩,⟨e2,h2,k2⟩⟩:=h
 exact ⟨Joins.tab_stays Tp.g_pow t hb (Nat.le_refl _),⟨m,(hb.cell (World.block_lt_of_cell? w _ hm)).trans hm⟩,⟨e1,(hb.cell (World.block_lt_of_cell? w _ h1)).trans h1,k1⟩,⟨e2,(hb.cell (World.block_lt_of_cell? w _ h2)).trans h2,k2⟩⟩
theorem Tp.below_grow (w:World) (k:Nat) (os:Array Obj):Below w.heap.size w (Sort.grow (w.drewN k) os):=by
 have h:∀ k,Below w.heap.size w (w.drewN k):=fun k=>by
  induction k with
  | zero=>exact st0 w
  | succ k ih=>exact ih.drew
 refine (h k).trans ⟨rfl,rfl,rfl,by simp [Sort.grow],fun i hi=>?_⟩
 have:(w.drewN k).heap.size=w.heap.size:=by simp
 show ((w.drewN k).heap++os)[i]? = _
 rw [Array.getElem?_append_left (by omega)]
theorem Tp.itoa_any (n:Int) (h0:-9223372036854775808<=n) (h1:n<=9223372036854775807) (w:World) (h:Tp.F w) :
 Calls Tryz.prog 102 #[.int .i64 n] w fun e w'=>e = .returned (.string (mk (Lib.itoa n)))/\Below w.heap.size w w':=by
 refine (Tryz.strconv_Itoa n h0 h1 w h.pow).mono fun e w' ⟨he,k,os,hw⟩=>⟨he,?_⟩
 subst hw
 exact Tp.below_grow w k os
structure Tp.In where
 c:Int
 p:Int
 d:Nat
structure Tp.In.ok (x : Tp.In) : Prop where
 c0:-9223372036854775808<=x.c
 c1:x.c<=9223372036854775807
 p0:-9223372036854775808<=x.p
 p1:x.p<=9223372036854775807
 d:x.d < 256
def Tp.In.line (x:Tp.In):List UInt8:=Lib.itoa x.c++[32]++Lib.itoa x.p++[32]++Tp.btn x.d
theorem Tp.In.line_len {x:Tp.In} (h:x.ok):x.line.length<=60:=by
 have h1:=Lib.itoa_length_le x.c h.c0 h.c1
 have h2:=Lib.itoa_length_le x.p h.p0 h.p1
 unfold Tp.In.line
 simp only [List.length_append,List.length_cons,List.length_nil,Tp.btn_len]
 omega
def Tp.In.val (x:Tp.In):Array Value:=#[.int .i64 x.c,.int .i64 x.p,.int .u8 x.d]
structure Tp.Lw (w : World) (b : Nat) (c p d : Int) (w' : World) : Prop where
 low:Below w.heap.size w w'
 fc:Tp.F w'
 bx:Bx w' b [.int .i64 c,.int .i64 p,.int .u8 d]
theorem Tp.Lw.all {w w':World} {b:Nat} {c p d:Int} (h:Tp.Lw w b c p d w'):w'.cell? ⟨b,0,none⟩=some (.int .i64 c)/\w'.cell? ⟨b,1,none⟩=some (.int .i64 p)/\w'.cell? ⟨b,2,none⟩=some (.int .u8 d)/\Tp.Lw w b c p d w' :=
 ⟨h.bx.at 0 _ rfl,h.bx.at 1 _ rfl,h.bx.at 2 _ rfl,h⟩
theorem Tp.Lw.kept {w w' w1:World} {b:Nat} {c p d:Int} (h:Tp.Lw w b c p d w') (hb:Below w'.heap.size w' w1):Tp.Lw w b c p d w1:=⟨stp h.low hb,h.fc.kept hb,h.bx.kept hb⟩
theorem Tp.Lw.drew {w w':World} {b:Nat} {c p d:Int} (h:Tp.Lw w b c p d w'):Tp.Lw w b c p d w'.drew:=h.kept (st0 w').drew
theorem Tp.lw_keep {w w' w1:World} {b:Nat} {c p d:Int} (h:w'.cell? ⟨b,0,none⟩=some (.int .i64 c)/\w'.cell? ⟨b,1,none⟩=some (.int .i64 p)/\w'.cell? ⟨b,2,none⟩=some (.int .u8 d)/\Tp.Lw w b c p d w') (hb:Below w'.heap.size w' w1) :
 w1.cell? ⟨b,0,none⟩=some (.int .i64 c)/\w1.cell? ⟨b,1,none⟩=some (.int .i64 p)/\w1.cell? ⟨b,2,none⟩=some (.int .u8 d)/\Tp.Lw w b c p d w1:=(h.2.2.2.kept hb).all
theorem Tp.mk_app (a b:List UInt8):mk a++mk b=mk (a++b):=by
 apply ByteArray.ext
 rw [ByteArray.data_append]
 simp [mk]
theorem Tp.line_any (x:Tp.In) (hx:x.ok) (w:World) (hF:Tp.F w):Calls Tryz.prog 60 #[.agg x.val] w fun e w'=>e = .returned (.string (mk x.line))/\Below w.heap.size w w':=by
 obtain ⟨c,p,d⟩:=x
 obtain ⟨c0,c1,p0,p1,hd⟩:=hx
 simp only at c0 c1 p0 p1 hd
 have h1:=Lib.itoa_length_le c c0 c1
 have h2:=Lib.itoa_length_le p p0 p1
 have HK:Hid (Tp.Lw w w.heap.size c p d (w.alloc (.cells #[.int .i64 c,.int .i64 p,.int .u8 d] 54))):=hid ⟨stA (st0 w) _,hF.kept (stA (st0 w) _),Bx.new w [.int .i64 c,.int .i64 p,.int .u8 d] _ rfl⟩
 show Calls Tryz.prog 60 #[.agg #[.int .i64 c,.int .i64 p,.int .u8 d]] w fun e w'=>e = .returned (.string (mk (Lib.itoa c++[32]++Lib.itoa p++[32]++Tp.btn d)))/\Below w.heap.size w w'
 have e1:(mk (Lib.itoa c))++(⟨#[32]⟩:ByteArray)=mk (Lib.itoa c++[32]):=Tp.mk_app _ [32]
 clear hF
 generalize hA:Lib.itoa c=A at *
 generalize hB:Lib.itoa p=B at *
 generalize hD:Tp.btn d=D at *
 have h3:D.length=8:=by rw [<- hD];rfl
 have zA:(mk A).size=A.length:=rfl
 have zB:(mk B).size=B.length:=rfl
 have zD:(mk D).size=D.length:=rfl
 have s1:¬ 9223372036854775807 < (mk A).size+1:=by omega
 have s2:¬ 9223372036854775807 < (mk A).size+1+(mk B).size:=by omega
 have s3:¬ 9223372036854775807 < (mk A).size+1+(mk B).size+1:=by omega
 have s4:¬ 9223372036854775807 < (mk A).size+1+(mk B).size+1+(mk D).size:=by omega
 clear zA zB zD h1 h2 h3 e1
 go_enter Tryz.func60,Tryz.ntmps60
 go_wp2
 go_region_held3 (fun w'=>w'.cell? ⟨w.heap.size,0,none⟩=some (.int .i64 c)/\w'.cell? ⟨w.heap.size,1,none⟩=some (.int .i64 p)/\w'.cell? ⟨w.heap.size,2,none⟩=some (.int .u8 d)/\Tp.Lw w w.heap.size c p d w')
  (first
    | with_reducible exact Tp.Lw.all HK.out.drew
    | with_reducible exact Tp.lw_keep (by assumption) (by assumption)
    | (go_keep;done))
  (first
    | (go_at_call 102;have hq:=HX1.out;clear hq;refine (Tp.itoa_any p p0 p1 _ HX1.out.fc).mono ?_;rw [hB];rintro e w2 ⟨rfl,hb2⟩;have HX2:=hid (HX1.out.kept hb2))
    | (go_at_call 102;refine (Tp.itoa_any c c0 c1 _ HK.out.drew.fc).mono ?_;rw [hA];rintro e w1 ⟨rfl,hb1⟩;have HX1:=hid (HK.out.drew.kept hb1))
    | (go_at_call 103;refine (Tp.buttons_any d hd _).mono ?_;rw [hD];rintro e w3 ⟨rfl,hb3⟩))
 go_wp2
 go_ret
 refine ⟨?_,(HX2.out.kept hb3).low⟩
 rw [show (⟨#[32]⟩:ByteArray)=mk [32] from rfl,Tp.mk_app,Tp.mk_app,Tp.mk_app,Tp.mk_app]
 simp
def Tp.InAt (B:Nat) (w:World) (v:Value) (l:List Tp.In):Prop :=
 (l=[] /\ ∃ a c,v = .slice a 0 c) \/ ∃ g o cap,v = .slice (some ⟨g,o,none⟩) l.length cap/\l.length<=cap/\g < B/\g < w.heap.size /\
  ∀ j x,l[j]? = some x->w.cell? ⟨g,o+3 * j,none⟩=some (.int .i64 x.c)/\w.cell? ⟨g,o+3 * j+1,none⟩=some (.int .i64 x.p)/\w.cell? ⟨g,o+3 * j+2,none⟩=some (.int .u8 x.d)
theorem Tp.InAt.kept {B:Nat} {w w1:World} {v:Value} {l:List Tp.In} (h:Tp.InAt B w v l) (hb:Below B w w1):Tp.InAt B w1 v l:=by
 rcases h with h | ⟨g,o,cap,h1,h2,h3,h4,h5⟩
 ·exact Or.inl h
 ·refine Or.inr ⟨g,o,cap,h1,h2,h3,Nat.lt_of_lt_of_le h4 hb.size,fun j x hj=>?_⟩
  obtain ⟨e1,e2,e3⟩:=h5 j x hj
  exact ⟨(World.cell?_of_block (w:=w) (hb.block g h3)).trans e1,(World.cell?_of_block (w:=w) (hb.block g h3)).trans e2,(World.cell?_of_block (w:=w) (hb.block g h3)).trans e3⟩
theorem Tp.InAt.len {B:Nat} {w:World} {v:Value} {l:List Tp.In} (h:Tp.InAt B w v l):∃ a c,v = .slice a l.length c:=by
 rcases h with ⟨rfl,a,c,rfl⟩ | ⟨g,o,cap,h1,_⟩
 ·exact ⟨a,c,rfl⟩
 ·exact ⟨_,_,h1⟩
theorem Tp.InAt.at' {B:Nat} {w:World} {v:Value} {l:List Tp.In} (h:Tp.InAt B w v l) {j:Nat} {x:Tp.In} (hx:l[j]? = some x):∃ g o k,v = .slice (some ⟨g,o,none⟩) l.length k/\g < w.heap.size/\w.cell? ⟨g,o+j * 3,none⟩=some (.int .i64 x.c)/\w.cell? ⟨g,o+j * 3+1,none⟩=some (.int .i64 x.p)/\w.cell? ⟨g,o+j * 3+2,none⟩=some (.int .u8 x.d):=by
 rcases h with ⟨rfl,_⟩ | ⟨g,o,k,h1,h2,h3,h4,h5⟩
 ·simp at hx
 ·obtain ⟨e1,e2,e3⟩:=h5 j x hx
  rw [Nat.mul_comm 3 j] at e1 e2 e3
  exact ⟨g,o,k,h1,h4,e1,e2,e3⟩
def Tp.chkL:List Tp.In->Int->Int
 | [],_=>0
 | x :: l,a=>if x.c < a \/ 400000 < x.c then 3 else if x.p=0 \/ x.p=1 then Tp.chkL l x.c else 5
def Tp.chkIn (l:List Tp.In) (a:Int):Int:=if 40 < l.length then 2 else Tp.chkL l a
theorem Tp.chk3 {x:Tp.In} {l:List Tp.In} {a:Int} (h:x.c < a \/ 400000 < x.c):Tp.chkL (x :: l) a=3:=if_pos h
theorem Tp.chk0 {x:Tp.In} {l:List Tp.In} {a:Int} (h:¬ (x.c < a \/ 400000 < x.c)) (hp:x.p=0 \/ x.p=1):Tp.chkL (x :: l) a=Tp.chkL l x.c:=(if_neg h).trans (if_pos hp)
theorem Tp.chk5 {x:Tp.In} {l:List Tp.In} {a:Int} (h:¬ (x.c < a \/ 400000 < x.c)) (hp:¬ (x.p=0 \/ x.p=1)):Tp.chkL (x :: l) a=5:=(if_neg h).trans (if_neg hp)
theorem Tp.checkInputs (l:List Tp.In) (v:Value) (B:Nat) (a:Int) (w:World) (h:Tp.InAt B w v l) (hB:B<=w.heap.size):Calls Tryz.prog 48 #[v,.int .i64 a] w fun e w'=>e = .returned (.int .i64 (Tp.chkIn l a))/\Below w.heap.size w w':=by
 obtain ⟨a1,k1,e1⟩:=h.len
 subst e1
 by_cases hl:40 < l.length
 ·have hl':(40:Int) < l.length:=by omega
  have e0:Tp.chkIn l a=2:=if_pos hl
  rw [e0]
  clear h e0
  go_enter Tryz.func48,Tryz.ntmps48
  go_wp2
  go_ret
  exact ⟨rfl,st0 w⟩
 ·have hl':¬ (40:Int) < l.length:=by omega
  have e0:Tp.chkIn l a=Tp.chkL l a:=if_neg hl
  rw [e0]
  have H:=hid h
  clear h e0
  go_enter Tryz.func48,Tryz.ntmps48
  go_wp2
  go_loopw [14,5] (fun i ah wr=>∃ (j:Nat) (a':Int),j<=l.length/\i = .int .i64 j/\ah = .int .i64 a'/\Tp.chkL (l.drop j) a'=Tp.chkL l a/\Below w.heap.size w wr) (fun i _ _=>l.length - (intOf i).toNat)
  case atStart=>exact ⟨0,a,Nat.zero_le _,rfl,rfl,rfl,st0 w⟩
  case round =>
   obtain ⟨j,a',hj,rfl,rfl,hE,hb⟩:=hrel
   have HE:=hid hE
   have HB:=hid hb
   by_cases hlt:j < l.length
   ·obtain ⟨x,hx⟩:∃ x,l[j]? = some x:=⟨_,List.getElem?_eq_getElem hlt⟩
    have hd:l.drop j=x :: l.drop (j+1):=by
     rw [List.drop_eq_getElem_cons hlt]
     congr 1
     rw [List.getElem?_eq_getElem hlt] at hx
     exact Option.some.inj hx
    have HH:=(H.out.kept (hb.mono hB))
    obtain ⟨g,o,k,ev,gz,x0,x1,x2⟩:=HH.at' hx
    cases ev
    have hjl:(j:Int) < l.length:=by omega
    have hj0:(0:Int)<=j:=by omega
    have HD:=hid hd
    clear hE hb hd hx HH
    by_cases q1:x.c < a'
    ·go_wp2
     go_ret
     exact ⟨by rw [<- HE.out,HD.out,Tp.chk3 (Or.inl q1)];rfl,stA HB.out _⟩
    ·have q1':a'<=x.c:=by omega
     by_cases q2:400000 < x.c
     ·go_wp2
      go_ret
      exact ⟨by rw [<- HE.out,HD.out,Tp.chk3 (Or.inr q2)];rfl,stA HB.out _⟩
     ·have q2':x.c<=400000:=by omega
      have HQ:Hid (¬ (x.c < a' \/ 400000 < x.c)):=fun e=>e.elim (fun e=>by omega) (fun e=>by omega)
      clear q1 q2
      by_cases q3:x.p=0
      ·have HP:=hid q3
       rw [q3] at x1
       clear q3
       go_wp2
       exact ⟨⟨j+1,x.c,by omega,by simp,rfl,by rw [<- HE.out,HD.out,Tp.chk0 HQ.out (Or.inl HP.out)],stA HB.out _⟩,by simp [intOf];omega⟩
      ·by_cases q4:x.p=1
       ·have HP:=hid q4
        rw [q4] at x1
        clear q3 q4
        go_wp2
        exact ⟨⟨j+1,x.c,by omega,by simp,rfl,by rw [<- HE.out,HD.out,Tp.chk0 HQ.out (Or.inr HP.out)],stA HB.out _⟩,by simp [intOf];omega⟩
       ·have HP:Hid (¬ (x.p=0 \/ x.p=1)):=fun e=>e.elim q3 q4
        have q3':(x.p != 0)=true:=by simpa using q3
        have q4':(x.p != 1)=true:=by simpa using q4
        clear q3 q4
        go_wp2
        all_goals first
         | (exfalso;simp_all;done)
         | (go_ret;exact ⟨by rw [<- HE.out,HD.out,Tp.chk5 HQ.out HP.out];rfl,stA HB.out _⟩)
   ·have hj2:j=l.length:=by omega
    subst hj2
    have hnl:¬ (l.length:Int) < l.length:=by omega
    clear hE hb
    go_wp2
    go_ret
    refine ⟨?_,HB.out⟩
    have:=HE.out
    rw [List.drop_length] at this
    rw [<- this];rfl
theorem Tp.maxLen_cell {W:World} (h:W.ShapedOpen Tryz.prog):∃ m,W.cell? ⟨0,0,none⟩=some (.int .i64 m) :=
 cell_of_shapedOpen_int (t:=3) (zero:=#[.int .i64 0]) h (by decide +kernel) (by kernel_rfl) rfl (by kernel_rfl) (by kernel_rfl) Tryz.underlying3
theorem Tp.returns_and_shaped {H:Type} {enc:TypeId × Value->H} {a:Assume} {C:Checked} {os:Os} {f:FuncId} {fn:Func} {s:ChangeSpec} {conds:List PathCond} {apart fresh handsOn again:Bool} {X:World->Array Value->Prop}
 (hX:∀ (w w':World) (args:Array Value),w.heap=w'.heap->X w args->X w' args)
 (hown:ownKnob C.prog.godebug=none) (started:os.Started) (noInit:C.prog.inits.idxOf? f=none) (hfn:C.prog.funcs[f]? = some fn)
 (witness:∃ (w:World) (tape:Tape) (i:Input),w.os=os/\(w.forCall tape i).Shaped C.prog/\i.vars=[]/\Input.okWide C.prog (w.forCall tape i) .any w.heap.size f i /\
   ((s.pre enc C.prog fn conds apart (w.forCall tape i).memory i.args/\X (w.forCall tape i).memory i.args)/\sizedMet enc C.prog fn (OpenSpec.ofChange s) apart (w.forCall tape i).memory i.args)/\a.holds C.prog (lone (Frame.enter C.prog f i.args .normal) [] (w.forCall tape i)))
 (contract:∀ (W:World) (base:Nat) (args:Array Value) (ds gs:List (DataW H)) (before:List MemPlace),
   (∀ (j:Nat) t v,fn.params[j]? = some t->args[j]? = some v->Value.okWide C.prog W .any base t v) ->
   DataW.Whole enc C.prog fn.params.toList s.vars apart W args.toList ds gs before ->
   conds.all (PathCond.test C.prog ⟨fn.params.toList,ds,s.plain.varTypes C.prog,gs⟩)=true ->
   (DataW.weightsEach C.prog (fn.params.toList++s.plain.varTypes C.prog) (ds++gs)).all (· <= reachBytes)=true->X W args->W.ShapedOpen C.prog ->
   a.holds C.prog (lone (Frame.enter C.prog f args .normal) [] W) ->
   Calls C.prog f args W fun e W'=>∃ v,e = .returned v/\s.post enc C.prog fn apart fresh handsOn again W args v W') :
 ReturnsInHanded a C os f .any (fun w args=>(s.pre enc C.prog fn conds apart w args/\X w args)/\sizedMet enc C.prog fn (OpenSpec.ofChange s) apart w args) (s.post enc C.prog fn apart fresh handsOn again):=by
 refine returnsInHanded_of_calls hown started noInit witness ?_
 intro w tape i _ hsh _ hok hpre hholds
 obtain ⟨_,_,_,fn',hfn',_,_,_,_,hval⟩:=hok
 obtain rfl:fn'=fn:=Option.some.inj (hfn'.symm.trans hfn)
 obtain ⟨⟨⟨ds,gs,before,hw,hc⟩,hx⟩,hz⟩:=hpre
 refine (contract (w.forCall tape i) w.heap.size i.args ds gs before hval (DataW.Whole.of_heap (w':=w.forCall tape i) (by rfl) hw) hc (hz.weights hw) (hX _ _ _ (by rfl) hx) hsh hholds).mono fun e W' ⟨v,he,hp⟩=>?_
 subst he
 exact ChangeSpec.post_blind hp
theorem Tp.pow_of_laid {W:World} {l:List (String × DataW Unit)} (h:laidMet Tryz.prog l W) (hm:("internal/strconv.uint64pow10",Rows.laid_internal_strconv_uint64pow10) ∈ l) :
 Lib.TabIs Tryz.prog W "internal/strconv.uint64pow10" .u64 Lib.pow10Tab:=by
 obtain ⟨g,t,cs,fuel,p,hg,ht,hv,hd⟩:=Lib.laidMet.reads h hm
 have e2:(Tryz.prog.globals[4]?).map (·.type)=some 340:=by kernel_rfl
 obtain rfl:=Option.some.inj (Tp.g_pow.symm.trans hg)
 obtain rfl:=Option.some.inj (e2.symm.trans ht)
 have e3:(Rows.laid_internal_strconv_uint64pow10:DataW Unit)=Lib.tabData .u64 Lib.pow10Tab:=by kernel_rfl
 rw [e3] at hd
 unfold Lib.TabIs
 rw [hv,<- Lib.cells_of_tab Tryz.underlying340 Tryz.underlying311 (by kernel_rfl) (by kernel_rfl) hd]
theorem Tp.iface_laid {P:Program} {W:World} {l:List (String × DataW Unit)} {n nm:String} {d:DataW Unit} {g:Nat} {ti:TypeId} {ms:Array (String × TypeId)} (h:laidMet P l W) (hm:(n,.iface nm d) ∈ l)
 (hg:P.globalNamed n=some g) (ht:(P.globals[g]?).map (·.type)=some ti) (hi:P.underlying ti=some (.interface ms)) :
 ∃ ev,W.cell? ⟨g,0,none⟩=some ev/\(ev = .nilIface \/ ∃ te pe,ev = .iface te pe):=by
 obtain ⟨g0,t,cs,fuel,p,hg0,ht0,hv,hd⟩:=Lib.laidMet.reads h hm
 obtain rfl:=Option.some.inj (hg.symm.trans hg0)
 obtain rfl:=Option.some.inj (ht.symm.trans ht0)
 obtain ⟨l0⟩:=cs
 obtain ⟨f1,u,v,e,_⟩:=iface_of_trod hi hd
 refine ⟨.iface u v,?_,Or.inr ⟨u,v,rfl⟩⟩
 have h0:=World.var?_cell hg hv 0
 rw [h0]
 simp only at e
 subst e
 rfl
theorem Tp.g_syn:Tryz.prog.globalNamed "strconv.ErrSyntax" = some 2:=by kernel_rfl
theorem Tp.g_ran:Tryz.prog.globalNamed "strconv.ErrRange" = some 3:=by kernel_rfl
theorem Tp.f_of {W:World} {l:List (String × DataW Unit)} (h:laidMet Tryz.prog l W) (hs:W.ShapedOpen Tryz.prog) (h0:("internal/strconv.uint64pow10",Rows.laid_internal_strconv_uint64pow10) ∈ l) (h1:("strconv.ErrSyntax",Rows.laid_strconv_ErrSyntax) ∈ l) (h2:("strconv.ErrRange",Rows.laid_strconv_ErrRange) ∈ l):Tp.F W :=
 ⟨Tp.pow_of_laid h h0,Tp.maxLen_cell hs,Tp.iface_laid h h1 Tp.g_syn (by kernel_rfl) Tryz.underlying148,Tp.iface_laid h h2 Tp.g_ran (by kernel_rfl) Tryz.underlying148⟩
end Go.Proofs.YtbhpfkjfijdmaaaGreatDoor
