import Derived.Shelf.Strings.OnBuilder
import Derived.Shelf.Small.Wraps
import Derived.Shelf.Strconv.Itoa3
import Derived.Shelf.Strconv.AtoiAll
import Derived.Shelf.Strconv.ParseUint10At
import Derived.Shelf.Strings.Shaped
import Derived.Shelf.Strings.SplitShaped
import Derived.Shelf.Strings.FuncGrows
import Derived.Shelf.Slices.Turned
import Derived.Test.YtcbilopdeiapjaaGreatDoorRgat
set_option maxHeartbeats 16000000
set_option maxRecDepth 100000
open Go.Proofs.Tryz
namespace Go.Proofs.YtcbilopdeiapjaaGreatDoor
open Go Go.Shelf
def Tryz.lays156_ren:Go.Shelf.Ren:=⟨fun | 156=>240 | 165=>252 | 166=>253 | 169=>254 | 240=>258 | 241=>259 | 276=>260 | 277=>261 | n=>n,fun | 31=>24 | 9=>9 | 3=>3 | 4=>4 | 0=>0 | 20=>20 | 72=>290 | 76=>161 | 70=>288 | 37=>61 | 75=>153 | 127=>283 | 164=>294 | 5=>5 | 80=>292 | n=>n,fun | n=>n⟩
theorem Tryz.lays156:Go.Proofs.Lays.n156 prog Tryz.lays156_ren:={
 mixed:=by kernel_rfl
 f156:=func240.trans (congrArg some (by kernel_rfl))
 f165:=func252.trans (congrArg some (by kernel_rfl))
 f166:=func253.trans (congrArg some (by kernel_rfl))
 f169:=func254.trans (congrArg some (by kernel_rfl))
 f240:=func258.trans (congrArg some (by kernel_rfl))
 f241:=func259.trans (congrArg some (by kernel_rfl))
 f276:=func260.trans (congrArg some (by kernel_rfl))
 f277:=func261.trans (congrArg some (by kernel_rfl))
 t0:=underlying0
 a0:=Tryz.isAgg0
 z0:=Tryz.sizeOf0
 v0:=Tryz.zeroValue0
 t3:=underlying3
 a3:=Tryz.isAgg3
 z3:=Tryz.sizeOf3
 v3:=Tryz.zeroValue3
 t4:=underlying4
 a4:=Tryz.isAgg4
 z4:=Tryz.sizeOf4
 v4:=Tryz.zeroValue4
 t9:=underlying9
 a9:=Tryz.isAgg9
 z9:=Tryz.sizeOf9
 v9:=Tryz.zeroValue9
 t20:=underlying20
 a20:=Tryz.isAgg20
 z20:=Tryz.sizeOf20
 v20:=Tryz.zeroValue20
 t31:=underlying24
 a31:=Tryz.isAgg24
 z31:=Tryz.sizeOf24
 v31:=Tryz.zeroValue24
 t37:=underlying61
 a37:=Tryz.isAgg61
 z37:=Tryz.sizeOf61
 v37:=Tryz.zeroValue61
 t70:=underlying288
 a70:=Tryz.isAgg288
 z70:=Tryz.sizeOf288
 v70:=Tryz.zeroValue288
 t72:=underlying290
 a72:=Tryz.isAgg290
 z72:=Tryz.sizeOf290
 v72:=Tryz.zeroValue290
 t75:=underlying153
 a75:=Tryz.isAgg153
 z75:=Tryz.sizeOf153
 v75:=Tryz.zeroValue153
 t76:=underlying161
 a76:=Tryz.isAgg161
 z76:=Tryz.sizeOf161
 v76:=Tryz.zeroValue161
 t127:=underlying283
 a127:=Tryz.isAgg283
 z127:=Tryz.sizeOf283
 v127:=Tryz.zeroValue283
 t164:=underlying294
 a164:=Tryz.isAgg294
 z164:=Tryz.sizeOf294
 v164:=Tryz.zeroValue294 }
theorem Tryz.Builder_Extra_156:Builder.Extra prog Tryz.lays156_ren:={
 sizeBuilder:=by kernel_rfl
 liesBuilder:=by kernel_rfl
 t5:=underlying5
 a5:=Tryz.isAgg5
 z5:=Tryz.sizeOf5
 v5:=Tryz.zeroValue5
 infoByte:=by kernel_rfl
 cellsByte:=by kernel_rfl
 sizeByte:=by kernel_rfl
 neB5:=by decide }
open Go.RowKit in
theorem Tryz.strings_Join_none (a:Option Addr) (c:Nat) (sep:ByteArray) (w:World) :
  Calls prog 240 #[.slice a 0 c,.string sep] w fun e w'=>e=.returned (.string ⟨#[]⟩)∧w'=w:=Any.strings_Join_none Tryz.lays156 Tryz.Builder_Extra_156 a c sep w
open Go.RowKit in
theorem Tryz.strings_Join (bk o c:Nat) (xs:List ByteArray) (sep:ByteArray) (w:World) (hcells:∀(j:Nat) x,xs[j]?=some x→w.cell? ⟨bk,o+j,none⟩=some (.string x)) (hbk:bk < w.heap.size) (hN:xs.length≤140737488355328) (hcap:xs.length≤c) (hlen:(Lib.join (xs.map (·.data.toList)) sep.data.toList).length≤140737488355328) :
  Calls prog 240 #[.slice (some ⟨bk,o,none⟩) xs.length c,.string sep] w fun e w'=>e=.returned (.string ⟨(Lib.join (xs.map (·.data.toList)) sep.data.toList).toArray⟩)∧Below w.heap.size w w':=Any.strings_Join Tryz.lays156 Tryz.Builder_Extra_156 bk o c xs sep w hcells hbk hN hcap hlen
def Tryz.lays103_ren:Go.Shelf.Ren:=⟨fun | 103=>142 | 210=>192 | 206=>233 | n=>n,fun | 9=>9 | 4=>4 | 24=>57 | 3=>3 | n=>n,fun | n=>n⟩
theorem Tryz.lays103:Go.Proofs.Lays.n103 prog Tryz.lays103_ren:={
 mixed:=by kernel_rfl
 f103:=func142.trans (congrArg some (by kernel_rfl))
 f206:=func233.trans (congrArg some (by kernel_rfl))
 f210:=func192.trans (congrArg some (by kernel_rfl))
 t3:=underlying3
 a3:=Tryz.isAgg3
 z3:=Tryz.sizeOf3
 v3:=Tryz.zeroValue3
 t4:=underlying4
 a4:=Tryz.isAgg4
 z4:=Tryz.sizeOf4
 v4:=Tryz.zeroValue4
 t9:=underlying9
 a9:=Tryz.isAgg9
 z9:=Tryz.sizeOf9
 v9:=Tryz.zeroValue9
 t24:=underlying57
 a24:=Tryz.isAgg57
 z24:=Tryz.sizeOf57
 v24:=Tryz.zeroValue57 }
open Go.RowKit in
theorem Tryz.strings_CutPrefix (s p:ByteArray) (w:World) :
  Calls prog 142 #[.string s,.string p] w fun e w'=>e=.returned (.tuple #[.string ⟨(Lib.trimPrefix s.data.toList p.data.toList).toArray⟩,.bool (Lib.hasPrefix s.data.toList p.data.toList)])∧w'=w:=Any.strings_CutPrefix Tryz.lays103 s p w
def Tryz.lays283_ren:Go.Shelf.Ren:=⟨fun | 283=>187 | n=>n,fun | 3=>3 | 9=>9 | 4=>4 | n=>n,fun | n=>n⟩
theorem Tryz.lays283:Go.Proofs.Lays.n283 prog Tryz.lays283_ren:={
 mixed:=by kernel_rfl
 f283:=func187.trans (congrArg some (by kernel_rfl))
 t3:=underlying3
 a3:=Tryz.isAgg3
 z3:=Tryz.sizeOf3
 v3:=Tryz.zeroValue3
 t4:=underlying4
 a4:=Tryz.isAgg4
 z4:=Tryz.sizeOf4
 v4:=Tryz.zeroValue4
 t9:=underlying9
 a9:=Tryz.isAgg9
 z9:=Tryz.sizeOf9
 v9:=Tryz.zeroValue9 }
open Go.Lib in
theorem Tryz.internal_strconv_small (i:Nat) (h:i < 100) (w:World) :
  Calls prog 187 #[.int .i64 i] w fun e w'=>e=.returned (.string ⟨(Lib.decDigits i).toArray⟩)∧w'=w:=Any.internal_strconv_small Tryz.lays283 i h w
def Tryz.laysM284_ren:Go.Shelf.Ren:=⟨fun | 284=>188 | 129=>229 | 317=>228 | 318=>230 | n=>n,fun | 53=>26 | 3=>3 | 212=>265 | 0=>0 | 4=>4 | 46=>148 | 5=>5 | 9=>9 | n=>n,fun | 17=>6 | n=>n⟩
theorem Tryz.laysM284:Go.Proofs.LaysM.n284 prog Tryz.laysM284_ren:={
 mixed:=by kernel_rfl
 f129:=func229.trans (congrArg some (by kernel_rfl))
 f284:=func188.trans (congrArg some (by kernel_rfl))
 f317:=func228.trans (congrArg some (by kernel_rfl))
 f318:=func230.trans (congrArg some (by kernel_rfl))
 t0:=underlying0
 a0:=Tryz.isAgg0
 z0:=Tryz.sizeOf0
 v0:=Tryz.zeroValue0
 t3:=underlying3
 a3:=Tryz.isAgg3
 z3:=Tryz.sizeOf3
 v3:=Tryz.zeroValue3
 t4:=underlying4
 a4:=Tryz.isAgg4
 z4:=Tryz.sizeOf4
 v4:=Tryz.zeroValue4
 t5:=underlying5
 a5:=Tryz.isAgg5
 z5:=Tryz.sizeOf5
 v5:=Tryz.zeroValue5
 t9:=underlying9
 a9:=Tryz.isAgg9
 z9:=Tryz.sizeOf9
 v9:=Tryz.zeroValue9
 t46:=underlying148
 a46:=Tryz.isAgg148
 z46:=Tryz.sizeOf148
 v46:=Tryz.zeroValue148
 t53:=underlying26
 a53:=Tryz.isAgg26
 z53:=Tryz.sizeOf26
 v53:=Tryz.zeroValue26
 t212:=underlying265
 a212:=Tryz.isAgg265
 z212:=Tryz.sizeOf265
 v212:=Tryz.zeroValue265
 g17:=by kernel_rfl
 i0:=by kernel_rfl
 i3:=by kernel_rfl
 i4:=by kernel_rfl
 i5:=by kernel_rfl
 i9:=by kernel_rfl
 i46:=by kernel_rfl
 i53:=by kernel_rfl
 i212:=by kernel_rfl
 m17:=by kernel_rfl }
open Go.Lib in
theorem Tryz.internal_strconv_numDigits (u:Nat) (h1:1≤u) (h2:u < 18446744073709551616) (w:World) (htab:Lib.TabIs prog w "internal/strconv.uint64pow10" .u64 Lib.pow10Tab) :
  Calls prog 188 #[.int .u64 u] w fun e w'=>e=.returned (.int .i64 (Lib.nDigits u))∧w'=w:=Any.internal_strconv_numDigits Tryz.laysM284 u h1 h2 w htab
def Tryz.lays285_ren:Go.Shelf.Ren:=⟨fun | 285=>189 | n=>n,fun | 37=>61 | 53=>26 | 3=>3 | 4=>4 | 51=>147 | 9=>9 | 5=>5 | 0=>0 | n=>n,fun | n=>n⟩
theorem Tryz.lays285:Go.Proofs.Lays.n285 prog Tryz.lays285_ren:={
 mixed:=by kernel_rfl
 f285:=func189.trans (congrArg some (by kernel_rfl))
 t0:=underlying0
 a0:=Tryz.isAgg0
 z0:=Tryz.sizeOf0
 v0:=Tryz.zeroValue0
 t3:=underlying3
 a3:=Tryz.isAgg3
 z3:=Tryz.sizeOf3
 v3:=Tryz.zeroValue3
 t4:=underlying4
 a4:=Tryz.isAgg4
 z4:=Tryz.sizeOf4
 v4:=Tryz.zeroValue4
 t5:=underlying5
 a5:=Tryz.isAgg5
 z5:=Tryz.sizeOf5
 v5:=Tryz.zeroValue5
 t9:=underlying9
 a9:=Tryz.isAgg9
 z9:=Tryz.sizeOf9
 v9:=Tryz.zeroValue9
 t37:=underlying61
 a37:=Tryz.isAgg61
 z37:=Tryz.sizeOf61
 v37:=Tryz.zeroValue61
 t51:=underlying147
 a51:=Tryz.isAgg147
 z51:=Tryz.sizeOf147
 v51:=Tryz.zeroValue147
 t53:=underlying26
 a53:=Tryz.isAgg26
 z53:=Tryz.sizeOf26
 v53:=Tryz.zeroValue26 }
open Go.RowKit Go.Sort Go.Lib in
theorem Tryz.internal_strconv_formatBase10 (blk off cap:Nat) (u:Nat) (d:Array UInt8) (w:World) (hH:Holds (fun (b:UInt8)=>Value.int .u8 (b.toNat:Int)) w blk off d) (hu:u < 10^d.size) (hu64:u < 18446744073709551616) (hsz:d.size < 4611686018427387904) :
  Calls prog 189 #[.slice (some ⟨blk,off,none⟩) d.size cap,.int .u64 u] w fun e w' =>
   e=.returned (.tuple #[])∧∃(n v':Nat) (dk:Array UInt8),w'=(putRow (fun (b:UInt8)=>Value.int .u8 (b.toNat:Int)) w blk off dk).drewN n∧FmtInv d.size u 0 v' dk:=Any.internal_strconv_formatBase10 Tryz.lays285 blk off cap u d w hH hu hu64 hsz
def Tryz.laysM171_ren:Go.Shelf.Ren:=⟨fun | 171=>150 | 243=>206 | 246=>242 | 283=>187 | 284=>188 | 285=>189 | 286=>190 | 129=>229 | 317=>228 | 318=>230 | 319=>231 | 320=>232 | 337=>251 | 338=>212 | n=>n,fun | 3=>3 | 9=>9 | 2=>2 | 4=>4 | 171=>230 | 0=>0 | 53=>26 | 37=>61 | 5=>5 | 173=>233 | 212=>265 | 51=>147 | 20=>20 | 213=>266 | 46=>148 | 232=>22 | 233=>139 | n=>n,fun | 17=>6 | 18=>10 | 19=>7 | n=>n⟩
theorem Tryz.laysM171:Go.Proofs.LaysM.n171 prog Tryz.laysM171_ren:={
 mixed:=by kernel_rfl
 f129:=func229.trans (congrArg some (by kernel_rfl))
 f171:=func150.trans (congrArg some (by kernel_rfl))
 f243:=func206.trans (congrArg some (by kernel_rfl))
 f246:=func242.trans (congrArg some (by kernel_rfl))
 f283:=func187.trans (congrArg some (by kernel_rfl))
 f284:=func188.trans (congrArg some (by kernel_rfl))
 f285:=func189.trans (congrArg some (by kernel_rfl))
 f286:=func190.trans (congrArg some (by kernel_rfl))
 f317:=func228.trans (congrArg some (by kernel_rfl))
 f318:=func230.trans (congrArg some (by kernel_rfl))
 f319:=func231.trans (congrArg some (by kernel_rfl))
 f320:=func232.trans (congrArg some (by kernel_rfl))
 f337:=func251.trans (congrArg some (by kernel_rfl))
 f338:=func212.trans (congrArg some (by kernel_rfl))
 t0:=underlying0
 a0:=Tryz.isAgg0
 z0:=Tryz.sizeOf0
 v0:=Tryz.zeroValue0
 t2:=underlying2
 a2:=Tryz.isAgg2
 z2:=Tryz.sizeOf2
 v2:=Tryz.zeroValue2
 t3:=underlying3
 a3:=Tryz.isAgg3
 z3:=Tryz.sizeOf3
 v3:=Tryz.zeroValue3
 t4:=underlying4
 a4:=Tryz.isAgg4
 z4:=Tryz.sizeOf4
 v4:=Tryz.zeroValue4
 t5:=underlying5
 a5:=Tryz.isAgg5
 z5:=Tryz.sizeOf5
 v5:=Tryz.zeroValue5
 t9:=underlying9
 a9:=Tryz.isAgg9
 z9:=Tryz.sizeOf9
 v9:=Tryz.zeroValue9
 t20:=underlying20
 a20:=Tryz.isAgg20
 z20:=Tryz.sizeOf20
 v20:=Tryz.zeroValue20
 t37:=underlying61
 a37:=Tryz.isAgg61
 z37:=Tryz.sizeOf61
 v37:=Tryz.zeroValue61
 t46:=underlying148
 a46:=Tryz.isAgg148
 z46:=Tryz.sizeOf148
 v46:=Tryz.zeroValue148
 t51:=underlying147
 a51:=Tryz.isAgg147
 z51:=Tryz.sizeOf147
 v51:=Tryz.zeroValue147
 t53:=underlying26
 a53:=Tryz.isAgg26
 z53:=Tryz.sizeOf26
 v53:=Tryz.zeroValue26
 t171:=underlying230
 a171:=Tryz.isAgg230
 z171:=Tryz.sizeOf230
 v171:=Tryz.zeroValue230
 t173:=underlying233
 a173:=Tryz.isAgg233
 z173:=Tryz.sizeOf233
 v173:=Tryz.zeroValue233
 t212:=underlying265
 a212:=Tryz.isAgg265
 z212:=Tryz.sizeOf265
 v212:=Tryz.zeroValue265
 t213:=underlying266
 a213:=Tryz.isAgg266
 z213:=Tryz.sizeOf266
 t232:=underlying22
 a232:=Tryz.isAgg22
 z232:=Tryz.sizeOf22
 v232:=Tryz.zeroValue22
 t233:=underlying139
 a233:=Tryz.isAgg139
 z233:=Tryz.sizeOf139
 v233:=Tryz.zeroValue139
 g17:=by kernel_rfl
 g18:=by kernel_rfl
 g19:=by kernel_rfl
 i0:=by kernel_rfl
 i2:=by kernel_rfl
 i3:=by kernel_rfl
 i4:=by kernel_rfl
 i5:=by kernel_rfl
 i9:=by kernel_rfl
 i20:=by kernel_rfl
 i37:=by kernel_rfl
 i46:=by kernel_rfl
 i51:=by kernel_rfl
 i53:=by kernel_rfl
 i171:=by kernel_rfl
 i173:=by kernel_rfl
 i212:=by kernel_rfl
 i232:=by kernel_rfl
 i233:=by kernel_rfl
 m17:=by kernel_rfl
 m18:=by kernel_rfl
 m19:=by kernel_rfl }
open Go.RowKit Go.Sort Go.Lib in
theorem Tryz.strconv_Itoa (n:Int) (h0:-9223372036854775808≤n) (h1:n≤9223372036854775807) (w:World) (htab:Lib.TabIs prog w "internal/strconv.uint64pow10" .u64 Lib.pow10Tab) :
  Calls prog 150 #[.int .i64 n] w fun e w'=>e=.returned (.string ⟨(Lib.itoa n).toArray⟩)∧∃k os,w'=grow (w.drewN k) os:=Any.strconv_Itoa Tryz.laysM171 n h0 h1 w htab
def Tryz.laysC245_ren:Go.Shelf.Ren:=⟨fun | 245=>139 | 279=>183 | 280=>184 | 281=>185 | 282=>186 | 316=>226 | 171=>150 | 205=>227 | 243=>206 | 246=>242 | 283=>187 | 284=>188 | 285=>189 | 286=>190 | 129=>229 | 317=>228 | 318=>230 | 319=>231 | 320=>232 | 337=>251 | 338=>212 | n=>n,fun | 9=>9 | 3=>3 | 75=>153 | 167=>225 | 4=>4 | 168=>227 | 210=>262 | 37=>61 | 0=>0 | 127=>283 | 145=>286 | 143=>284 | 2=>2 | 171=>230 | 53=>26 | 5=>5 | 173=>233 | 212=>265 | 51=>147 | 20=>20 | 213=>266 | 46=>148 | 232=>22 | 233=>139 | 80=>292 | n=>n,fun | 15=>4 | 16=>5 | 17=>6 | 18=>10 | 19=>7 | n=>n⟩
theorem Tryz.laysC245:Go.Proofs.LaysC.n245 prog Tryz.laysC245_ren:={
 mixed:=by kernel_rfl
 f129:=func229.trans (congrArg some (by kernel_rfl))
 f171:=func150.trans (congrArg some (by kernel_rfl))
 f205:=func227.trans (congrArg some (by kernel_rfl))
 f243:=func206.trans (congrArg some (by kernel_rfl))
 f245:=func139.trans (congrArg some (by kernel_rfl))
 f246:=func242.trans (congrArg some (by kernel_rfl))
 f279:=func183.trans (congrArg some (by kernel_rfl))
 f280:=func184.trans (congrArg some (by kernel_rfl))
 f281:=func185.trans (congrArg some (by kernel_rfl))
 f282:=func186.trans (congrArg some (by kernel_rfl))
 f283:=func187.trans (congrArg some (by kernel_rfl))
 f284:=func188.trans (congrArg some (by kernel_rfl))
 f285:=func189.trans (congrArg some (by kernel_rfl))
 f286:=func190.trans (congrArg some (by kernel_rfl))
 f316:=func226.trans (congrArg some (by kernel_rfl))
 f317:=func228.trans (congrArg some (by kernel_rfl))
 f318:=func230.trans (congrArg some (by kernel_rfl))
 f319:=func231.trans (congrArg some (by kernel_rfl))
 f320:=func232.trans (congrArg some (by kernel_rfl))
 f337:=func251.trans (congrArg some (by kernel_rfl))
 f338:=func212.trans (congrArg some (by kernel_rfl))
 t0:=underlying0
 a0:=Tryz.isAgg0
 z0:=Tryz.sizeOf0
 v0:=Tryz.zeroValue0
 t2:=underlying2
 a2:=Tryz.isAgg2
 z2:=Tryz.sizeOf2
 v2:=Tryz.zeroValue2
 t3:=underlying3
 a3:=Tryz.isAgg3
 z3:=Tryz.sizeOf3
 v3:=Tryz.zeroValue3
 t4:=underlying4
 a4:=Tryz.isAgg4
 z4:=Tryz.sizeOf4
 v4:=Tryz.zeroValue4
 t5:=underlying5
 a5:=Tryz.isAgg5
 z5:=Tryz.sizeOf5
 v5:=Tryz.zeroValue5
 t9:=underlying9
 a9:=Tryz.isAgg9
 z9:=Tryz.sizeOf9
 v9:=Tryz.zeroValue9
 t20:=underlying20
 a20:=Tryz.isAgg20
 z20:=Tryz.sizeOf20
 v20:=Tryz.zeroValue20
 t37:=underlying61
 a37:=Tryz.isAgg61
 z37:=Tryz.sizeOf61
 v37:=Tryz.zeroValue61
 t46:=underlying148
 a46:=Tryz.isAgg148
 z46:=Tryz.sizeOf148
 v46:=Tryz.zeroValue148
 t51:=underlying147
 a51:=Tryz.isAgg147
 z51:=Tryz.sizeOf147
 v51:=Tryz.zeroValue147
 t53:=underlying26
 a53:=Tryz.isAgg26
 z53:=Tryz.sizeOf26
 v53:=Tryz.zeroValue26
 t75:=underlying153
 a75:=Tryz.isAgg153
 z75:=Tryz.sizeOf153
 v75:=Tryz.zeroValue153
 t127:=underlying283
 a127:=Tryz.isAgg283
 z127:=Tryz.sizeOf283
 v127:=Tryz.zeroValue283
 t143:=underlying284
 a143:=Tryz.isAgg284
 z143:=Tryz.sizeOf284
 v143:=Tryz.zeroValue284
 t145:=underlying286
 a145:=Tryz.isAgg286
 z145:=Tryz.sizeOf286
 v145:=Tryz.zeroValue286
 t167:=underlying225
 a167:=Tryz.isAgg225
 z167:=Tryz.sizeOf225
 v167:=Tryz.zeroValue225
 t168:=underlying227
 a168:=Tryz.isAgg227
 z168:=Tryz.sizeOf227
 v168:=Tryz.zeroValue227
 t171:=underlying230
 a171:=Tryz.isAgg230
 z171:=Tryz.sizeOf230
 v171:=Tryz.zeroValue230
 t173:=underlying233
 a173:=Tryz.isAgg233
 z173:=Tryz.sizeOf233
 v173:=Tryz.zeroValue233
 t210:=underlying262
 a210:=Tryz.isAgg262
 z210:=Tryz.sizeOf262
 v210:=Tryz.zeroValue262
 t212:=underlying265
 a212:=Tryz.isAgg265
 z212:=Tryz.sizeOf265
 v212:=Tryz.zeroValue265
 t213:=underlying266
 a213:=Tryz.isAgg266
 z213:=Tryz.sizeOf266
 t232:=underlying22
 a232:=Tryz.isAgg22
 z232:=Tryz.sizeOf22
 v232:=Tryz.zeroValue22
 t233:=underlying139
 a233:=Tryz.isAgg139
 z233:=Tryz.sizeOf139
 v233:=Tryz.zeroValue139
 g15:=by kernel_rfl
 g16:=by kernel_rfl
 g17:=by kernel_rfl
 g18:=by kernel_rfl
 g19:=by kernel_rfl
 t80:=underlying292
 a80:=Tryz.isAgg292
 z80:=Tryz.sizeOf292
 v80:=Tryz.zeroValue292
 i0:=by kernel_rfl
 i2:=by kernel_rfl
 i3:=by kernel_rfl
 i4:=by kernel_rfl
 i5:=by kernel_rfl
 i9:=by kernel_rfl
 i20:=by kernel_rfl
 i37:=by kernel_rfl
 i46:=by kernel_rfl
 i51:=by kernel_rfl
 i53:=by kernel_rfl
 i75:=by kernel_rfl
 i80:=by kernel_rfl
 i127:=by kernel_rfl
 i143:=by kernel_rfl
 i145:=by kernel_rfl
 i167:=by kernel_rfl
 i168:=by kernel_rfl
 i171:=by kernel_rfl
 i173:=by kernel_rfl
 i210:=by kernel_rfl
 i212:=by kernel_rfl
 i232:=by kernel_rfl
 i233:=by kernel_rfl
 m15:=by kernel_rfl
 m16:=by kernel_rfl
 m17:=by kernel_rfl
 m18:=by kernel_rfl
 m19:=by kernel_rfl
 c0:=by kernel_rfl
 c2:=by kernel_rfl
 c3:=by kernel_rfl
 c4:=by kernel_rfl
 c5:=by kernel_rfl
 c9:=by kernel_rfl
 c20:=by kernel_rfl
 c37:=by kernel_rfl
 c46:=by kernel_rfl
 c51:=by kernel_rfl
 c53:=by kernel_rfl
 c75:=by kernel_rfl
 c80:=by kernel_rfl
 c127:=by kernel_rfl
 c143:=by kernel_rfl
 c145:=by kernel_rfl
 c167:=by kernel_rfl
 c168:=by kernel_rfl
 c171:=by kernel_rfl
 c173:=by kernel_rfl
 c210:=by kernel_rfl
 c212:=by kernel_rfl
 c213:=by kernel_rfl
 c232:=by kernel_rfl
 c233:=by kernel_rfl }
open Go.RowKit in
theorem Tryz.strconv_toError_syntax (fn s:ByteArray) (base bits:Int) (ev:Value) (w:World) (hlim:s.size≤281474976710656) (hv:w.cell? ⟨4,0,none⟩=some ev) (hev:ev=.nilIface∨∃te pe,ev=.iface te pe) :
  Calls prog 139 #[.string fn,.string s,.int .i64 base,.int .i64 bits,.iface 225 (.int .i64 2)] w fun e w'=>∃N,e=.returned (.iface 227 (.pointer (some ⟨N,0,none⟩)))∧w.heap.size≤N∧w'.heap[N]?=some (.cells #[.string fn,.string s,ev] 262 (0,0))∧Below w.heap.size w w':=Any.strconv_toError_syntax Tryz.laysC245 fn s base bits ev w hlim hv hev
def Tryz.lays321_ren:Go.Shelf.Ren:=⟨fun | 321=>181 | n=>n,fun | 5=>5 | n=>n,fun | n=>n⟩
theorem Tryz.lays321:Go.Proofs.Lays.n321 prog Tryz.lays321_ren:={
 mixed:=by kernel_rfl
 f321:=func181.trans (congrArg some (by kernel_rfl))
 t5:=underlying5
 a5:=Tryz.isAgg5
 z5:=Tryz.sizeOf5
 v5:=Tryz.zeroValue5 }
open Go.RowKit in
theorem Tryz.internal_strconv_lower (c:Int) (w:World) :
  Calls prog 181 #[.int .u8 c] w fun e w'=>e=.returned (.int .u8 (bits .or .u8 c 32))∧w'=w:=Any.internal_strconv_lower Tryz.lays321 c w
def Tryz.lays287_ren:Go.Shelf.Ren:=⟨fun | 287=>138 | 321=>181 | 322=>182 | n=>n,fun | 9=>9 | 3=>3 | 53=>26 | 75=>153 | 4=>4 | 167=>225 | 5=>5 | 46=>148 | 37=>61 | 0=>0 | 21=>21 | 80=>292 | n=>n,fun | n=>n⟩
theorem Tryz.lays287:Go.Proofs.Lays.n287 prog Tryz.lays287_ren:={
 mixed:=by kernel_rfl
 f287:=func138.trans (congrArg some (by kernel_rfl))
 f321:=func181.trans (congrArg some (by kernel_rfl))
 f322:=func182.trans (congrArg some (by kernel_rfl))
 t0:=underlying0
 a0:=Tryz.isAgg0
 z0:=Tryz.sizeOf0
 v0:=Tryz.zeroValue0
 t3:=underlying3
 a3:=Tryz.isAgg3
 z3:=Tryz.sizeOf3
 v3:=Tryz.zeroValue3
 t4:=underlying4
 a4:=Tryz.isAgg4
 z4:=Tryz.sizeOf4
 v4:=Tryz.zeroValue4
 t5:=underlying5
 a5:=Tryz.isAgg5
 z5:=Tryz.sizeOf5
 v5:=Tryz.zeroValue5
 t9:=underlying9
 a9:=Tryz.isAgg9
 z9:=Tryz.sizeOf9
 v9:=Tryz.zeroValue9
 t21:=underlying21
 a21:=Tryz.isAgg21
 z21:=Tryz.sizeOf21
 v21:=Tryz.zeroValue21
 t37:=underlying61
 a37:=Tryz.isAgg61
 z37:=Tryz.sizeOf61
 v37:=Tryz.zeroValue61
 t46:=underlying148
 a46:=Tryz.isAgg148
 z46:=Tryz.sizeOf148
 v46:=Tryz.zeroValue148
 t53:=underlying26
 a53:=Tryz.isAgg26
 z53:=Tryz.sizeOf26
 v53:=Tryz.zeroValue26
 t75:=underlying153
 a75:=Tryz.isAgg153
 z75:=Tryz.sizeOf153
 v75:=Tryz.zeroValue153
 t167:=underlying225
 a167:=Tryz.isAgg225
 z167:=Tryz.sizeOf225
 v167:=Tryz.zeroValue225 }
open Go.RowKit in
theorem Tryz.strconv_toError_range (fn s:ByteArray) (base bits:Int) (ev:Value) (w:World) (hlim:s.size≤281474976710656) (hv:w.cell? ⟨5,0,none⟩=some ev) (hev:ev=.nilIface∨∃te pe,ev=.iface te pe) :
  Calls prog 139 #[.string fn,.string s,.int .i64 base,.int .i64 bits,.iface 225 (.int .i64 1)] w fun e w'=>∃N,e=.returned (.iface 227 (.pointer (some ⟨N,0,none⟩)))∧w.heap.size≤N∧w'.heap[N]?=some (.cells #[.string fn,.string s,ev] 262 (0,0))∧Below w.heap.size w w':=Any.strconv_toError_range Tryz.laysC245 fn s base bits ev w hlim hv hev
def Tryz.laysC172_ren:Go.Shelf.Ren:=⟨fun | 172=>107 | 244=>148 | 245=>139 | 247=>204 | 279=>183 | 280=>184 | 281=>185 | 282=>186 | 287=>138 | 316=>226 | 171=>150 | 205=>227 | 321=>181 | 322=>182 | 243=>206 | 246=>242 | 283=>187 | 284=>188 | 285=>189 | 286=>190 | 129=>229 | 317=>228 | 318=>230 | 319=>231 | 320=>232 | 337=>251 | 338=>212 | n=>n,fun | 9=>9 | 3=>3 | 75=>153 | 76=>161 | 4=>4 | 5=>5 | 167=>225 | 37=>61 | 0=>0 | 85=>247 | 2=>2 | 168=>227 | 53=>26 | 175=>154 | 46=>148 | 210=>262 | 127=>283 | 145=>286 | 143=>284 | 21=>21 | 171=>230 | 173=>233 | 212=>265 | 51=>147 | 20=>20 | 213=>266 | 232=>22 | 233=>139 | 80=>292 | n=>n,fun | 15=>4 | 16=>5 | 17=>6 | 18=>10 | 19=>7 | n=>n⟩
theorem Tryz.laysC172:Go.Proofs.LaysC.n172 prog Tryz.laysC172_ren:={
 mixed:=by kernel_rfl
 f129:=func229.trans (congrArg some (by kernel_rfl))
 f171:=func150.trans (congrArg some (by kernel_rfl))
 f172:=func107.trans (congrArg some (by kernel_rfl))
 f205:=func227.trans (congrArg some (by kernel_rfl))
 f243:=func206.trans (congrArg some (by kernel_rfl))
 f244:=func148.trans (congrArg some (by kernel_rfl))
 f245:=func139.trans (congrArg some (by kernel_rfl))
 f246:=func242.trans (congrArg some (by kernel_rfl))
 f247:=func204.trans (congrArg some (by kernel_rfl))
 f279:=func183.trans (congrArg some (by kernel_rfl))
 f280:=func184.trans (congrArg some (by kernel_rfl))
 f281:=func185.trans (congrArg some (by kernel_rfl))
 f282:=func186.trans (congrArg some (by kernel_rfl))
 f283:=func187.trans (congrArg some (by kernel_rfl))
 f284:=func188.trans (congrArg some (by kernel_rfl))
 f285:=func189.trans (congrArg some (by kernel_rfl))
 f286:=func190.trans (congrArg some (by kernel_rfl))
 f287:=func138.trans (congrArg some (by kernel_rfl))
 f316:=func226.trans (congrArg some (by kernel_rfl))
 f317:=func228.trans (congrArg some (by kernel_rfl))
 f318:=func230.trans (congrArg some (by kernel_rfl))
 f319:=func231.trans (congrArg some (by kernel_rfl))
 f320:=func232.trans (congrArg some (by kernel_rfl))
 f321:=func181.trans (congrArg some (by kernel_rfl))
 f322:=func182.trans (congrArg some (by kernel_rfl))
 f337:=func251.trans (congrArg some (by kernel_rfl))
 f338:=func212.trans (congrArg some (by kernel_rfl))
 t0:=underlying0
 a0:=Tryz.isAgg0
 z0:=Tryz.sizeOf0
 v0:=Tryz.zeroValue0
 t2:=underlying2
 a2:=Tryz.isAgg2
 z2:=Tryz.sizeOf2
 v2:=Tryz.zeroValue2
 t3:=underlying3
 a3:=Tryz.isAgg3
 z3:=Tryz.sizeOf3
 v3:=Tryz.zeroValue3
 t4:=underlying4
 a4:=Tryz.isAgg4
 z4:=Tryz.sizeOf4
 v4:=Tryz.zeroValue4
 t5:=underlying5
 a5:=Tryz.isAgg5
 z5:=Tryz.sizeOf5
 v5:=Tryz.zeroValue5
 t9:=underlying9
 a9:=Tryz.isAgg9
 z9:=Tryz.sizeOf9
 v9:=Tryz.zeroValue9
 t20:=underlying20
 a20:=Tryz.isAgg20
 z20:=Tryz.sizeOf20
 v20:=Tryz.zeroValue20
 t21:=underlying21
 a21:=Tryz.isAgg21
 z21:=Tryz.sizeOf21
 v21:=Tryz.zeroValue21
 t37:=underlying61
 a37:=Tryz.isAgg61
 z37:=Tryz.sizeOf61
 v37:=Tryz.zeroValue61
 t46:=underlying148
 a46:=Tryz.isAgg148
 z46:=Tryz.sizeOf148
 v46:=Tryz.zeroValue148
 t51:=underlying147
 a51:=Tryz.isAgg147
 z51:=Tryz.sizeOf147
 v51:=Tryz.zeroValue147
 t53:=underlying26
 a53:=Tryz.isAgg26
 z53:=Tryz.sizeOf26
 v53:=Tryz.zeroValue26
 t75:=underlying153
 a75:=Tryz.isAgg153
 z75:=Tryz.sizeOf153
 v75:=Tryz.zeroValue153
 t76:=underlying161
 a76:=Tryz.isAgg161
 z76:=Tryz.sizeOf161
 v76:=Tryz.zeroValue161
 t85:=underlying247
 a85:=Tryz.isAgg247
 z85:=Tryz.sizeOf247
 v85:=Tryz.zeroValue247
 t127:=underlying283
 a127:=Tryz.isAgg283
 z127:=Tryz.sizeOf283
 v127:=Tryz.zeroValue283
 t143:=underlying284
 a143:=Tryz.isAgg284
 z143:=Tryz.sizeOf284
 v143:=Tryz.zeroValue284
 t145:=underlying286
 a145:=Tryz.isAgg286
 z145:=Tryz.sizeOf286
 v145:=Tryz.zeroValue286
 t167:=underlying225
 a167:=Tryz.isAgg225
 z167:=Tryz.sizeOf225
 v167:=Tryz.zeroValue225
 t168:=underlying227
 a168:=Tryz.isAgg227
 z168:=Tryz.sizeOf227
 v168:=Tryz.zeroValue227
 t171:=underlying230
 a171:=Tryz.isAgg230
 z171:=Tryz.sizeOf230
 v171:=Tryz.zeroValue230
 t173:=underlying233
 a173:=Tryz.isAgg233
 z173:=Tryz.sizeOf233
 v173:=Tryz.zeroValue233
 t175:=underlying154
 a175:=Tryz.isAgg154
 z175:=Tryz.sizeOf154
 v175:=Tryz.zeroValue154
 t210:=underlying262
 a210:=Tryz.isAgg262
 z210:=Tryz.sizeOf262
 v210:=Tryz.zeroValue262
 t212:=underlying265
 a212:=Tryz.isAgg265
 z212:=Tryz.sizeOf265
 v212:=Tryz.zeroValue265
 t213:=underlying266
 a213:=Tryz.isAgg266
 z213:=Tryz.sizeOf266
 t232:=underlying22
 a232:=Tryz.isAgg22
 z232:=Tryz.sizeOf22
 v232:=Tryz.zeroValue22
 t233:=underlying139
 a233:=Tryz.isAgg139
 z233:=Tryz.sizeOf139
 v233:=Tryz.zeroValue139
 g15:=by kernel_rfl
 g16:=by kernel_rfl
 g17:=by kernel_rfl
 g18:=by kernel_rfl
 g19:=by kernel_rfl
 t80:=underlying292
 a80:=Tryz.isAgg292
 z80:=Tryz.sizeOf292
 v80:=Tryz.zeroValue292
 i0:=by kernel_rfl
 i2:=by kernel_rfl
 i3:=by kernel_rfl
 i4:=by kernel_rfl
 i5:=by kernel_rfl
 i9:=by kernel_rfl
 i20:=by kernel_rfl
 i21:=by kernel_rfl
 i37:=by kernel_rfl
 i46:=by kernel_rfl
 i51:=by kernel_rfl
 i53:=by kernel_rfl
 i75:=by kernel_rfl
 i76:=by kernel_rfl
 i80:=by kernel_rfl
 i85:=by kernel_rfl
 i127:=by kernel_rfl
 i143:=by kernel_rfl
 i145:=by kernel_rfl
 i167:=by kernel_rfl
 i168:=by kernel_rfl
 i171:=by kernel_rfl
 i173:=by kernel_rfl
 i175:=by kernel_rfl
 i210:=by kernel_rfl
 i212:=by kernel_rfl
 i232:=by kernel_rfl
 i233:=by kernel_rfl
 m15:=by kernel_rfl
 m16:=by kernel_rfl
 m17:=by kernel_rfl
 m18:=by kernel_rfl
 m19:=by kernel_rfl
 c0:=by kernel_rfl
 c2:=by kernel_rfl
 c3:=by kernel_rfl
 c4:=by kernel_rfl
 c5:=by kernel_rfl
 c9:=by kernel_rfl
 c20:=by kernel_rfl
 c21:=by kernel_rfl
 c37:=by kernel_rfl
 c46:=by kernel_rfl
 c51:=by kernel_rfl
 c53:=by kernel_rfl
 c75:=by kernel_rfl
 c76:=by kernel_rfl
 c80:=by kernel_rfl
 c85:=by kernel_rfl
 c127:=by kernel_rfl
 c143:=by kernel_rfl
 c145:=by kernel_rfl
 c167:=by kernel_rfl
 c168:=by kernel_rfl
 c171:=by kernel_rfl
 c173:=by kernel_rfl
 c175:=by kernel_rfl
 c210:=by kernel_rfl
 c212:=by kernel_rfl
 c213:=by kernel_rfl
 c232:=by kernel_rfl
 c233:=by kernel_rfl }
open Go.RowKit in
theorem Tryz.strconv_Atoi_ok (s:ByteArray) (hmax:s.size≤9223372036854775806) (v:Int) (h:Lib.atoiAll s.data.toList=.ok v) (w:World) :
  Calls prog 107 #[.string s] w fun e w'=>e=.returned (.tuple #[.int .i64 v,.nilIface])∧(w'=w∨∃t,w'=Lib.bytesWorld w 5 t):=Any.strconv_Atoi_ok Tryz.laysC172 s hmax v h w
open Go.RowKit in
theorem Tryz.strconv_Atoi_syntax (s:ByteArray) (hlim:s.size≤281474976710656) (h:Lib.atoiAll s.data.toList=Lib.atoiAll []) (ev:Value) (w:World) (hv:w.cell? ⟨4,0,none⟩=some ev) (hev:ev=.nilIface∨∃te pe,ev=.iface te pe) :
  Calls prog 107 #[.string s] w fun e w'=>∃N,e=.returned (.tuple #[.int .i64 (0),.iface 227 (.pointer (some ⟨N,0,none⟩))])∧w.heap.size≤N∧w'.heap[N]?=some (.cells #[.string ⟨#[65,116,111,105]⟩,.string s,ev] 262 (0,0))∧Below w.heap.size w w':=Any.strconv_Atoi_syntax Tryz.laysC172 s hlim h ev w hv hev
open Go.RowKit in
theorem Tryz.strconv_Atoi_range (s:ByteArray) (hlim:s.size≤281474976710656) (h:Lib.atoiAll s.data.toList=.range) (ev:Value) (w:World) (hv:w.cell? ⟨5,0,none⟩=some ev) (hev:ev=.nilIface∨∃te pe,ev=.iface te pe) :
  Calls prog 107 #[.string s] w fun e w'=>∃N,e=.returned (.tuple #[.int .i64 (Lib.atoiSat s.data.toList),.iface 227 (.pointer (some ⟨N,0,none⟩))])∧w.heap.size≤N∧w'.heap[N]?=some (.cells #[.string ⟨#[65,116,111,105]⟩,.string s,ev] 262 (0,0))∧Below w.heap.size w w':=Any.strconv_Atoi_range Tryz.laysC172 s hlim h ev w hv hev
open Go.RowKit in
theorem Tryz.internal_strconv_ParseUint_10_at64 (t:ByteArray) (hmax:t.size≤9223372036854775806) (w:World) :
  Calls prog 138 #[.string t,.int .i64 10,.int .i64 64] w fun e w'=>e=.returned (Lib.uintTupleM 225 18446744073709551615 (Lib.parseUintB 64 t.data.toList))∧(w'=w∨w'=Lib.bytesWorld w 5 t):=Any.internal_strconv_ParseUint_10_at64 Tryz.lays287 t hmax w
def Tryz.lays143_ren:Go.Shelf.Ren:=⟨fun | 143=>137 | 219=>180 | 217=>222 | 225=>223 | 224=>224 | 267=>225 | 266=>249 | 314=>250 | n=>n,fun | 9=>9 | 3=>3 | 4=>4 | 5=>5 | 46=>148 | 146=>281 | 51=>147 | n=>n,fun | 1=>3 | n=>n⟩
theorem Tryz.lays143:Go.Proofs.Lays.n143 prog Tryz.lays143_ren:={
 mixed:=by kernel_rfl
 f143:=func137.trans (congrArg some (by kernel_rfl))
 f217:=func222.trans (congrArg some (by kernel_rfl))
 f219:=func180.trans (congrArg some (by kernel_rfl))
 f224:=func224.trans (congrArg some (by kernel_rfl))
 f225:=func223.trans (congrArg some (by kernel_rfl))
 f266:=func249.trans (congrArg some (by kernel_rfl))
 f267:=func225.trans (congrArg some (by kernel_rfl))
 f314:=func250.trans (congrArg some (by kernel_rfl))
 t3:=underlying3
 a3:=Tryz.isAgg3
 z3:=Tryz.sizeOf3
 v3:=Tryz.zeroValue3
 t4:=underlying4
 a4:=Tryz.isAgg4
 z4:=Tryz.sizeOf4
 v4:=Tryz.zeroValue4
 t5:=underlying5
 a5:=Tryz.isAgg5
 z5:=Tryz.sizeOf5
 v5:=Tryz.zeroValue5
 t9:=underlying9
 a9:=Tryz.isAgg9
 z9:=Tryz.sizeOf9
 v9:=Tryz.zeroValue9
 t46:=underlying148
 a46:=Tryz.isAgg148
 z46:=Tryz.sizeOf148
 v46:=Tryz.zeroValue148
 t51:=underlying147
 a51:=Tryz.isAgg147
 z51:=Tryz.sizeOf147
 v51:=Tryz.zeroValue147
 t146:=underlying281
 a146:=Tryz.isAgg281
 z146:=Tryz.sizeOf281
 v146:=Tryz.zeroValue281
 g1:=by kernel_rfl }
open Go.RowKit Go.Lib in
theorem Tryz.strings_Index_one (s:ByteArray) (c:UInt8) (w:World) :
  Calls prog 137 #[.string s,.string ⟨#[c]⟩] w fun e w'=>e=.returned (.int .i64 (Lib.indexByte s.data.toList c))∧w'=w:=Any.strings_Index_one Tryz.lays143 s c w
def Tryz.lays144_ren:Go.Shelf.Ren:=⟨fun | 144=>196 | 143=>137 | 219=>180 | 217=>222 | 225=>223 | 224=>224 | 267=>225 | 266=>249 | 314=>250 | n=>n,fun | 9=>9 | 4=>4 | 3=>3 | 5=>5 | 46=>148 | 146=>281 | 51=>147 | n=>n,fun | 1=>3 | n=>n⟩
theorem Tryz.lays144:Go.Proofs.Lays.n144 prog Tryz.lays144_ren:={
 mixed:=by kernel_rfl
 f143:=func137.trans (congrArg some (by kernel_rfl))
 f144:=func196.trans (congrArg some (by kernel_rfl))
 f217:=func222.trans (congrArg some (by kernel_rfl))
 f219:=func180.trans (congrArg some (by kernel_rfl))
 f224:=func224.trans (congrArg some (by kernel_rfl))
 f225:=func223.trans (congrArg some (by kernel_rfl))
 f266:=func249.trans (congrArg some (by kernel_rfl))
 f267:=func225.trans (congrArg some (by kernel_rfl))
 f314:=func250.trans (congrArg some (by kernel_rfl))
 t3:=underlying3
 a3:=Tryz.isAgg3
 z3:=Tryz.sizeOf3
 v3:=Tryz.zeroValue3
 t4:=underlying4
 a4:=Tryz.isAgg4
 z4:=Tryz.sizeOf4
 v4:=Tryz.zeroValue4
 t5:=underlying5
 a5:=Tryz.isAgg5
 z5:=Tryz.sizeOf5
 v5:=Tryz.zeroValue5
 t9:=underlying9
 a9:=Tryz.isAgg9
 z9:=Tryz.sizeOf9
 v9:=Tryz.zeroValue9
 t46:=underlying148
 a46:=Tryz.isAgg148
 z46:=Tryz.sizeOf148
 v46:=Tryz.zeroValue148
 t51:=underlying147
 a51:=Tryz.isAgg147
 z51:=Tryz.sizeOf147
 v51:=Tryz.zeroValue147
 t146:=underlying281
 a146:=Tryz.isAgg281
 z146:=Tryz.sizeOf281
 v146:=Tryz.zeroValue281
 g1:=by kernel_rfl }
open Go.RowKit Go.Lib in
theorem Tryz.strings_Contains_one (s:ByteArray) (c:UInt8) (w:World) :
  Calls prog 196 #[.string s,.string ⟨#[c]⟩] w fun e w'=>e=.returned (.bool (decide (0≤Lib.indexByte s.data.toList c)))∧w'=w:=Any.strings_Contains_one Tryz.lays144 s c w
def Tryz.lays145_ren:Go.Shelf.Ren:=⟨fun | 145=>105 | 220=>145 | 219=>180 | 217=>222 | 225=>223 | 224=>224 | 267=>225 | 266=>249 | 314=>250 | n=>n,fun | 9=>9 | 4=>4 | 59=>159 | 3=>3 | 5=>5 | 46=>148 | 146=>281 | 51=>147 | n=>n,fun | 1=>3 | n=>n⟩
theorem Tryz.lays145:Go.Proofs.Lays.n145 prog Tryz.lays145_ren:={
 mixed:=by kernel_rfl
 f145:=func105.trans (congrArg some (by kernel_rfl))
 f217:=func222.trans (congrArg some (by kernel_rfl))
 f219:=func180.trans (congrArg some (by kernel_rfl))
 f220:=func145.trans (congrArg some (by kernel_rfl))
 f224:=func224.trans (congrArg some (by kernel_rfl))
 f225:=func223.trans (congrArg some (by kernel_rfl))
 f266:=func249.trans (congrArg some (by kernel_rfl))
 f267:=func225.trans (congrArg some (by kernel_rfl))
 f314:=func250.trans (congrArg some (by kernel_rfl))
 t3:=underlying3
 a3:=Tryz.isAgg3
 z3:=Tryz.sizeOf3
 v3:=Tryz.zeroValue3
 t4:=underlying4
 a4:=Tryz.isAgg4
 z4:=Tryz.sizeOf4
 v4:=Tryz.zeroValue4
 t5:=underlying5
 a5:=Tryz.isAgg5
 z5:=Tryz.sizeOf5
 v5:=Tryz.zeroValue5
 t9:=underlying9
 a9:=Tryz.isAgg9
 z9:=Tryz.sizeOf9
 v9:=Tryz.zeroValue9
 t46:=underlying148
 a46:=Tryz.isAgg148
 z46:=Tryz.sizeOf148
 v46:=Tryz.zeroValue148
 t51:=underlying147
 a51:=Tryz.isAgg147
 z51:=Tryz.sizeOf147
 v51:=Tryz.zeroValue147
 t59:=underlying159
 a59:=Tryz.isAgg159
 z59:=Tryz.sizeOf159
 v59:=Tryz.zeroValue159
 t146:=underlying281
 a146:=Tryz.isAgg281
 z146:=Tryz.sizeOf281
 v146:=Tryz.zeroValue281
 g1:=by kernel_rfl }
open Go.RowKit Go.Lib in
theorem Tryz.strings_Cut (s sep:ByteArray) (m:Int) (w:World) (hs:s.size < 4294967281) (hm:w.cell? ⟨3,0,none⟩=some (.int .i64 m)) :
  Calls prog 105 #[.string s,.string sep] w fun e w'=>e=.returned (.tuple #[.string ⟨(Lib.cut s.data.toList sep.data.toList).1.toArray⟩,.string ⟨(Lib.cut s.data.toList sep.data.toList).2.1.toArray⟩,.bool (Lib.cut s.data.toList sep.data.toList).2.2])∧∃n,w'=w.drewN n:=Any.strings_Cut Tryz.lays145 s sep m w hs hm
def Tryz.laysGw17_ren:Go.Shelf.Ren:=⟨fun | 17=>64 | 15=>97 | 20=>134 | n=>n,fun | 9=>9 | 23=>110 | 4=>4 | 3=>3 | 0=>0 | 21=>21 | n=>n,fun | n=>n⟩
theorem Tryz.laysGw17:Go.Proofs.LaysGw.n17 prog Tryz.laysGw17_ren:={
 mixed:=by kernel_rfl
 f15:=func97.trans (congrArg some (by kernel_rfl))
 f17:=func64.trans (congrArg some (by kernel_rfl))
 f20:=func134.trans (congrArg some (by kernel_rfl))
 t0:=underlying0
 a0:=Tryz.isAgg0
 z0:=Tryz.sizeOf0
 v0:=Tryz.zeroValue0
 i0:=by kernel_rfl
 t3:=underlying3
 a3:=Tryz.isAgg3
 z3:=Tryz.sizeOf3
 v3:=Tryz.zeroValue3
 i3:=by kernel_rfl
 t4:=underlying4
 a4:=Tryz.isAgg4
 z4:=Tryz.sizeOf4
 v4:=Tryz.zeroValue4
 i4:=by kernel_rfl
 t9:=underlying9
 a9:=Tryz.isAgg9
 z9:=Tryz.sizeOf9
 v9:=Tryz.zeroValue9
 i9:=by kernel_rfl
 t21:=underlying21
 a21:=Tryz.isAgg21
 z21:=Tryz.sizeOf21
 v21:=Tryz.zeroValue21
 i21:=by kernel_rfl
 t23:=underlying110
 a23:=Tryz.isAgg110
 z23:=Tryz.sizeOf110
 v23:=Tryz.zeroValue110
 i23:=by kernel_rfl }
def Tryz.lays146_ren:Go.Shelf.Ren:=⟨fun | 146=>65 | 221=>98 | 268=>135 | 138=>136 | 143=>137 | 195=>177 | 197=>178 | 218=>179 | 219=>180 | 260=>221 | 217=>222 | 225=>223 | 224=>224 | 267=>225 | 266=>249 | 314=>250 | n=>n,fun | 9=>9 | 31=>24 | 3=>3 | 4=>4 | 0=>0 | 105=>222 | 21=>21 | 5=>5 | 46=>148 | 119=>277 | 139=>280 | 138=>279 | 146=>281 | 51=>147 | n=>n,fun | 1=>3 | 3=>8 | 4=>9 | n=>n⟩
theorem Tryz.lays146:Go.Proofs.Lays.n146 prog Tryz.lays146_ren:={
 mixed:=by kernel_rfl
 f138:=func136.trans (congrArg some (by kernel_rfl))
 f143:=func137.trans (congrArg some (by kernel_rfl))
 f146:=func65.trans (congrArg some (by kernel_rfl))
 f195:=func177.trans (congrArg some (by kernel_rfl))
 f197:=func178.trans (congrArg some (by kernel_rfl))
 f217:=func222.trans (congrArg some (by kernel_rfl))
 f218:=func179.trans (congrArg some (by kernel_rfl))
 f219:=func180.trans (congrArg some (by kernel_rfl))
 f221:=func98.trans (congrArg some (by kernel_rfl))
 f224:=func224.trans (congrArg some (by kernel_rfl))
 f225:=func223.trans (congrArg some (by kernel_rfl))
 f260:=func221.trans (congrArg some (by kernel_rfl))
 f266:=func249.trans (congrArg some (by kernel_rfl))
 f267:=func225.trans (congrArg some (by kernel_rfl))
 f268:=func135.trans (congrArg some (by kernel_rfl))
 f314:=func250.trans (congrArg some (by kernel_rfl))
 t0:=underlying0
 a0:=Tryz.isAgg0
 z0:=Tryz.sizeOf0
 v0:=Tryz.zeroValue0
 t3:=underlying3
 a3:=Tryz.isAgg3
 z3:=Tryz.sizeOf3
 v3:=Tryz.zeroValue3
 t4:=underlying4
 a4:=Tryz.isAgg4
 z4:=Tryz.sizeOf4
 v4:=Tryz.zeroValue4
 t5:=underlying5
 a5:=Tryz.isAgg5
 z5:=Tryz.sizeOf5
 v5:=Tryz.zeroValue5
 t9:=underlying9
 a9:=Tryz.isAgg9
 z9:=Tryz.sizeOf9
 v9:=Tryz.zeroValue9
 t21:=underlying21
 a21:=Tryz.isAgg21
 z21:=Tryz.sizeOf21
 v21:=Tryz.zeroValue21
 t31:=underlying24
 a31:=Tryz.isAgg24
 z31:=Tryz.sizeOf24
 v31:=Tryz.zeroValue24
 t46:=underlying148
 a46:=Tryz.isAgg148
 z46:=Tryz.sizeOf148
 v46:=Tryz.zeroValue148
 t51:=underlying147
 a51:=Tryz.isAgg147
 z51:=Tryz.sizeOf147
 v51:=Tryz.zeroValue147
 t105:=underlying222
 a105:=Tryz.isAgg222
 z105:=Tryz.sizeOf222
 v105:=Tryz.zeroValue222
 t119:=underlying277
 a119:=Tryz.isAgg277
 z119:=Tryz.sizeOf277
 t138:=underlying279
 a138:=Tryz.isAgg279
 z138:=Tryz.sizeOf279
 v138:=Tryz.zeroValue279
 t139:=underlying280
 a139:=Tryz.isAgg280
 z139:=Tryz.sizeOf280
 v139:=Tryz.zeroValue280
 t146:=underlying281
 a146:=Tryz.isAgg281
 z146:=Tryz.sizeOf281
 v146:=Tryz.zeroValue281
 g1:=by kernel_rfl
 g3:=by kernel_rfl
 g4:=by kernel_rfl }
open Go.RowKit Go.Lib in
theorem Tryz.strings_Split (s sep:ByteArray) (m:Int) (w:World) (hs:s.size < 4294967281) (hm:w.cell? ⟨3,0,none⟩=some (.int .i64 m)) (h1:1≤sep.size) :
  Calls prog 65 #[.string s,.string sep] w fun e w' =>
   e=.returned (.slice (some ⟨w.heap.size,0,none⟩) (Lib.countB s sep+1) (Lib.countB s sep+1))∧w'=w.alloc (.cells ((Lib.splitB sep 0 (Lib.countB s sep) s).map Value.string).toArray 9):=Any.strings_Split Tryz.lays146 (by kernel_rfl) s sep m w hs hm h1
def Tryz.lays147_ren:Go.Shelf.Ren:=⟨fun | 147=>102 | 221=>98 | 268=>135 | 138=>136 | 143=>137 | 195=>177 | 197=>178 | 218=>179 | 219=>180 | 260=>221 | 217=>222 | 225=>223 | 224=>224 | 267=>225 | 266=>249 | 314=>250 | n=>n,fun | 9=>9 | 3=>3 | 31=>24 | 4=>4 | 0=>0 | 105=>222 | 21=>21 | 5=>5 | 46=>148 | 119=>277 | 139=>280 | 138=>279 | 146=>281 | 51=>147 | n=>n,fun | 1=>3 | 3=>8 | 4=>9 | n=>n⟩
theorem Tryz.lays147:Go.Proofs.Lays.n147 prog Tryz.lays147_ren:={
 mixed:=by kernel_rfl
 f138:=func136.trans (congrArg some (by kernel_rfl))
 f143:=func137.trans (congrArg some (by kernel_rfl))
 f147:=func102.trans (congrArg some (by kernel_rfl))
 f195:=func177.trans (congrArg some (by kernel_rfl))
 f197:=func178.trans (congrArg some (by kernel_rfl))
 f217:=func222.trans (congrArg some (by kernel_rfl))
 f218:=func179.trans (congrArg some (by kernel_rfl))
 f219:=func180.trans (congrArg some (by kernel_rfl))
 f221:=func98.trans (congrArg some (by kernel_rfl))
 f224:=func224.trans (congrArg some (by kernel_rfl))
 f225:=func223.trans (congrArg some (by kernel_rfl))
 f260:=func221.trans (congrArg some (by kernel_rfl))
 f266:=func249.trans (congrArg some (by kernel_rfl))
 f267:=func225.trans (congrArg some (by kernel_rfl))
 f268:=func135.trans (congrArg some (by kernel_rfl))
 f314:=func250.trans (congrArg some (by kernel_rfl))
 t0:=underlying0
 a0:=Tryz.isAgg0
 z0:=Tryz.sizeOf0
 v0:=Tryz.zeroValue0
 t3:=underlying3
 a3:=Tryz.isAgg3
 z3:=Tryz.sizeOf3
 v3:=Tryz.zeroValue3
 t4:=underlying4
 a4:=Tryz.isAgg4
 z4:=Tryz.sizeOf4
 v4:=Tryz.zeroValue4
 t5:=underlying5
 a5:=Tryz.isAgg5
 z5:=Tryz.sizeOf5
 v5:=Tryz.zeroValue5
 t9:=underlying9
 a9:=Tryz.isAgg9
 z9:=Tryz.sizeOf9
 v9:=Tryz.zeroValue9
 t21:=underlying21
 a21:=Tryz.isAgg21
 z21:=Tryz.sizeOf21
 v21:=Tryz.zeroValue21
 t31:=underlying24
 a31:=Tryz.isAgg24
 z31:=Tryz.sizeOf24
 v31:=Tryz.zeroValue24
 t46:=underlying148
 a46:=Tryz.isAgg148
 z46:=Tryz.sizeOf148
 v46:=Tryz.zeroValue148
 t51:=underlying147
 a51:=Tryz.isAgg147
 z51:=Tryz.sizeOf147
 v51:=Tryz.zeroValue147
 t105:=underlying222
 a105:=Tryz.isAgg222
 z105:=Tryz.sizeOf222
 v105:=Tryz.zeroValue222
 t119:=underlying277
 a119:=Tryz.isAgg277
 z119:=Tryz.sizeOf277
 t138:=underlying279
 a138:=Tryz.isAgg279
 z138:=Tryz.sizeOf279
 v138:=Tryz.zeroValue279
 t139:=underlying280
 a139:=Tryz.isAgg280
 z139:=Tryz.sizeOf280
 v139:=Tryz.zeroValue280
 t146:=underlying281
 a146:=Tryz.isAgg281
 z146:=Tryz.sizeOf281
 v146:=Tryz.zeroValue281
 g1:=by kernel_rfl
 g3:=by kernel_rfl
 g4:=by kernel_rfl }
open Go.RowKit Go.Lib in
theorem Tryz.strings_SplitN (s sep:ByteArray) (n:Nat) (m:Int) (w:World) (hs:s.size < 4294967281) (hm:w.cell? ⟨3,0,none⟩=some (.int .i64 m)) (h1:1≤sep.size) (hn:1≤n) (hn63:n≤9223372036854775807) :
  Calls prog 102 #[.string s,.string sep,.int .i64 n] w fun e w' =>
   e=.returned (.slice (some ⟨w.heap.size,0,none⟩) (Lib.splitB sep 0 (min n (s.size+1) - 1) s).length (min n (s.size+1)))∧w'=w.alloc (.cells (Lib.cellsOf (Lib.splitB sep 0 (min n (s.size+1) - 1) s) (min n (s.size+1))) 9):=Any.strings_SplitN Tryz.lays147 (by kernel_rfl) s sep n m w hs hm h1 hn hn63
open Go.RowKit Go.Lib in
theorem Tryz.strings_ContainsFunc_grows (g:Nat) (lb:Array Value) (eg:∀args w,(callFunc g args).run prog w=.ok (.enter g args) w) (p:Nat→Bool) (s:ByteArray) (w:World) (hp:PredGrows prog g lb p w) :
  Calls prog 64 #[.string s,.func (.func g) #[] lb] w fun e w'=>e=.returned (.bool (decide (0≤Lib.idxFunc p true s)))∧Below w.heap.size w w':=Any.strings_ContainsFunc_grows Tryz.laysGw17 g lb eg p s w hp
def Tryz.lays110_ren:Go.Shelf.Ren:=⟨fun | 110=>66 | 109=>99 | n=>n,fun | 31=>24 | 9=>9 | 4=>4 | 3=>3 | 0=>0 | n=>n,fun | n=>n⟩
theorem Tryz.lays110:Go.Proofs.Lays.n110 prog Tryz.lays110_ren:={
 mixed:=by kernel_rfl
 f109:=func99.trans (congrArg some (by kernel_rfl))
 f110:=func66.trans (congrArg some (by kernel_rfl))
 t0:=underlying0
 a0:=Tryz.isAgg0
 z0:=Tryz.sizeOf0
 v0:=Tryz.zeroValue0
 t3:=underlying3
 a3:=Tryz.isAgg3
 z3:=Tryz.sizeOf3
 v3:=Tryz.zeroValue3
 t4:=underlying4
 a4:=Tryz.isAgg4
 z4:=Tryz.sizeOf4
 v4:=Tryz.zeroValue4
 t9:=underlying9
 a9:=Tryz.isAgg9
 z9:=Tryz.sizeOf9
 v9:=Tryz.zeroValue9
 t31:=underlying24
 a31:=Tryz.isAgg24
 z31:=Tryz.sizeOf24
 v31:=Tryz.zeroValue24 }
open Go.Lib in
theorem Tryz.slices_Contains_string (b off n c:Nat) (zs:List ByteArray) (x:ByteArray) (w:World) (hz:n≤zs.length) (hbig:n≤9223372036854775807) (hc:∀j,j < zs.length→w.cell? ⟨b,off+j,none⟩=some (.string (zs.getD j ByteArray.empty))) :
  Calls prog 66 #[.slice (some ⟨b,off,none⟩) n c,.string x] w fun e w'=>e=.returned (.bool (Lib.containsS (zs.take n) x))∧w'=w:=Any.slices_Contains_string Tryz.lays110 b off n c zs x w hz hbig hc
open Go.Lib in
theorem Tryz.slices_Contains_string_empty (a:Option Addr) (c:Nat) (x:ByteArray) (w:World) :
  Calls prog 66 #[.slice a 0 c,.string x] w fun e w'=>e=.returned (.bool false)∧w'=w:=Any.slices_Contains_string_empty Tryz.lays110 a c x w
end Go.Proofs.YtcbilopdeiapjaaGreatDoor
namespace Go.Proofs.YtcbilopdeiapjaaGreatDoor
open Go Go.RowKit
attribute [local go_sem] Oper.semAt_some
def f0z (w:World) (b:Nat) (r:List UInt8) (c:UInt8):Prop :=
 Boxed w b 9 (.string (bstr r))∧Boxed w (b+1) 9 (.string (bstr [c]))∧Boxed w (b+2) 3 (.int .i64 0)
def g0o (b:Nat) (A B:World):Prop:=∀k,b≤k→k≤b+2→B.heap[k]?=A.heap[k]?
theorem f0z.kept {A B:World} {b:Nat} {r:List UInt8} {c:UInt8} (h:f0z A b r c) (hk:g0o b A B):f0z B b r c :=
 ⟨(hk b (by omega) (by omega)).trans h.1,(hk (b+1) (by omega) (by omega)).trans h.2.1,(hk (b+2) (by omega) (by omega)).trans h.2.2⟩
theorem f0z.set {w:World} {b:Nat} {r:List UInt8} {c:UInt8} (h:f0z w b r c) (r':List UInt8):f0z (w.setCell ⟨b,0,none⟩ (.string (bstr r'))) b r' c :=
 ⟨h.1.set _,h.2.1.kept (grownBy_setCell' w b _) (by simp),h.2.2.kept (grownBy_setCell' w b _) (by simp)⟩
theorem g0o.trans {b:Nat} {A B C:World} (h:g0o b A B) (k:g0o b B C):g0o b A C:=fun i h1 h2=>(k i h1 h2).trans (h i h1 h2)
def lenS (w:World) (b:Nat):Nat:=match w.cell? ⟨b,0,none⟩ with
 | some (.string s)=>s.size
 | _=>0
theorem f0z.len {w:World} {b:Nat} {r:List UInt8} {c:UInt8} (h:f0z w b r c):lenS w b=r.length:=by
 unfold lenS;rw[h.1.cell,←a0c]
theorem j0f (s:List UInt8) (c:UInt8) (w:World) :
  Calls prog 143 #[.string (bstr s),.string (bstr [c])] w fun e w'=>e=.returned (.func (.func 234) #[] #[.pointer (some ⟨w.heap.size+1,0,none⟩),.pointer (some ⟨w.heap.size,0,none⟩),.pointer (some ⟨w.heap.size+2,0,none⟩)])∧f0z w' w.heap.size s c∧Below w.heap.size w w'∧w'.heap.size=w.heap.size+3:=by
 have h:Calls prog 193 #[.string (bstr s),.string (bstr [c]),.int .i64 0] w fun e w'=>e=.returned (.func (.func 234) #[] #[.pointer (some ⟨w.heap.size+1,0,none⟩),.pointer (some ⟨w.heap.size,0,none⟩),.pointer (some ⟨w.heap.size+2,0,none⟩)])∧f0z w' w.heap.size s c∧Below w.heap.size w w'∧w'.heap.size=w.heap.size+3:=by
  generalize hS:bstr s=S
  generalize hC:bstr [c]=C
  have HS:=f1D hS
  have HC:=f1D hC
  clear hS hC
  go_enter func193,ntmps193
  go_wp2
  go_ret
  have e1:(w.alloc (.cells #[.string S] 9)).heap.size=w.heap.size+1:=World.size_alloc _ _
  have e2:((w.alloc (.cells #[.string S] 9)).alloc (.cells #[.string C] 9)).heap.size=w.heap.size+2:=by rw[World.size_alloc,e1]
  have b0:=Boxed.new w 9 (.string S)
  have b1:=Boxed.new (w.alloc (.cells #[.string S] 9)) 9 (.string C)
  have b2:=Boxed.new ((w.alloc (.cells #[.string S] 9)).alloc (.cells #[.string C] 9)) 3 (.int .i64 0)
  rw[e1] at b1
  rw[e2] at b2
  refine⟨rfl,⟨?_,?_,b2⟩,?_,?_⟩
  ·rw[HS.out];exact (b0.alloc _).alloc _
  ·rw[HC.out];exact b1.alloc _
  ·exact (((Below.refl _ w).alloc (f1F _) _).alloc (by rw[e1];omega) _).alloc (by rw[e2];omega) _
  ·rw[World.size_alloc,e2]
 go_enter func143,ntmps143
 go_wp2_with (go_at_call 193;refine h.mono ?_;rintro e w' ⟨rfl,hq⟩)
 go_ret
 exact⟨rfl,hq⟩
theorem c1a (r:List UInt8) (c:UInt8) (w:World):Calls prog 137 #[.string (bstr r),.string (bstr [c])] w fun e w'=>e=.returned (.int .i64 (Lib.indexByte r c))∧w=w':=by
 refine (Tryz.strings_Index_one (bstr r) c w).mono ?_
 rintro e w' ⟨rfl,rfl⟩
 exact⟨rfl,rfl⟩
def d0w (s:List UInt8) (c:UInt8):List (Array Value):=(a0g c s).map fun p=>#[.string (bstr p)]
theorem o0W (s:List UInt8) (c:UInt8) (k:Nat) (p:List UInt8) (h:(a0g c s)[k]?=some p):(d0w s c)[k]?=some #[.string (bstr p)]:=by
 unfold d0w;rw[List.getElem?_map,h];rfl
theorem h0p (n:Nat) (hn:1≤n) (b:Nat) (s:List UInt8) (c:UInt8) (hs:s.length≤100000) (w:World) (hb:f0z w b s c) (hlt:b+3≤w.heap.size) :
  SeqL Fence.wide n prog 234 #[.pointer (some ⟨b+1,0,none⟩),.pointer (some ⟨b,0,none⟩),.pointer (some ⟨b+2,0,none⟩)] (d0w s c) b (g0o b) w:=by
 intro l J Jx W hW hJ hJx hY h0
 have hb:f0z W b s c:=hb.kept fun k h1 h2=>hW.block k (by omega)
 have hlen:(d0w s c).length=(a0g c s).length:=by unfold d0w;rw[List.length_map]
 have HJ:=f1D hJ
 have HJx:=f1D hJx
 have HY:=f1D hY
 have HL:=f1D hlen
 clear hJ hJx hY hlen
 refine callsIn_of_wp func234 rfl trivial ?_ rfl
 simp only[ntmps234,List.size_toArray,List.length_cons,List.length_nil,Nat.reduceAdd,Nat.reduceSub,Array.replicate_succ,Array.replicate_zero,List.push_toArray,List.append_toArray,List.nil_append,List.cons_append]
 have c1:=hb.2.1.cell
 have hz1:(bstr [c]).size=1:=rfl
 gi_wp2
 clear c1
 gi_loopw [] (fun wr=>∃(k:Nat) (r:List UInt8),f0z wr b r c∧r.length≤s.length∧(a0g c s).drop k=a0g c r∧J k wr) (fun wr=>lenS wr b)
 case atStart=>exact⟨0,s,hb,f1F _,rfl,h0⟩
 case round =>
  clear h0 hb
  obtain⟨k,r,hb,hrl,hdr,hj⟩:=hrel
  have HD:=f1D hdr
  clear hdr
  have cS:=hb.1.cell
  have cC:=hb.2.1.cell
  have cN:=hb.2.2.cell
  have hix:=f1D (fun w'=>c1a r c w')
  have hzr:(bstr r).size=r.length:=a0c r
  rcases f0f r c with ⟨hi,hsp⟩ | ⟨i,hir,hi,hsp⟩
  ·rw[hi] at hix
   have hlast:(a0g c s)[k]?=some r:=by
    have:((a0g c s).drop k)[0]?=some r:=by rw[HD.out,hsp];rfl
    rw[List.getElem?_drop] at this;simpa using this
   have hkl:(a0g c s).length=k+1:=by
    have h1:=congrArg List.length (HD.out.trans hsp)
    rw[List.length_drop] at h1
    simp at h1;omega
   obtain⟨fn,tmps,assign,body,hy,hR⟩:=HY.out k _ wr (o0W s c k r hlast) hj
   have HK:=f1D hkl
   have HR:=f1D hR
   clear hR hi hsp hlast hkl
   gi_wp2_with (refine⟨trivial,?_⟩;gi_at_call 137;refine (callsIn_wide.2 (hix.out _)).mono ?_;rintro e w' ⟨rfl,rfl⟩)
   refine HR.out.mono ?_
   rintro e W3 (⟨rfl,hJ3,-⟩ | ⟨rfl,hJ3⟩)
   ·gi_wp2
    go_end0
    exact⟨⟨_,rfl⟩,.inl (by rw[HL.out,HK.out];exact hJ3)⟩
   ·gi_wp2
    go_end0
    exact⟨⟨_,rfl⟩,.inr ⟨k,by rw[HL.out,HK.out];omega,hJ3⟩⟩
  ·rw[hi] at hix
   have hhead:(a0g c s)[k]?=some (r.take i):=by
    have:((a0g c s).drop k)[0]?=some (r.take i):=by rw[HD.out,hsp];rfl
    rw[List.getElem?_drop] at this;simpa using this
   have hkl:k < (a0g c s).length:=(List.getElem?_eq_some_iff.1 hhead).1
   have hnext:(a0g c s).drop (k+1)=a0g c (r.drop (i+1)):=by
    have:=congrArg List.tail (HD.out.trans hsp)
    rw[List.tail_drop] at this;simpa using this
   obtain⟨fn,tmps,assign,body,hy,hR⟩:=HY.out k _ wr (o0W s c k _ hhead) hj
   have HK:=f1D hkl
   have HN:=f1D hnext
   have HR:=f1D hR
   have e1:(bstr r).extract 0 i=bstr (r.take i):=by rw[a0G];simp
   have e2:(bstr r).extract (i+1) r.length=bstr (r.drop (i+1)):=by rw[a0G,List.take_of_length_le (by rw[List.length_drop];omega)]
   have hI:(i:Int) < (r.length:Int):=by omega
   clear hR hi hsp hhead hkl hnext
   gi_wp2_with (refine⟨trivial,?_⟩;gi_at_call 137;refine (callsIn_wide.2 (hix.out _)).mono ?_;rintro e w' ⟨rfl,rfl⟩)
   refine HR.out.mono ?_
   have hml:=hb.len
   rintro e W3 (⟨rfl,hJ3,hk3⟩ | ⟨rfl,hJ3⟩)
   ·have hb3:=hb.kept hk3
    have cS3:=hb3.1.cell
    have fS3:=hb3.1.frozen
    have cC3:=hb3.2.1.cell
    have hb4:=hb3.set (r.drop (i+1))
    have hlb:=hb4.len
    have HLB:=f1D hlb
    have HML:=f1D hml
    have HJ4:=HJ.out (k+1) W3 _ hJ3 (grownBy_setCell' W3 b (.string (bstr (r.drop (i+1)))))
    clear hlb hml
    gi_wp2
    go_roundw
    case rel=>exact⟨k+1,r.drop (i+1),hb4,by rw[List.length_drop];omega,HN.out,HJ4⟩
    case measure=>rw[HLB.out,HML.out,List.length_drop];omega
   ·clear hml
    gi_wp2
    refine bodyPost_ret (results_none rfl _ _ _) rfl ?_
    exact⟨⟨_,rfl⟩,.inr ⟨k,by rw[HL.out];exact HK.out,hJ3⟩⟩
theorem f0m {X Y:World} {B t own lo r:Nat} {v:Value} (h:Boxed X B t v) (hg:X.grownBy Y (some r)) (hr:r=own∨(lo≤r∧∃o:Obj,X.heap[r]?=some o∧o.isCells=false)) (hne:B≠own):Boxed Y B t v:=by
 refine h.kept hg fun e=>?_
 cases e
 rcases hr with rfl | ⟨-,o,ho,hc⟩
 ·exact hne rfl
 ·rw[show X.heap[B]?=_ from h] at ho;cases ho;cases hc
theorem r0R {X Y:World} {base t own lo r n:Nat} {v:Value} {xs:List Value} (h:X.ownsRow base t 1 v n xs) (hg:X.grownBy Y (some r)) (hr:r=own∨(lo≤r∧∃o:Obj,X.heap[r]?=some o∧o.isCells=false)) (hne:own < base):Y.ownsRow base t 1 v n xs:=by
 refine h.kept hg ?_
 obtain⟨-,h | ⟨g,cap,cur,rfl,hb,hgb,-⟩⟩:=h
 ·exact .inl (by rw[h.1];rfl)
 ·refine .inr fun e=>?_
  have e:g=r:=by simpa [Value.ownBlock] using e
  subst e
  rcases hr with rfl | ⟨-,o,ho,hc⟩
  ·omega
  ·rw[hgb] at ho;cases ho;cases hc
theorem a1x {W w3:World} {n₀ lo B:Nat} {t e:TypeId} {v v':Value} {k m:Nat} {xs ys:List Value} {tmp:Obj} (hte:t≠e)
  (hv:Boxed W B t v) (hrow:W.ownsRow lo e 1 v k xs) (hlo:lo≤W.heap.size) (hB:n₀≤B∧B < lo) (hown':w3.ownsRow lo e 1 v' m ys) (hgrow:(W.alloc tmp).grownBy w3 v.ownBlock) :
  Boxed w3 B t v∧Boxed (w3.setCell ⟨B,0,none⟩ v') B t v'∧KeepsOthers W (w3.setCell ⟨B,0,none⟩ v')∧Below n₀ W (w3.setCell ⟨B,0,none⟩ v')∧(w3.setCell ⟨B,0,none⟩ v').ownsRow lo e 1 v' m ys ∧
   ∀j,j < lo→j≠B→(w3.setCell ⟨B,0,none⟩ v').heap[j]?=W.heap[j]?:=by
 obtain⟨h1,h2,-,h4,h5⟩:=hv.appended hte (j0D hrow (by omega:n₀≤lo)) (by omega) hB.1 (j0D hown' (by omega:n₀≤lo)) hgrow
 refine⟨h1,h2,h4,h5,hown'.kept (grownBy_setCell' w3 B v') (.inr (h1.not_row hte hown').symm),fun j hj hne=>?_⟩
 refine (Below.heap_setCell w3 ⟨B,0,none⟩ v' j hne).trans ((hgrow.block j (by rw[World.size_alloc];omega) fun e'=>?_).trans (Below.heap_alloc W tmp j (by omega)))
 obtain⟨-,h | ⟨g,cap,cur,rfl,hg,-⟩⟩:=hrow
 ·rw[h.1] at e';cases e'
 ·have:j=g:=by simpa [Value.ownBlock] using e'
  omega
end Go.Proofs.YtcbilopdeiapjaaGreatDoor
