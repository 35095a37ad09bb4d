/- Texts of this claim, one behind the other. -/
import Derived.Shelf.Strings.Builder1
import Derived.Shelf.Strings.Builder2
import Derived.Shelf.Strings.OnBuilder
import Derived.Shelf.Small.Wraps
import Derived.Shelf.Strconv.Atoi
import Derived.Shelf.Strconv.Itoa0
import Derived.Shelf.Strconv.Itoa1
import Derived.Shelf.LaysM
import Derived.Shelf.Strconv.Itoa2
import Derived.Shelf.Strconv.Itoa3
import Derived.Shelf.Strconv.AtoiErrFast
import Derived.Shelf.Strconv.ParseIntEmpty
import Derived.Shelf.Strconv.AtoiFail
import Derived.Shelf.Strconv.Clone
import Derived.Shelf.Strconv.SyntaxError
import Derived.Shelf.LaysC
import Derived.Shelf.Strconv.ToError
import Derived.Shelf.Strconv.Lower
import Derived.Shelf.Strconv.ParseUint10
import Derived.Shelf.Strconv.ParseUint10Empty
import Derived.Shelf.Strconv.ParseUint10Any
import Derived.Shelf.Strconv.ParseInt10
import Derived.Shelf.Strconv.AtoiLong
import Derived.Shelf.Strconv.AtoiInnerAll
import Derived.Shelf.Strconv.RangeError
import Derived.Shelf.Strconv.ToErrorRange
import Derived.Shelf.Strconv.AtoiAll
import Derived.Shelf.Strconv.ParseUintEmpty
import Derived.Shelf.Strconv.ParseUint10b64
import Derived.Shelf.Strconv.ParseUint10b32
import Derived.Shelf.Strconv.ParseUint10b16
import Derived.Shelf.Strconv.ParseUint10b8
import Derived.Shelf.Strconv.ParseUint10At
import Derived.Shelf.Strings.Search1
import Derived.Shelf.Strings.Search2
import Derived.Shelf.Strings.Search3
import Derived.Shelf.Strings.Cut
import Derived.Shelf.Strings.Count
import Derived.Shelf.GgClosure.StringsIndexFunc
import Derived.Ground.GgwProg
import Derived.Shelf.GgClosure.StringsIndexFuncTop
import Derived.Shelf.Strings.Prefix
import Derived.Shelf.Strings.Split
import Derived.Shelf.Strings.SplitShaped
import Derived.Shelf.Unicode.DecodeSlow
import Derived.Shelf.Unicode.DecodeAny
import Derived.Shelf.Strings.FuncGrows
import Derived.Shelf.Slices.Turned
import Derived.Test.YtimdhdimhboboaaGreatDoorChecked
import Derived.Test.YtimdhdimhboboaaGreatDoorRaam
import Derived.Test.YtimdhdimhboboaaGreatDoorRaab
import Derived.Test.YtimdhdimhboboaaGreatDoorRaah
import Derived.Lib.SmallJoins
import Derived.Lib.ItoaMem
import Derived.BigCall
import Derived.BigGuard
import Derived.Lib.OwnBridge
import Derived.Maps.AppendAt
import Derived.RangeFuncBox
import Derived.Shelf.Spec.TrailingZeros
import Derived.Lib.AppendIntMem
import Derived.Lib.IfaceNeq
import Derived.Laws.Runes
import Derived.Laws.RangeAny
import Derived.Lib.ParseIntBCases
import Derived.Lib.Join
import Derived.Lib.SlicesS
import Derived.Test.YtimdhdimhboboaaGreatDoorRaaa
import Derived.RangeFuncNested
import Derived.RangeFuncBound
import Derived.RangeFuncCalls
import Derived.RangeFuncLeaves
import Derived.Shelf.Abstract
import Derived.Shelf.RegionOpen
import Derived.WalkKit
import Derived.OwnWalkIn
import Derived.TacticsInMore
import Derived.LoopNIn
import Derived.LoopIn
import Derived.BigRegion
import Derived.Laws.FloatArith
import Derived.Laws.BitsAllLaws
import Derived.Test.YtimdhdimhboboaaGreatDoorRaaf
import Derived.Test.YtimdhdimhboboaaGreatDoorRaak
import Derived.Lib.SliceRun
import Derived.Laws.Cover2
import Derived.Test.YtimdhdimhboboaaGreatDoorRaai
/- The library's ready contracts that these proofs use, laid at this program by the kit's own commands. -/
namespace Go.Proofs.YtimdhdimhboboaaGreatDoor
open Go Go.Shelf
def Tryz.lays283_ren : Go.Shelf.Ren := ⟨fun | 283 => 179 | n => n, fun | 3 => 3 | 9 => 9 | 4 => 4 | n => n, fun | n => n⟩
theorem Tryz.lays283 : Go.Proofs.Lays.n283 Tryz.prog Tryz.lays283_ren := {
  mixed := by kernel_rfl
  f283 := Tryz.func179.trans (congrArg some (by kernel_rfl))
  t3 := Tryz.underlying3
  a3 := Tryz.isAgg3
  z3 := Tryz.sizeOf3
  v3 := Tryz.zeroValue3
  t4 := Tryz.underlying4
  a4 := Tryz.isAgg4
  z4 := Tryz.sizeOf4
  v4 := Tryz.zeroValue4
  t9 := Tryz.underlying9
  a9 := Tryz.isAgg9
  z9 := Tryz.sizeOf9
  v9 := Tryz.zeroValue9 }
open Go.Lib in
theorem Tryz.internal_strconv_small (i : Nat) (h : i < 100) (w : World) :
    Calls Tryz.prog 179 #[.int .i64 i] w fun e w' => e = .returned (.string ⟨(Lib.decDigits i).toArray⟩) ∧ w' = w := Any.internal_strconv_small Tryz.lays283 i h w
def Tryz.laysM284_ren : Go.Shelf.Ren := ⟨fun | 284 => 180 | 129 => 217 | 317 => 216 | 318 => 218 | n => n, fun | 53 => 24 | 3 => 3 | 212 => 247 | 0 => 0 | 4 => 4 | 46 => 77 | 5 => 5 | 9 => 9 | n => n, fun | 17 => 6 | n => n⟩
theorem Tryz.laysM284 : Go.Proofs.LaysM.n284 Tryz.prog Tryz.laysM284_ren := {
  mixed := by kernel_rfl
  f129 := Tryz.func217.trans (congrArg some (by kernel_rfl))
  f284 := Tryz.func180.trans (congrArg some (by kernel_rfl))
  f317 := Tryz.func216.trans (congrArg some (by kernel_rfl))
  f318 := Tryz.func218.trans (congrArg some (by kernel_rfl))
  t0 := Tryz.underlying0
  a0 := Tryz.isAgg0
  z0 := Tryz.sizeOf0
  v0 := Tryz.zeroValue0
  t3 := Tryz.underlying3
  a3 := Tryz.isAgg3
  z3 := Tryz.sizeOf3
  v3 := Tryz.zeroValue3
  t4 := Tryz.underlying4
  a4 := Tryz.isAgg4
  z4 := Tryz.sizeOf4
  v4 := Tryz.zeroValue4
  t5 := Tryz.underlying5
  a5 := Tryz.isAgg5
  z5 := Tryz.sizeOf5
  v5 := Tryz.zeroValue5
  t9 := Tryz.underlying9
  a9 := Tryz.isAgg9
  z9 := Tryz.sizeOf9
  v9 := Tryz.zeroValue9
  t46 := Tryz.underlying77
  a46 := Tryz.isAgg77
  z46 := Tryz.sizeOf77
  v46 := Tryz.zeroValue77
  t53 := Tryz.underlying24
  a53 := Tryz.isAgg24
  z53 := Tryz.sizeOf24
  v53 := Tryz.zeroValue24
  t212 := Tryz.underlying247
  a212 := Tryz.isAgg247
  z212 := Tryz.sizeOf247
  v212 := Tryz.zeroValue247
  g17 := by kernel_rfl
  i0 := by kernel_rfl
  i3 := by kernel_rfl
  i4 := by kernel_rfl
  i5 := by kernel_rfl
  i9 := by kernel_rfl
  i46 := by kernel_rfl
  i53 := by kernel_rfl
  i212 := by kernel_rfl
  m17 := by kernel_rfl }
open Go.Lib in
theorem Tryz.internal_strconv_numDigits (u : Nat) (h1 : 1 ≤ u) (h2 : u < 18446744073709551616) (w : World) (htab : Lib.TabIs Tryz.prog w "internal/strconv.uint64pow10" .u64 Lib.pow10Tab) :
    Calls Tryz.prog 180 #[.int .u64 u] w fun e w' => e = .returned (.int .i64 (Lib.nDigits u)) ∧ w' = w := Any.internal_strconv_numDigits Tryz.laysM284 u h1 h2 w htab
def Tryz.lays285_ren : Go.Shelf.Ren := ⟨fun | 285 => 181 | n => n, fun | 37 => 52 | 53 => 24 | 3 => 3 | 4 => 4 | 51 => 76 | 9 => 9 | 5 => 5 | 0 => 0 | n => n, fun | n => n⟩
theorem Tryz.lays285 : Go.Proofs.Lays.n285 Tryz.prog Tryz.lays285_ren := {
  mixed := by kernel_rfl
  f285 := Tryz.func181.trans (congrArg some (by kernel_rfl))
  t0 := Tryz.underlying0
  a0 := Tryz.isAgg0
  z0 := Tryz.sizeOf0
  v0 := Tryz.zeroValue0
  t3 := Tryz.underlying3
  a3 := Tryz.isAgg3
  z3 := Tryz.sizeOf3
  v3 := Tryz.zeroValue3
  t4 := Tryz.underlying4
  a4 := Tryz.isAgg4
  z4 := Tryz.sizeOf4
  v4 := Tryz.zeroValue4
  t5 := Tryz.underlying5
  a5 := Tryz.isAgg5
  z5 := Tryz.sizeOf5
  v5 := Tryz.zeroValue5
  t9 := Tryz.underlying9
  a9 := Tryz.isAgg9
  z9 := Tryz.sizeOf9
  v9 := Tryz.zeroValue9
  t37 := Tryz.underlying52
  a37 := Tryz.isAgg52
  z37 := Tryz.sizeOf52
  v37 := Tryz.zeroValue52
  t51 := Tryz.underlying76
  a51 := Tryz.isAgg76
  z51 := Tryz.sizeOf76
  v51 := Tryz.zeroValue76
  t53 := Tryz.underlying24
  a53 := Tryz.isAgg24
  z53 := Tryz.sizeOf24
  v53 := Tryz.zeroValue24 }
open Go.RowKit Go.Sort Go.Lib in
theorem Tryz.internal_strconv_formatBase10 (blk off cap : Nat) (u : Nat) (d : Array UInt8) (w : World) (hH : Holds (fun (b : UInt8) => Value.int .u8 (b.toNat : Int)) w blk off d) (hu : u < 10 ^ d.size) (hu64 : u < 18446744073709551616) (hsz : d.size < 4611686018427387904) :
    Calls Tryz.prog 181 #[.slice (some ⟨blk, off, none⟩) d.size cap, .int .u64 u] w fun e w' =>
      e = .returned (.tuple #[]) ∧ ∃ (n v' : Nat) (dk : Array UInt8), w' = (putRow (fun (b : UInt8) => Value.int .u8 (b.toNat : Int)) w blk off dk).drewN n ∧ FmtInv d.size u 0 v' dk := Any.internal_strconv_formatBase10 Tryz.lays285 blk off cap u d w hH hu hu64 hsz
def Tryz.laysC245_ren : Go.Shelf.Ren := ⟨fun | 245 => 136 | 279 => 175 | 280 => 176 | 281 => 177 | 282 => 178 | 316 => 214 | 171 => 147 | 205 => 215 | 243 => 198 | 246 => 230 | 283 => 179 | 284 => 180 | 285 => 181 | 286 => 182 | 129 => 217 | 317 => 216 | 318 => 218 | 319 => 219 | 320 => 220 | 337 => 238 | 338 => 204 | n => n, fun | 9 => 9 | 3 => 3 | 75 => 146 | 167 => 211 | 4 => 4 | 168 => 213 | 210 => 244 | 37 => 52 | 0 => 0 | 127 => 265 | 145 => 268 | 143 => 266 | 2 => 2 | 171 => 216 | 53 => 24 | 5 => 5 | 173 => 218 | 212 => 247 | 51 => 76 | 20 => 20 | 213 => 248 | 46 => 77 | 232 => 22 | 233 => 130 | 80 => 274 | n => n, fun | 15 => 4 | 16 => 5 | 17 => 6 | 18 => 10 | 19 => 7 | n => n⟩
theorem Tryz.laysC245 : Go.Proofs.LaysC.n245 Tryz.prog Tryz.laysC245_ren := {
  mixed := by kernel_rfl
  f129 := Tryz.func217.trans (congrArg some (by kernel_rfl))
  f171 := Tryz.func147.trans (congrArg some (by kernel_rfl))
  f205 := Tryz.func215.trans (congrArg some (by kernel_rfl))
  f243 := Tryz.func198.trans (congrArg some (by kernel_rfl))
  f245 := Tryz.func136.trans (congrArg some (by kernel_rfl))
  f246 := Tryz.func230.trans (congrArg some (by kernel_rfl))
  f279 := Tryz.func175.trans (congrArg some (by kernel_rfl))
  f280 := Tryz.func176.trans (congrArg some (by kernel_rfl))
  f281 := Tryz.func177.trans (congrArg some (by kernel_rfl))
  f282 := Tryz.func178.trans (congrArg some (by kernel_rfl))
  f283 := Tryz.func179.trans (congrArg some (by kernel_rfl))
  f284 := Tryz.func180.trans (congrArg some (by kernel_rfl))
  f285 := Tryz.func181.trans (congrArg some (by kernel_rfl))
  f286 := Tryz.func182.trans (congrArg some (by kernel_rfl))
  f316 := Tryz.func214.trans (congrArg some (by kernel_rfl))
  f317 := Tryz.func216.trans (congrArg some (by kernel_rfl))
  f318 := Tryz.func218.trans (congrArg some (by kernel_rfl))
  f319 := Tryz.func219.trans (congrArg some (by kernel_rfl))
  f320 := Tryz.func220.trans (congrArg some (by kernel_rfl))
  f337 := Tryz.func238.trans (congrArg some (by kernel_rfl))
  f338 := Tryz.func204.trans (congrArg some (by kernel_rfl))
  t0 := Tryz.underlying0
  a0 := Tryz.isAgg0
  z0 := Tryz.sizeOf0
  v0 := Tryz.zeroValue0
  t2 := Tryz.underlying2
  a2 := Tryz.isAgg2
  z2 := Tryz.sizeOf2
  v2 := Tryz.zeroValue2
  t3 := Tryz.underlying3
  a3 := Tryz.isAgg3
  z3 := Tryz.sizeOf3
  v3 := Tryz.zeroValue3
  t4 := Tryz.underlying4
  a4 := Tryz.isAgg4
  z4 := Tryz.sizeOf4
  v4 := Tryz.zeroValue4
  t5 := Tryz.underlying5
  a5 := Tryz.isAgg5
  z5 := Tryz.sizeOf5
  v5 := Tryz.zeroValue5
  t9 := Tryz.underlying9
  a9 := Tryz.isAgg9
  z9 := Tryz.sizeOf9
  v9 := Tryz.zeroValue9
  t20 := Tryz.underlying20
  a20 := Tryz.isAgg20
  z20 := Tryz.sizeOf20
  v20 := Tryz.zeroValue20
  t37 := Tryz.underlying52
  a37 := Tryz.isAgg52
  z37 := Tryz.sizeOf52
  v37 := Tryz.zeroValue52
  t46 := Tryz.underlying77
  a46 := Tryz.isAgg77
  z46 := Tryz.sizeOf77
  v46 := Tryz.zeroValue77
  t51 := Tryz.underlying76
  a51 := Tryz.isAgg76
  z51 := Tryz.sizeOf76
  v51 := Tryz.zeroValue76
  t53 := Tryz.underlying24
  a53 := Tryz.isAgg24
  z53 := Tryz.sizeOf24
  v53 := Tryz.zeroValue24
  t75 := Tryz.underlying146
  a75 := Tryz.isAgg146
  z75 := Tryz.sizeOf146
  v75 := Tryz.zeroValue146
  t127 := Tryz.underlying265
  a127 := Tryz.isAgg265
  z127 := Tryz.sizeOf265
  v127 := Tryz.zeroValue265
  t143 := Tryz.underlying266
  a143 := Tryz.isAgg266
  z143 := Tryz.sizeOf266
  v143 := Tryz.zeroValue266
  t145 := Tryz.underlying268
  a145 := Tryz.isAgg268
  z145 := Tryz.sizeOf268
  v145 := Tryz.zeroValue268
  t167 := Tryz.underlying211
  a167 := Tryz.isAgg211
  z167 := Tryz.sizeOf211
  v167 := Tryz.zeroValue211
  t168 := Tryz.underlying213
  a168 := Tryz.isAgg213
  z168 := Tryz.sizeOf213
  v168 := Tryz.zeroValue213
  t171 := Tryz.underlying216
  a171 := Tryz.isAgg216
  z171 := Tryz.sizeOf216
  v171 := Tryz.zeroValue216
  t173 := Tryz.underlying218
  a173 := Tryz.isAgg218
  z173 := Tryz.sizeOf218
  v173 := Tryz.zeroValue218
  t210 := Tryz.underlying244
  a210 := Tryz.isAgg244
  z210 := Tryz.sizeOf244
  v210 := Tryz.zeroValue244
  t212 := Tryz.underlying247
  a212 := Tryz.isAgg247
  z212 := Tryz.sizeOf247
  v212 := Tryz.zeroValue247
  t213 := Tryz.underlying248
  a213 := Tryz.isAgg248
  z213 := Tryz.sizeOf248
  t232 := Tryz.underlying22
  a232 := Tryz.isAgg22
  z232 := Tryz.sizeOf22
  v232 := Tryz.zeroValue22
  t233 := Tryz.underlying130
  a233 := Tryz.isAgg130
  z233 := Tryz.sizeOf130
  v233 := Tryz.zeroValue130
  g15 := by kernel_rfl
  g16 := by kernel_rfl
  g17 := by kernel_rfl
  g18 := by kernel_rfl
  g19 := by kernel_rfl
  t80 := Tryz.underlying274
  a80 := Tryz.isAgg274
  z80 := Tryz.sizeOf274
  v80 := Tryz.zeroValue274
  i0 := by kernel_rfl
  i2 := by kernel_rfl
  i3 := by kernel_rfl
  i4 := by kernel_rfl
  i5 := by kernel_rfl
  i9 := by kernel_rfl
  i20 := by kernel_rfl
  i37 := by kernel_rfl
  i46 := by kernel_rfl
  i51 := by kernel_rfl
  i53 := by kernel_rfl
  i75 := by kernel_rfl
  i80 := by kernel_rfl
  i127 := by kernel_rfl
  i143 := by kernel_rfl
  i145 := by kernel_rfl
  i167 := by kernel_rfl
  i168 := by kernel_rfl
  i171 := by kernel_rfl
  i173 := by kernel_rfl
  i210 := by kernel_rfl
  i212 := by kernel_rfl
  i232 := by kernel_rfl
  i233 := by kernel_rfl
  m15 := by kernel_rfl
  m16 := by kernel_rfl
  m17 := by kernel_rfl
  m18 := by kernel_rfl
  m19 := by kernel_rfl
  c0 := by kernel_rfl
  c2 := by kernel_rfl
  c3 := by kernel_rfl
  c4 := by kernel_rfl
  c5 := by kernel_rfl
  c9 := by kernel_rfl
  c20 := by kernel_rfl
  c37 := by kernel_rfl
  c46 := by kernel_rfl
  c51 := by kernel_rfl
  c53 := by kernel_rfl
  c75 := by kernel_rfl
  c80 := by kernel_rfl
  c127 := by kernel_rfl
  c143 := by kernel_rfl
  c145 := by kernel_rfl
  c167 := by kernel_rfl
  c168 := by kernel_rfl
  c171 := by kernel_rfl
  c173 := by kernel_rfl
  c210 := by kernel_rfl
  c212 := by kernel_rfl
  c213 := by kernel_rfl
  c232 := by kernel_rfl
  c233 := by kernel_rfl }
open Go.RowKit in
theorem Tryz.strconv_toError_syntax (fn s : ByteArray) (base bits : Int) (ev : Value) (w : World) (hlim : s.size ≤ 281474976710656) (hv : w.cell? ⟨4, 0, none⟩ = some ev) (hev : ev = .nilIface ∨ ∃ te pe, ev = .iface te pe) :
    Calls Tryz.prog 136 #[.string fn, .string s, .int .i64 base, .int .i64 bits, .iface 211 (.int .i64 2)] w fun e w' => ∃ N, e = .returned (.iface 213 (.pointer (some ⟨N, 0, none⟩))) ∧ w.heap.size ≤ N ∧ w'.heap[N]? = some (.cells #[.string fn, .string s, ev] 244 (0, 0)) ∧ Below w.heap.size w w' := Any.strconv_toError_syntax Tryz.laysC245 fn s base bits ev w hlim hv hev
def Tryz.lays287_ren : Go.Shelf.Ren := ⟨fun | 287 => 135 | 321 => 173 | 322 => 174 | n => n, fun | 9 => 9 | 3 => 3 | 53 => 24 | 75 => 146 | 4 => 4 | 167 => 211 | 5 => 5 | 46 => 77 | 37 => 52 | 0 => 0 | 21 => 21 | 80 => 274 | n => n, fun | n => n⟩
theorem Tryz.lays287 : Go.Proofs.Lays.n287 Tryz.prog Tryz.lays287_ren := {
  mixed := by kernel_rfl
  f287 := Tryz.func135.trans (congrArg some (by kernel_rfl))
  f321 := Tryz.func173.trans (congrArg some (by kernel_rfl))
  f322 := Tryz.func174.trans (congrArg some (by kernel_rfl))
  t0 := Tryz.underlying0
  a0 := Tryz.isAgg0
  z0 := Tryz.sizeOf0
  v0 := Tryz.zeroValue0
  t3 := Tryz.underlying3
  a3 := Tryz.isAgg3
  z3 := Tryz.sizeOf3
  v3 := Tryz.zeroValue3
  t4 := Tryz.underlying4
  a4 := Tryz.isAgg4
  z4 := Tryz.sizeOf4
  v4 := Tryz.zeroValue4
  t5 := Tryz.underlying5
  a5 := Tryz.isAgg5
  z5 := Tryz.sizeOf5
  v5 := Tryz.zeroValue5
  t9 := Tryz.underlying9
  a9 := Tryz.isAgg9
  z9 := Tryz.sizeOf9
  v9 := Tryz.zeroValue9
  t21 := Tryz.underlying21
  a21 := Tryz.isAgg21
  z21 := Tryz.sizeOf21
  v21 := Tryz.zeroValue21
  t37 := Tryz.underlying52
  a37 := Tryz.isAgg52
  z37 := Tryz.sizeOf52
  v37 := Tryz.zeroValue52
  t46 := Tryz.underlying77
  a46 := Tryz.isAgg77
  z46 := Tryz.sizeOf77
  v46 := Tryz.zeroValue77
  t53 := Tryz.underlying24
  a53 := Tryz.isAgg24
  z53 := Tryz.sizeOf24
  v53 := Tryz.zeroValue24
  t75 := Tryz.underlying146
  a75 := Tryz.isAgg146
  z75 := Tryz.sizeOf146
  v75 := Tryz.zeroValue146
  t167 := Tryz.underlying211
  a167 := Tryz.isAgg211
  z167 := Tryz.sizeOf211
  v167 := Tryz.zeroValue211 }
open Go.RowKit in
theorem Tryz.strconv_toError_range (fn s : ByteArray) (base bits : Int) (ev : Value) (w : World) (hlim : s.size ≤ 281474976710656) (hv : w.cell? ⟨5, 0, none⟩ = some ev) (hev : ev = .nilIface ∨ ∃ te pe, ev = .iface te pe) :
    Calls Tryz.prog 136 #[.string fn, .string s, .int .i64 base, .int .i64 bits, .iface 211 (.int .i64 1)] w fun e w' => ∃ N, e = .returned (.iface 213 (.pointer (some ⟨N, 0, none⟩))) ∧ w.heap.size ≤ N ∧ w'.heap[N]? = some (.cells #[.string fn, .string s, ev] 244 (0, 0)) ∧ Below w.heap.size w w' := Any.strconv_toError_range Tryz.laysC245 fn s base bits ev w hlim hv hev
open Go.RowKit in
theorem Tryz.internal_strconv_ParseUint_10_at64 (t : ByteArray) (hmax : t.size ≤ 9223372036854775806) (w : World) :
    Calls Tryz.prog 135 #[.string t, .int .i64 10, .int .i64 64] w fun e w' => e = .returned (Lib.uintTupleM 211 18446744073709551615 (Lib.parseUintB 64 t.data.toList)) ∧ (w' = w ∨ w' = Lib.bytesWorld w 5 t) := Any.internal_strconv_ParseUint_10_at64 Tryz.lays287 t hmax w
def Tryz.laysGw17_ren : Go.Shelf.Ren := ⟨fun | 17 => 66 | 15 => 96 | 20 => 131 | n => n, fun | 9 => 9 | 23 => 111 | 4 => 4 | 3 => 3 | 0 => 0 | 21 => 21 | n => n, fun | n => n⟩
theorem Tryz.laysGw17 : Go.Proofs.LaysGw.n17 Tryz.prog Tryz.laysGw17_ren := {
  mixed := by kernel_rfl
  f15 := Tryz.func96.trans (congrArg some (by kernel_rfl))
  f17 := Tryz.func66.trans (congrArg some (by kernel_rfl))
  f20 := Tryz.func131.trans (congrArg some (by kernel_rfl))
  t0 := Tryz.underlying0
  a0 := Tryz.isAgg0
  z0 := Tryz.sizeOf0
  v0 := Tryz.zeroValue0
  i0 := by kernel_rfl
  t3 := Tryz.underlying3
  a3 := Tryz.isAgg3
  z3 := Tryz.sizeOf3
  v3 := Tryz.zeroValue3
  i3 := by kernel_rfl
  t4 := Tryz.underlying4
  a4 := Tryz.isAgg4
  z4 := Tryz.sizeOf4
  v4 := Tryz.zeroValue4
  i4 := by kernel_rfl
  t9 := Tryz.underlying9
  a9 := Tryz.isAgg9
  z9 := Tryz.sizeOf9
  v9 := Tryz.zeroValue9
  i9 := by kernel_rfl
  t21 := Tryz.underlying21
  a21 := Tryz.isAgg21
  z21 := Tryz.sizeOf21
  v21 := Tryz.zeroValue21
  i21 := by kernel_rfl
  t23 := Tryz.underlying111
  a23 := Tryz.isAgg111
  z23 := Tryz.sizeOf111
  v23 := Tryz.zeroValue111
  i23 := by kernel_rfl }
def Tryz.lays146_ren : Go.Shelf.Ren := ⟨fun | 146 => 67 | 221 => 97 | 268 => 132 | 138 => 133 | 143 => 134 | 195 => 169 | 197 => 170 | 218 => 171 | 219 => 172 | 260 => 209 | 217 => 210 | 225 => 211 | 224 => 212 | 267 => 213 | 266 => 236 | 314 => 237 | n => n, fun | 9 => 9 | 31 => 59 | 3 => 3 | 4 => 4 | 0 => 0 | 105 => 208 | 21 => 21 | 5 => 5 | 46 => 77 | 119 => 259 | 139 => 262 | 138 => 261 | 146 => 263 | 51 => 76 | n => n, fun | 1 => 3 | 3 => 8 | 4 => 9 | n => n⟩
theorem Tryz.lays146 : Go.Proofs.Lays.n146 Tryz.prog Tryz.lays146_ren := {
  mixed := by kernel_rfl
  f138 := Tryz.func133.trans (congrArg some (by kernel_rfl))
  f143 := Tryz.func134.trans (congrArg some (by kernel_rfl))
  f146 := Tryz.func67.trans (congrArg some (by kernel_rfl))
  f195 := Tryz.func169.trans (congrArg some (by kernel_rfl))
  f197 := Tryz.func170.trans (congrArg some (by kernel_rfl))
  f217 := Tryz.func210.trans (congrArg some (by kernel_rfl))
  f218 := Tryz.func171.trans (congrArg some (by kernel_rfl))
  f219 := Tryz.func172.trans (congrArg some (by kernel_rfl))
  f221 := Tryz.func97.trans (congrArg some (by kernel_rfl))
  f224 := Tryz.func212.trans (congrArg some (by kernel_rfl))
  f225 := Tryz.func211.trans (congrArg some (by kernel_rfl))
  f260 := Tryz.func209.trans (congrArg some (by kernel_rfl))
  f266 := Tryz.func236.trans (congrArg some (by kernel_rfl))
  f267 := Tryz.func213.trans (congrArg some (by kernel_rfl))
  f268 := Tryz.func132.trans (congrArg some (by kernel_rfl))
  f314 := Tryz.func237.trans (congrArg some (by kernel_rfl))
  t0 := Tryz.underlying0
  a0 := Tryz.isAgg0
  z0 := Tryz.sizeOf0
  v0 := Tryz.zeroValue0
  t3 := Tryz.underlying3
  a3 := Tryz.isAgg3
  z3 := Tryz.sizeOf3
  v3 := Tryz.zeroValue3
  t4 := Tryz.underlying4
  a4 := Tryz.isAgg4
  z4 := Tryz.sizeOf4
  v4 := Tryz.zeroValue4
  t5 := Tryz.underlying5
  a5 := Tryz.isAgg5
  z5 := Tryz.sizeOf5
  v5 := Tryz.zeroValue5
  t9 := Tryz.underlying9
  a9 := Tryz.isAgg9
  z9 := Tryz.sizeOf9
  v9 := Tryz.zeroValue9
  t21 := Tryz.underlying21
  a21 := Tryz.isAgg21
  z21 := Tryz.sizeOf21
  v21 := Tryz.zeroValue21
  t31 := Tryz.underlying59
  a31 := Tryz.isAgg59
  z31 := Tryz.sizeOf59
  v31 := Tryz.zeroValue59
  t46 := Tryz.underlying77
  a46 := Tryz.isAgg77
  z46 := Tryz.sizeOf77
  v46 := Tryz.zeroValue77
  t51 := Tryz.underlying76
  a51 := Tryz.isAgg76
  z51 := Tryz.sizeOf76
  v51 := Tryz.zeroValue76
  t105 := Tryz.underlying208
  a105 := Tryz.isAgg208
  z105 := Tryz.sizeOf208
  v105 := Tryz.zeroValue208
  t119 := Tryz.underlying259
  a119 := Tryz.isAgg259
  z119 := Tryz.sizeOf259
  t138 := Tryz.underlying261
  a138 := Tryz.isAgg261
  z138 := Tryz.sizeOf261
  v138 := Tryz.zeroValue261
  t139 := Tryz.underlying262
  a139 := Tryz.isAgg262
  z139 := Tryz.sizeOf262
  v139 := Tryz.zeroValue262
  t146 := Tryz.underlying263
  a146 := Tryz.isAgg263
  z146 := Tryz.sizeOf263
  v146 := Tryz.zeroValue263
  g1 := by kernel_rfl
  g3 := by kernel_rfl
  g4 := by kernel_rfl }
open Go.RowKit Go.Lib in
theorem Tryz.strings_Split (s sep : ByteArray) (m : Int) (w : World) (hs : s.size < 4294967281) (hm : w.cell? ⟨3, 0, none⟩ = some (.int .i64 m)) (h1 : 1 ≤ sep.size) :
    Calls Tryz.prog 67 #[.string s, .string sep] w fun e w' =>
      e = .returned (.slice (some ⟨w.heap.size, 0, none⟩) (Lib.countB s sep + 1) (Lib.countB s sep + 1)) ∧ w' = w.alloc (.cells ((Lib.splitB sep 0 (Lib.countB s sep) s).map Value.string).toArray 9) := Any.strings_Split Tryz.lays146 (by kernel_rfl) s sep m w hs hm h1
def Tryz.lays147_ren : Go.Shelf.Ren := ⟨fun | 147 => 101 | 221 => 97 | 268 => 132 | 138 => 133 | 143 => 134 | 195 => 169 | 197 => 170 | 218 => 171 | 219 => 172 | 260 => 209 | 217 => 210 | 225 => 211 | 224 => 212 | 267 => 213 | 266 => 236 | 314 => 237 | n => n, fun | 9 => 9 | 3 => 3 | 31 => 59 | 4 => 4 | 0 => 0 | 105 => 208 | 21 => 21 | 5 => 5 | 46 => 77 | 119 => 259 | 139 => 262 | 138 => 261 | 146 => 263 | 51 => 76 | n => n, fun | 1 => 3 | 3 => 8 | 4 => 9 | n => n⟩
theorem Tryz.lays147 : Go.Proofs.Lays.n147 Tryz.prog Tryz.lays147_ren := {
  mixed := by kernel_rfl
  f138 := Tryz.func133.trans (congrArg some (by kernel_rfl))
  f143 := Tryz.func134.trans (congrArg some (by kernel_rfl))
  f147 := Tryz.func101.trans (congrArg some (by kernel_rfl))
  f195 := Tryz.func169.trans (congrArg some (by kernel_rfl))
  f197 := Tryz.func170.trans (congrArg some (by kernel_rfl))
  f217 := Tryz.func210.trans (congrArg some (by kernel_rfl))
  f218 := Tryz.func171.trans (congrArg some (by kernel_rfl))
  f219 := Tryz.func172.trans (congrArg some (by kernel_rfl))
  f221 := Tryz.func97.trans (congrArg some (by kernel_rfl))
  f224 := Tryz.func212.trans (congrArg some (by kernel_rfl))
  f225 := Tryz.func211.trans (congrArg some (by kernel_rfl))
  f260 := Tryz.func209.trans (congrArg some (by kernel_rfl))
  f266 := Tryz.func236.trans (congrArg some (by kernel_rfl))
  f267 := Tryz.func213.trans (congrArg some (by kernel_rfl))
  f268 := Tryz.func132.trans (congrArg some (by kernel_rfl))
  f314 := Tryz.func237.trans (congrArg some (by kernel_rfl))
  t0 := Tryz.underlying0
  a0 := Tryz.isAgg0
  z0 := Tryz.sizeOf0
  v0 := Tryz.zeroValue0
  t3 := Tryz.underlying3
  a3 := Tryz.isAgg3
  z3 := Tryz.sizeOf3
  v3 := Tryz.zeroValue3
  t4 := Tryz.underlying4
  a4 := Tryz.isAgg4
  z4 := Tryz.sizeOf4
  v4 := Tryz.zeroValue4
  t5 := Tryz.underlying5
  a5 := Tryz.isAgg5
  z5 := Tryz.sizeOf5
  v5 := Tryz.zeroValue5
  t9 := Tryz.underlying9
  a9 := Tryz.isAgg9
  z9 := Tryz.sizeOf9
  v9 := Tryz.zeroValue9
  t21 := Tryz.underlying21
  a21 := Tryz.isAgg21
  z21 := Tryz.sizeOf21
  v21 := Tryz.zeroValue21
  t31 := Tryz.underlying59
  a31 := Tryz.isAgg59
  z31 := Tryz.sizeOf59
  v31 := Tryz.zeroValue59
  t46 := Tryz.underlying77
  a46 := Tryz.isAgg77
  z46 := Tryz.sizeOf77
  v46 := Tryz.zeroValue77
  t51 := Tryz.underlying76
  a51 := Tryz.isAgg76
  z51 := Tryz.sizeOf76
  v51 := Tryz.zeroValue76
  t105 := Tryz.underlying208
  a105 := Tryz.isAgg208
  z105 := Tryz.sizeOf208
  v105 := Tryz.zeroValue208
  t119 := Tryz.underlying259
  a119 := Tryz.isAgg259
  z119 := Tryz.sizeOf259
  t138 := Tryz.underlying261
  a138 := Tryz.isAgg261
  z138 := Tryz.sizeOf261
  v138 := Tryz.zeroValue261
  t139 := Tryz.underlying262
  a139 := Tryz.isAgg262
  z139 := Tryz.sizeOf262
  v139 := Tryz.zeroValue262
  t146 := Tryz.underlying263
  a146 := Tryz.isAgg263
  z146 := Tryz.sizeOf263
  v146 := Tryz.zeroValue263
  g1 := by kernel_rfl
  g3 := by kernel_rfl
  g4 := by kernel_rfl }
open Go.RowKit Go.Lib in
theorem Tryz.strings_SplitN (s sep : ByteArray) (n : Nat) (m : Int) (w : World) (hs : s.size < 4294967281) (hm : w.cell? ⟨3, 0, none⟩ = some (.int .i64 m)) (h1 : 1 ≤ sep.size) (hn : 1 ≤ n) (hn63 : n ≤ 9223372036854775807) :
    Calls Tryz.prog 101 #[.string s, .string sep, .int .i64 n] w fun e w' =>
      e = .returned (.slice (some ⟨w.heap.size, 0, none⟩) (Lib.splitB sep 0 (min n (s.size + 1) - 1) s).length (min n (s.size + 1))) ∧ w' = w.alloc (.cells (Lib.cellsOf (Lib.splitB sep 0 (min n (s.size + 1) - 1) s) (min n (s.size + 1))) 9) := Any.strings_SplitN Tryz.lays147 (by kernel_rfl) s sep n m w hs hm h1 hn hn63
open Go.RowKit Go.Lib in
theorem Tryz.strings_ContainsFunc_grows (g : Nat) (lb : Array Value) (eg : ∀ args w, (callFunc g args).run Tryz.prog w = .ok (.enter g args) w) (p : Nat → Bool) (s : ByteArray) (w : World) (hp : PredGrows Tryz.prog g lb p w) :
    Calls Tryz.prog 66 #[.string s, .func (.func g) #[] lb] w fun e w' => e = .returned (.bool (decide (0 ≤ Lib.idxFunc p true s))) ∧ Below w.heap.size w w' := Any.strings_ContainsFunc_grows Tryz.laysGw17 g lb eg p s w hp
def Tryz.lays110_ren : Go.Shelf.Ren := ⟨fun | 110 => 68 | 109 => 98 | n => n, fun | 31 => 59 | 9 => 9 | 4 => 4 | 3 => 3 | 0 => 0 | n => n, fun | n => n⟩
theorem Tryz.lays110 : Go.Proofs.Lays.n110 Tryz.prog Tryz.lays110_ren := {
  mixed := by kernel_rfl
  f109 := Tryz.func98.trans (congrArg some (by kernel_rfl))
  f110 := Tryz.func68.trans (congrArg some (by kernel_rfl))
  t0 := Tryz.underlying0
  a0 := Tryz.isAgg0
  z0 := Tryz.sizeOf0
  v0 := Tryz.zeroValue0
  t3 := Tryz.underlying3
  a3 := Tryz.isAgg3
  z3 := Tryz.sizeOf3
  v3 := Tryz.zeroValue3
  t4 := Tryz.underlying4
  a4 := Tryz.isAgg4
  z4 := Tryz.sizeOf4
  v4 := Tryz.zeroValue4
  t9 := Tryz.underlying9
  a9 := Tryz.isAgg9
  z9 := Tryz.sizeOf9
  v9 := Tryz.zeroValue9
  t31 := Tryz.underlying59
  a31 := Tryz.isAgg59
  z31 := Tryz.sizeOf59
  v31 := Tryz.zeroValue59 }
open Go.Lib in
theorem Tryz.slices_Contains_string (b off n c : Nat) (zs : List ByteArray) (x : ByteArray) (w : World) (hz : n ≤ zs.length) (hbig : n ≤ 9223372036854775807) (hc : ∀ j, j < zs.length → w.cell? ⟨b, off + j, none⟩ = some (.string (zs.getD j ByteArray.empty))) :
    Calls Tryz.prog 68 #[.slice (some ⟨b, off, none⟩) n c, .string x] w fun e w' => e = .returned (.bool (Lib.containsS (zs.take n) x)) ∧ w' = w := Any.slices_Contains_string Tryz.lays110 b off n c zs x w hz hbig hc
open Go.Lib in
theorem Tryz.slices_Contains_string_empty (a : Option Addr) (c : Nat) (x : ByteArray) (w : World) :
    Calls Tryz.prog 68 #[.slice a 0 c, .string x] w fun e w' => e = .returned (.bool false) ∧ w' = w := Any.slices_Contains_string_empty Tryz.lays110 a c x w
end Go.Proofs.YtimdhdimhboboaaGreatDoor

/- strings.SplitSeq at a sign of one byte: the pieces, one by one. -/
namespace Go.Proofs.YtimdhdimhboboaaGreatDoor
set_option maxRecDepth 100000
open Go Go.RowKit

attribute [local go_sem] Oper.semAt_some
end Go.Proofs.YtimdhdimhboboaaGreatDoor

/- strconv.FormatUint at base 10, where the library's table of powers of ten lies as it is laid (layers 12, 15). -/
namespace Go.Proofs.YtimdhdimhboboaaGreatDoor
set_option maxRecDepth 100000
open Go Go.RowKit Go.Lib Go.Sort

theorem gPow : Tryz.prog.globalNamed "internal/strconv.uint64pow10" = some 6 := by kernel_rfl
theorem cell_later {w w' : World} {B b o : Nat} {v : Value} (h : w.cell? ⟨b, o, none⟩ = some v) (hB : w.heap.size ≤ B) (hb : Below B w w') : w'.cell? ⟨b, o, none⟩ = some v := by
  obtain ⟨c, e, fr, hb', _⟩ := cells_of_cell? h
  rw [hb.cell (Nat.lt_of_lt_of_le (Array.getElem?_eq_some_iff.1 hb').1 hB)]
  exact h
theorem decDigits_num (n : Nat) : decDigits n = numL 10 n := by
  induction n using Nat.strongRecOn with
  | _ n ih =>
    rw [decDigits]
    by_cases h : n < 10
    · rw [dif_pos h, numL_small 10 n h]
      unfold hexD
      rw [if_pos h]
    · rw [dif_neg h, numL_great 10 n (by omega) (by omega), ih (n / 10) (by omega)]
      unfold hexD
      rw [if_pos (by omega)]
set_option maxHeartbeats 2000000 in
theorem fmt10_p (u : Nat) (hu64 : u < 18446744073709551616) (w : World) (hp : TabIs Tryz.prog w "internal/strconv.uint64pow10" .u64 pow10Tab) :
    Calls Tryz.prog 137 #[.int .u64 u, .int .i64 10] w fun e w' => e = .returned (.string (bstr (numL 10 u))) ∧ Below w.heap.size w w' := by
  rw [← decDigits_num]
  by_cases hs : u < 100
  · have hs' : (u : Int) < 100 := by omega
    have hw1 : IntKind.i64.wrap (u : Int) = (u : Int) := by rw [IntKind.wrap_i64]; omega
    go_enter Tryz.func137, Tryz.ntmps137
    go_wp2_with (go_at_call 179; refine (Tryz.internal_strconv_small u hs _).mono ?_; rintro e w' ⟨rfl, rfl⟩)
    go_ret
    exact ⟨rfl, Below.refl _ _⟩
  · have hs' : (100 : Int) ≤ (u : Int) := by omega
    have hu1 : 1 ≤ u := by omega
    have hnd20 : nDigits u ≤ 20 := by have := numDigits_eq u hu1 hu64; split at this <;> omega
    have hb3 : nDigits u ≤ 23 := by omega
    have hal : Tryz.prog.arrayLen 216 = 24 := by kernel_rfl
    have hsl : ∀ W, (Instr.sliceAt 216 (.pointer (some ⟨w.heap.size, 0, none⟩)) none (some (.int .i64 (nDigits u : Int))) none).run Tryz.prog W = .ok (.slice (some ⟨w.heap.size, 0, none⟩) (nDigits u) 24) W := fun W => by
      rw [run_sliceAt_array_h W 216 ⟨w.heap.size, 0, none⟩ (by kernel_rfl) .i64 (nDigits u : Int) (by omega) (by rw [hal]; omega), hal]
      rfl
    have hH0 : Holds (fun (b : UInt8) => Value.int .u8 (b.toNat : Int)) (w.alloc (.cells zeros24 216)) w.heap.size 0 (Array.replicate (nDigits u) (0 : UInt8)) := fun j hj => by
      have hj' : j < nDigits u := by simpa using hj
      refine ⟨?_, World.frozen?_alloc_new _ _ _ _⟩
      rw [World.cell?_alloc_new, zeros24_at _ (by omega), getElem!_pos _ j hj]
      simp
    have hfmt := Lib.hid (Tryz.internal_strconv_formatBase10 w.heap.size 0 24 u (Array.replicate (nDigits u) 0) (w.alloc (.cells zeros24 216)) hH0 (by rw [Array.size_replicate]; exact lt_pow_nDigits u) hu64 (by rw [Array.size_replicate]; omega))
    rw [Array.size_replicate] at hfmt
    have HH0 := Lib.hid hH0
    have hE1 := Lib.hid (Joins.tab_stays gPow hp ((RowKit.Below.refl _ w).alloc (Nat.le_refl _) (.cells zeros24 216)) (Nat.le_refl _))
    clear hH0 hal
    go_enter Tryz.func137, Tryz.ntmps137
    go_wp2_with (first
      | (go_at_call 180; refine (Tryz.internal_strconv_numDigits u hu1 hu64 _ hE1.out).mono ?_; rintro e w' ⟨rfl, rfl⟩)
      | (go_at_call 181; refine hfmt.out.mono ?_; rintro e w' ⟨rfl, k, v', dk, rfl, hF⟩; refine Hid.out ?_))
    refine Lib.hid ?_
    have hcv : (convert 52 9 (.slice (some ⟨w.heap.size, 0, none⟩) (nDigits u) 24)).run Tryz.prog ((putRow (fun (b : UInt8) => Value.int .u8 (b.toNat : Int)) (w.alloc (.cells zeros24 216)) w.heap.size 0 dk).drewN k) = .ok (.string (bstr (decDigits u))) ((putRow (fun (b : UInt8) => Value.int .u8 (b.toNat : Int)) (w.alloc (.cells zeros24 216)) w.heap.size 0 dk).drewN k) := by
      have h := run_convert_bytes_back (P := Tryz.prog) ((putRow (fun (b : UInt8) => Value.int .u8 (b.toNat : Int)) (w.alloc (.cells zeros24 216)) w.heap.size 0 dk).drewN k) 52 9 5 ⟨w.heap.size, 0, none⟩ 24 (decDigits u) Tryz.underlying52 Tryz.underlying5 Tryz.underlying9 (fun j hj => by
        rw [Lib.add_plain, Lib.row_is_numeral hF j hj, World.cell?_drewN]
        exact cell?_putRow (fun (b : UInt8) => Value.int .u8 (b.toNat : Int)) _ w.heap.size 0 _ dk HH0.out (by rw [hF.size, Array.size_replicate]) j (by rw [hF.size]; rw [Lib.decDigits_length] at hj; exact hj))
      rw [Lib.decDigits_length] at h
      exact h
    have hb : RowKit.Below w.heap.size w ((putRow (fun (b : UInt8) => Value.int .u8 (b.toNat : Int)) (w.alloc (.cells zeros24 216)) w.heap.size 0 dk).drewN k) :=
      have h := below_putRow (enc := fun (b : UInt8) => Value.int .u8 (b.toNat : Int)) (d := dk) (q := 0) ((RowKit.Below.refl _ w).alloc (Nat.le_refl _) (.cells zeros24 216)) (Nat.le_refl _)
      ⟨h.os, h.tape, h.output, h.size, h.block⟩
    generalize ((putRow (fun (b : UInt8) => Value.int .u8 (b.toNat : Int)) (w.alloc (.cells zeros24 216)) w.heap.size 0 dk).drewN k) = w3 at *
    generalize hS : bstr (decDigits u) = S at *
    have HS := Lib.hid hS
    clear hS
    go_wp2
    go_ret
    exact ⟨by rw [HS.out]; rfl, hb⟩
theorem fmt10_q (u : Nat) (hu64 : u < 18446744073709551616) (w : World) (hp : TabIs Tryz.prog w "internal/strconv.uint64pow10" .u64 pow10Tab) :
    Calls Tryz.prog 100 #[.int .u64 u, .int .i64 10] w fun e w' => e = .returned (.string (bstr (numL 10 u))) ∧ Below w.heap.size w w' := by
  go_enter Tryz.func100, Tryz.ntmps100
  go_wp2_with (go_at_call 137; refine (fmt10_p u hu64 _ hp).mono ?_; rintro e w' ⟨rfl, hb⟩)
  go_ret
  exact ⟨rfl, hb⟩
end Go.Proofs.YtimdhdimhboboaaGreatDoor

/- LAYER 12: what package addr asks of the library: what the listed variables hold; strconv.FormatUint at base 10. -/
namespace Go.Proofs.YtimdhdimhboboaaGreatDoor
set_option maxRecDepth 100000
open Go Go.RowKit Go.Lib Go.Sort

/-- What the listed variables hold, as far as package addr comes to them. -/
structure Env (w : World) : Prop where
  most : ∃ m, w.cell? ⟨3, 0, none⟩ = some (.int .i64 m)
  pow : TabIs Tryz.prog w "internal/strconv.uint64pow10" .u64 pow10Tab
  four : w.cell? ⟨7, 15, none⟩ = some (.int .u8 4)
  synt : ∃ v, w.cell? ⟨4, 0, none⟩ = some v ∧ (v = .nilIface ∨ ∃ t p, v = .iface t p)
  rang : ∃ v, w.cell? ⟨5, 0, none⟩ = some v ∧ (v = .nilIface ∨ ∃ t p, v = .iface t p)
end Go.Proofs.YtimdhdimhboboaaGreatDoor

/- What the library's readers of numerals come to, whatever the base and the bits (layers 12, 15). -/
namespace Go.Proofs.YtimdhdimhboboaaGreatDoor
set_option maxRecDepth 100000
open Go Go.RowKit

def errV (k : Nat) : Value := if k = 0 then .nilIface else .iface 211 (.int .i64 (k : Int))
/-- The number, and whatever error. -/
def GavePu (n : Nat) (w : World) (e : Ending) (w' : World) : Prop := ∃ v, e = .returned (.tuple #[.int .u64 (n : Int), v]) ∧ Below w.heap.size w w'
def GaveAny (w : World) (e : Ending) (w' : World) : Prop := ∃ v, e = .returned v ∧ Below w.heap.size w w'
end Go.Proofs.YtimdhdimhboboaaGreatDoor

/- LAYER 12: package addr: numbers. -/
namespace Go.Proofs.YtimdhdimhboboaaGreatDoor
set_option maxRecDepth 100000
open Go Go.RowKit

attribute [local go_sem] Oper.semAt_some
end Go.Proofs.YtimdhdimhboboaaGreatDoor

/- LAYER 15: what the listed variables hold; ParseUint, ParseInt, Itoa, TrailingZeros64 as package cost calls them. -/
namespace Go.Proofs.YtimdhdimhboboaaGreatDoor
set_option maxRecDepth 100000
open Go Go.RowKit

/-- What the listed variables hold, as far as a number's text comes to them. -/
structure EnvC (w : World) : Prop where
  pow : Lib.TabIs Tryz.prog w "internal/strconv.uint64pow10" .u64 Lib.pow10Tab
  tz : TabAt 7 Lib.deBruijn64tab w
/-- The like, as far as a text's number comes to them. -/
structure EnvD (w : World) : Prop extends EnvC w where
  most : ∃ m, w.cell? ⟨3, 0, none⟩ = some (.int .i64 m)
  synt : ∃ v, w.cell? ⟨4, 0, none⟩ = some v ∧ (v = .nilIface ∨ ∃ t p, v = .iface t p)
  rang : ∃ v, w.cell? ⟨5, 0, none⟩ = some v ∧ (v = .nilIface ∨ ∃ t p, v = .iface t p)
theorem EnvC.next {w w' : World} (h : EnvC w) (hb : Below w.heap.size w w') : EnvC w' :=
  ⟨Joins.tab_stays gPow h.pow hb (Nat.le_refl _), fun j hj => cell_later (h.tz j hj) (Nat.le_refl _) hb⟩
theorem EnvD.next {w w' : World} (h : EnvD w) (hb : Below w.heap.size w w') : EnvD w' := by
  obtain ⟨hC, ⟨m, hm⟩, ⟨v, hv, h1⟩, ⟨u, hu, h2⟩⟩ := h
  exact ⟨hC.next hb, ⟨m, cell_later hm (Nat.le_refl _) hb⟩, ⟨v, cell_later hv (Nat.le_refl _) hb, h1⟩, ⟨u, cell_later hu (Nat.le_refl _) hb, h2⟩⟩
/-! TrailingZeros64. -/
/-! Itoa. -/
/-! ParseUint, ParseInt. -/
end Go.Proofs.YtimdhdimhboboaaGreatDoor

/- LAYER 16: what package lex asks of the library, as lists. No Go function is spoken of here. -/
namespace Go.Proofs.YtimdhdimhboboaaGreatDoor
set_option maxRecDepth 100000
open Go Go.RowKit Go.Lib

theorem all_from16 (q : UInt8 → Bool) (s : List UInt8) (k : Nat) (h : k < s.length) : (s.drop k).all q = (q (s[k]) && (s.drop (k + 1)).all q) := by
  rw [List.drop_eq_getElem_cons h, List.all_cons]
theorem idx_from16 (p : Nat → Bool) (q : UInt8 → Bool) (hb : ∀ c : UInt8, p c.toNat = !q c) (hh : ∀ x, 128 ≤ x → p x = true) (s : List UInt8) : ∀ (f pos : Nat), s.length ≤ pos + f → decide (0 ≤ idxFuncFrom p true (bstr s) f pos) = !(s.drop pos).all q := by
  intro f
  have hz := size_bstr s
  have hq : ∀ c : UInt8, 128 ≤ c.toNat → q c = false := by
    intro c h
    have := hb c
    rw [hh _ h] at this
    cases hs : q c with
    | false => rfl
    | true => rw [hs] at this; cases this
  induction f with
  | zero =>
    intro pos h
    rw [List.drop_eq_nil_of_le (by omega)]; rfl
  | succ f ih =>
    intro pos h
    rw [idxFuncFrom]
    by_cases hp : pos < s.length
    · rw [if_pos (by omega), all_from16 q s pos hp]
      have hp' : pos < (bstr s).size := by omega
      have hbp : (bstr s)[pos]'hp' = s[pos] := rfl
      by_cases ha : (s[pos]).toNat < 128
      · have e := decode_ascii (bstr s) pos hp' (by rw [hbp]; exact ha)
        rw [hbp] at e
        rw [e]
        show decide (0 ≤ if p (s[pos]).toNat = true then (pos : Int) else idxFuncFrom p true (bstr s) f (pos + 1)) = _
        rw [hb]
        cases hs : q s[pos] with
        | false => rw [if_pos (by rfl)]; simp
        | true =>
          rw [if_neg (by simp), ih (pos + 1) (by omega), Bool.true_and]
      · have e := (decode_high (bstr s) pos hp' (by rw [hbp]; omega)).1
        rw [if_pos (hh _ e), hq _ (by omega)]
        simp
    · rw [if_neg (by omega), List.drop_eq_nil_of_le (by omega)]; rfl
theorem idx_sign16 (p : Nat → Bool) (q : UInt8 → Bool) (hb : ∀ c : UInt8, p c.toNat = !q c) (hh : ∀ x, 128 ≤ x → p x = true) (s : List UInt8) : decide (0 ≤ idxFunc p true (bstr s)) = !s.all q := by
  unfold idxFunc
  exact idx_from16 p q hb hh s _ 0 (by rw [size_bstr]; omega)
/-- May no such rune stand between two bounds? -/
def strangeX (a b : Nat) (x : Nat) : Bool := decide (x < a) || decide (b < x)
theorem idx_ink (s : List UInt8) : decide (0 ≤ idxFunc (strangeX 32 126) true (bstr s)) = !s.all inkB := by
  refine idx_sign16 _ _ (fun c => ?_) (fun x h => ?_) s
  · unfold strangeX inkB
    rw [Bool.not_and, ← decide_not, ← decide_not]
    congr 1 <;> exact decide_eq_decide.2 (by omega)
  · unfold strangeX
    rw [decide_eq_true (by omega : 126 < x), Bool.or_true]
theorem idx_low (s : List UInt8) : decide (0 ≤ idxFunc (strangeX 97 122) true (bstr s)) = !s.all lowB := by
  refine idx_sign16 _ _ (fun c => ?_) (fun x h => ?_) s
  · unfold strangeX lowB
    rw [Bool.not_and, ← decide_not, ← decide_not]
    congr 1 <;> exact decide_eq_decide.2 (by omega)
  · unfold strangeX
    rw [decide_eq_true (by omega : 122 < x), Bool.or_true]
/-- Where more signs stand than pieces are asked for, there are just so many. -/
theorem splitB_more (c : UInt8) : ∀ (k : Nat) (s : List UInt8), k ≤ s.count c → (Lib.splitB (bstr [c]) 0 k (bstr s)).length = k + 1 := by
  intro k
  induction k with
  | zero => intro s _; rfl
  | succ k ih =>
    intro s h
    have e1 : Lib.indexB (bstr s) (bstr [c]) = Lib.indexByte s c := Lib.index_one s c
    rcases index_cases s c with ⟨hi, hsp⟩ | ⟨i, hir, hi, hsp⟩
    · have h2 := Lib.indexByte_none hi
      exfalso
      have hp : 0 < s.count c := by omega
      obtain ⟨j, hj⟩ := List.getElem?_of_mem (List.count_pos_iff.1 hp)
      exact h2 j hj
    · rw [Lib.splitB_hit _ _ _ _ i (by rw [e1, hi]), List.length_cons]
      have h2 := (Lib.indexByte_some hi).1
      have h3 := (Lib.indexByte_some hi).2
      have h1 : (bstr [c]).size = 1 := rfl
      have h0 : (s.take i).count c = 0 := by
        rw [List.count_eq_zero]
        intro hm
        obtain ⟨j, hj⟩ := List.getElem?_of_mem hm
        have hji : j < i := by have := (List.getElem?_eq_some_iff.1 hj).1; rw [List.length_take] at this; omega
        refine h3 j hji ?_
        rw [List.getElem?_take, if_pos hji] at hj
        exact hj
      have hc : s.count c = (s.take i).count c + (1 + (s.drop (i + 1)).count c) := by
        have e : s = s.take i ++ c :: s.drop (i + 1) := by
          have hg : s[i] = c := (List.getElem?_eq_some_iff.1 h2).2
          conv => lhs; rw [← List.take_append_drop i s, List.drop_eq_getElem_cons hir, hg]
        conv => lhs; rw [e]
        rw [List.count_append, List.count_cons_self]; omega
      have e2 : (bstr s).extract (i + (bstr [c]).size) (bstr s).size = bstr (s.drop (i + 1)) := by
        rw [h1, size_bstr, extract_bstr12, List.take_of_length_le (by rw [List.length_drop]; omega)]
      rw [e2, ih _ (by omega)]
theorem splitB_le (c : UInt8) : ∀ (k : Nat) (s : List UInt8), (Lib.splitB (bstr [c]) 0 k (bstr s)).length ≤ k + 1 := by
  intro k
  induction k with
  | zero => intro s; exact Nat.le_refl _
  | succ k ih =>
    intro s
    have e1 : Lib.indexB (bstr s) (bstr [c]) = Lib.indexByte s c := Lib.index_one s c
    rcases index_cases s c with ⟨hi, hsp⟩ | ⟨i, hir, hi, hsp⟩
    · rw [Lib.splitB_miss _ _ _ _ (by rw [e1, hi])]
      simp
    · rw [Lib.splitB_hit _ _ _ _ i (by rw [e1, hi]), List.length_cons]
      have e2 : (bstr s).extract (i + (bstr [c]).size) (bstr s).size = bstr (s.drop (i + 1)) := by
        rw [show (bstr [c]).size = 1 from rfl, size_bstr, extract_bstr12, List.take_of_length_le (by rw [List.length_drop]; omega)]
      rw [e2]
      have := ih (s.drop (i + 1))
      omega
theorem splitL_count (c : UInt8) (s : List UInt8) : (splitL c s).length = s.count c + 1 := by
  rw [← split_count c s]
  congr 1
  exact Lib.count_one c s
theorem splitB_piece (c : UInt8) : ∀ (k : Nat) (s : List UInt8), ∀ b ∈ Lib.splitB (bstr [c]) 0 k (bstr s), b.data.toList.length ≤ s.length := by
  intro k
  have h0 : ∀ s : List UInt8, (bstr s).data.toList = s := fun s => rfl
  induction k with
  | zero =>
    intro s b hb
    rw [Lib.splitB_zero, List.mem_singleton] at hb
    rw [hb, h0]; exact Nat.le_refl _
  | succ k ih =>
    intro s b hb
    have e1 : Lib.indexB (bstr s) (bstr [c]) = Lib.indexByte s c := Lib.index_one s c
    rcases index_cases s c with ⟨hi, hsp⟩ | ⟨i, hir, hi, hsp⟩
    · rw [Lib.splitB_miss _ _ _ _ (by rw [e1, hi]), List.mem_singleton] at hb
      rw [hb, h0]; exact Nat.le_refl _
    · rw [Lib.splitB_hit _ _ _ _ i (by rw [e1, hi]), List.mem_cons] at hb
      rcases hb with hb | hb
      · rw [hb, extract_bstr12, h0, List.length_take, List.length_drop]; omega
      · have e2 : (bstr s).extract (i + (bstr [c]).size) (bstr s).size = bstr (s.drop (i + 1)) := by
          rw [show (bstr [c]).size = 1 from rfl, size_bstr, extract_bstr12, List.take_of_length_le (by rw [List.length_drop]; omega)]
        rw [e2] at hb
        have := ih _ b hb
        rw [List.length_drop] at this; omega
/-- The library's SplitN, 33 pieces at most: the text has names just where these are such, and then they are they. -/
theorem splitN_names (s : List UInt8) : ∃ ps : List (List UInt8), Lib.splitB (bstr [44]) 0 (min 33 (s.length + 1) - 1) (bstr s) = ps.map bstr ∧ namesC s = (if riseL ps = true then some ps else none) ∧ (∀ p ∈ ps, p.length ≤ s.length) ∧ ps.length ≤ min 33 (s.length + 1) := by
  have hle : s.count 44 ≤ s.length := List.count_le_length
  have hlen := splitB_le 44 (min 33 (s.length + 1) - 1) s
  by_cases h : s.count 44 ≤ 32
  · have e := splitB_sign 44 (min 33 (s.length + 1) - 1) s (by omega)
    rw [e, List.length_map] at hlen
    exact ⟨splitL 44 s, e, rfl, splitL_piece 44 s, by omega⟩
  · have h33 := splitB_more 44 32 s (by omega)
    rw [← show min 33 (s.length + 1) - 1 = 32 by omega] at h33
    have hp := splitB_piece 44 (min 33 (s.length + 1) - 1) s
    generalize Lib.splitB (bstr [44]) 0 (min 33 (s.length + 1) - 1) (bstr s) = bs at *
    refine ⟨bs.map (fun b => b.data.toList), ?_, ?_, ?_, ?_⟩
    · rw [List.map_map]
      conv => lhs; rw [← List.map_id bs]
      exact List.map_congr_left fun b _ => by obtain ⟨⟨l⟩⟩ := b; rfl
    · have e1 : riseL (splitL 44 s) = false := by
        unfold riseL
        rw [splitL_count, decide_eq_false (by omega : ¬ s.count 44 + 1 ≤ 32), Bool.and_false]; rfl
      have e2 : riseL (bs.map (fun b => b.data.toList)) = false := by
        unfold riseL
        rw [List.length_map, decide_eq_false (by omega : ¬ bs.length ≤ 32), Bool.and_false]; rfl
      unfold namesC
      rw [e1, e2]; rfl
    · intro p hq
      obtain ⟨b, hb, rfl⟩ := List.mem_map.1 hq
      exact hp b hb
    · rw [List.length_map]; omega
/-! Numbers. -/
/-- What ParseUint answers beside its error. -/
def puX (l : List UInt8) : Nat := match Lib.parseUintB 64 l with
  | .ok v => v
  | .range => 18446744073709551615
  | _ => 0
theorem parseM_le : ∀ (l : List UInt8) (acc v : Nat), acc ≤ 18446744073709551615 → Lib.parseUintM 18446744073709551615 acc l = .ok v → v ≤ 18446744073709551615 := by
  intro l
  induction l with
  | nil =>
    intro acc v ha h
    rw [Lib.parseUintM] at h
    injection h with h
    omega
  | cons c r ih =>
    intro acc v ha h
    rw [Lib.parseUintM] at h
    split at h
    · split at h
      · cases h
      · split at h
        · cases h
        · exact ih _ _ (by omega) h
    · cases h
theorem puX_lt (l : List UInt8) : puX l < 18446744073709551616 := by
  unfold puX
  cases h : Lib.parseUintB 64 l with
  | ok v =>
    show v < _
    unfold Lib.parseUintB at h
    split at h
    · cases h
    · have := parseM_le l 0 v (by omega) h
      omega
  | range => show 18446744073709551615 < _; omega
  | _ => show 0 < _; omega
theorem foldV_le16 (s : List UInt8) : ∀ n v, foldV 10 n s = some v → n ≤ v := by
  induction s with
  | nil => intro n v h; cases h; omega
  | cons c s ih =>
    intro n v h
    rw [foldV] at h
    split at h
    · cases h
    · have := ih _ _ h; omega
theorem digI10 (c : UInt8) (h : 0 ≤ digI 10 c) : 48 ≤ c.toNat ∧ c.toNat ≤ 57 ∧ (digI 10 c).toNat = c.toNat - 48 := by
  have hb := digI_bd 10 c
  have hx := digI_hex 10 c h
  have hd : ∀ d : Nat, d < 10 → (hexD d).toNat = d + 48 := by
    have hh : ∀ d : Fin 10, (hexD d.1).toNat = d.1 + 48 := by decide
    intro d hd
    exact hh ⟨d, hd⟩
  have := hd (digI 10 c).toNat (by omega)
  rw [hx] at this
  omega
theorem parseM_fold (s : List UInt8) : ∀ n v, foldV 10 n s = some v → v < 18446744073709551616 → Lib.parseUintM 18446744073709551615 n s = .ok v := by
  induction s with
  | nil => intro n v h _; cases h; rfl
  | cons c s ih =>
    intro n v h hv
    rw [foldV] at h
    split at h
    · cases h
    · rename_i hd
      obtain ⟨h1, h2, h3⟩ := digI10 c (by omega)
      have hle := foldV_le16 _ _ _ h
      rw [h3] at h hle
      rw [Lib.parseUintM, if_pos ⟨h1, h2⟩, if_neg (by omega), if_neg (by omega)]
      exact ih _ _ h hv
theorem puX_num (n : Nat) (h : n < 18446744073709551616) : puX (numL 10 n) = n := by
  have e : Lib.parseUintB 64 (numL 10 n) = .ok n := by
    unfold Lib.parseUintB
    rw [if_neg (numL_ne 10 n)]
    exact parseM_fold _ 0 n (foldV_num 10 (by omega) (by omega) n) h
  unfold puX
  rw [e]
/-- A text has a number exactly where the digits of what ParseUint answers are the text. -/
theorem number_pu (s : List UInt8) : numberL s = if numL 10 (puX s) = s then some (puX s) else none := by
  by_cases h : numL 10 (puX s) = s
  · rw [if_pos h]
    conv => lhs; rw [← h]
    exact number_num _ (puX_lt s)
  · rw [if_neg h]
    unfold numberL
    cases hv : valueL 10 20 s with
    | none => rfl
    | some n =>
      show (if n < 2 ^ 64 then some n else none) = none
      rw [if_neg]
      intro hn
      have e := ((valueL_iff 10 20 (by omega) (by omega) s n).1 hv).1
      rw [← e] at h
      exact h (by rw [puX_num n hn])
end Go.Proofs.YtimdhdimhboboaaGreatDoor

/- LAYER 16: the document's Words. -/
namespace Go.Proofs.YtimdhdimhboboaaGreatDoor
set_option maxRecDepth 100000
open Go Go.RowKit

theorem words_far (s : List UInt8) (h0 : s ≠ []) (h : 512 < s.length) : wordsL s = none := by
  unfold wordsL
  rw [if_neg h0, if_neg (fun k => by omega)]
theorem words_ink (s : List UInt8) (h0 : s ≠ []) (h : s.all inkB = false) : wordsL s = none := by
  unfold wordsL
  rw [if_neg h0, if_neg (fun k => by rw [h] at k; cases k.2.1)]
theorem words_split (s : List UInt8) (h0 : s ≠ []) (hl : s.length ≤ 512) (h : s.all inkB = true) : wordsL s = if (splitL 32 s).all (fun p => decide (p ≠ [])) = true then some (splitL 32 s) else none := by
  unfold wordsL
  rw [if_neg h0]
  by_cases hk : (splitL 32 s).all (fun p => decide (p ≠ [])) = true
  · rw [if_pos ⟨hl, h, hk⟩, if_pos hk]
  · rw [if_neg (fun k => hk k.2.2), if_neg hk]
theorem bstr_empty (s : List UInt8) : (bstr s).toList.isEmpty = decide (s = []) := by
  rw [bstr_toList]
  cases s <;> rfl
end Go.Proofs.YtimdhdimhboboaaGreatDoor

/- LAYER 16: package lex: Name, fit, Names, Words, Join. -/
namespace Go.Proofs.YtimdhdimhboboaaGreatDoor
set_option maxRecDepth 100000
open Go Go.RowKit Go.Lib

/-- What the one listed variable holds that the library's searches come to. -/
def EnvX (w : World) : Prop := ∃ m, w.cell? ⟨3, 0, none⟩ = some (.int .i64 m)
theorem cell_later16 {w w' : World} {B b o : Nat} {v : Value} (h : w.cell? ⟨b, o, none⟩ = some v) (hB : w.heap.size ≤ B) (hb : Below B w w') : w'.cell? ⟨b, o, none⟩ = some v := by
  obtain ⟨c, e, fr, hb', _⟩ := Go.Sort.cells_of_cell? h
  rw [hb.cell (Nat.lt_of_lt_of_le (Array.getElem?_eq_some_iff.1 hb').1 hB)]
  exact h
theorem EnvX.next {w w' : World} (h : EnvX w) (hb : Below w.heap.size w w') : EnvX w' := by
  obtain ⟨m, hm⟩ := h
  exact ⟨m, cell_later16 hm (Nat.le_refl _) hb⟩
theorem strangeW_any (x : Nat) (w : World) : Calls Tryz.prog 65 #[.int .i32 x] w fun e w' => e = .returned (.bool (strangeX 32 126 x)) ∧ Below w.heap.size w w' := by
  by_cases h1 : x < 32
  · have a1 : (x : Int) < 32 := by omega
    have HV : strangeX 32 126 x = true := by unfold strangeX; rw [decide_eq_true h1]; rfl
    rw [HV]
    clear HV
    go_enter Tryz.func65, Tryz.ntmps65
    go_wp2
    go_ret
    exact ⟨rfl, Below.refl _ _⟩
  · have a1 : decide ((x : Int) < 32) = false := decide_eq_false (by omega)
    have HV : strangeX 32 126 x = decide ((126 : Int) < (x : Int)) := by unfold strangeX; rw [decide_eq_false h1, Bool.false_or]; exact decide_eq_decide.2 (by omega)
    rw [HV]
    clear HV h1
    go_enter Tryz.func65, Tryz.ntmps65
    go_wp2
    go_ret
    exact ⟨rfl, Below.refl _ _⟩
theorem strangeM_any (x : Nat) (w : World) : Calls Tryz.prog 183 #[.int .i32 x] w fun e w' => e = .returned (.bool (strangeX 97 122 x)) ∧ Below w.heap.size w w' := by
  by_cases h1 : x < 97
  · have a1 : (x : Int) < 97 := by omega
    have HV : strangeX 97 122 x = true := by unfold strangeX; rw [decide_eq_true h1]; rfl
    rw [HV]
    clear HV
    go_enter Tryz.func183, Tryz.ntmps183
    go_wp2
    go_ret
    exact ⟨rfl, Below.refl _ _⟩
  · have a1 : decide ((x : Int) < 97) = false := decide_eq_false (by omega)
    have HV : strangeX 97 122 x = decide ((122 : Int) < (x : Int)) := by unfold strangeX; rw [decide_eq_false h1, Bool.false_or]; exact decide_eq_decide.2 (by omega)
    rw [HV]
    clear HV h1
    go_enter Tryz.func183, Tryz.ntmps183
    go_wp2
    go_ret
    exact ⟨rfl, Below.refl _ _⟩
set_option maxHeartbeats 2000000 in
theorem xname_any (s : List UInt8) (hs : s.length ≤ 100000) (w : World) : Calls Tryz.prog 138 #[.string (bstr s)] w fun e w' => e = .returned (.bool (name16 s)) ∧ Below w.heap.size w w' := by
  have hz := size_bstr s
  have HV := Lib.hid (name16_iff s)
  have hcf := fun W => Tryz.strings_ContainsFunc_grows 183 #[] (enters_of Tryz.func183 (by kernel_rfl) rfl) (strangeX 97 122) (bstr s) W (fun W' x _ _ => strangeM_any x W')
  rw [idx_low] at hcf
  have HC := Lib.hid hcf
  clear hcf
  generalize name16 s = V at *
  have e0 := bstr_empty s
  by_cases h0 : s = []
  · have HW := Lib.hid (show V = false by rw [HV.out, h0]; rfl)
    rw [decide_eq_true h0] at e0
    clear HV h0 HC
    go_enter Tryz.func138, Tryz.ntmps138
    go_wp2
    go_ret
    exact ⟨by rw [HW.out]; rfl, Below.refl _ _⟩
  rw [decide_eq_false h0] at e0
  have hpos : 1 ≤ s.length := List.length_pos_iff.2 h0
  by_cases h2 : 16 < s.length
  · have HW := Lib.hid (show V = false by rw [HV.out, decide_eq_false (by omega : ¬ s.length ≤ 16), Bool.and_false]; rfl)
    have a2 : decide ((s.length : Int) ≤ 16) = false := decide_eq_false (by omega)
    clear HV h0 HC
    go_enter Tryz.func138, Tryz.ntmps138
    go_wp2
    go_ret
    exact ⟨by rw [HW.out]; rfl, Below.refl _ _⟩
  have a2 : (s.length : Int) ≤ 16 := by omega
  have HW := Lib.hid (show V = s.all lowB by rw [HV.out, decide_eq_true hpos, decide_eq_true (show s.length ≤ 16 by omega)]; rfl)
  clear HV h0 h2 hpos
  go_enter Tryz.func138, Tryz.ntmps138
  go_wp2_with (go_at_call 66; refine (HC.out _).mono ?_; rintro e w' ⟨rfl, hb⟩)
  go_ret
  exact ⟨by rw [HW.out]; simp, hb⟩
end Go.Proofs.YtimdhdimhboboaaGreatDoor

/- LAYER 16: package lex: Words. -/
namespace Go.Proofs.YtimdhdimhboboaaGreatDoor
set_option maxRecDepth 100000
open Go Go.RowKit Go.Lib

theorem xsplit_any (s : List UInt8) (hs : s.length ≤ 100000) (w : World) (hE : EnvX w) : Calls Tryz.prog 67 #[.string (bstr s), .string ⟨#[32]⟩] w fun e w' => ∃ A c, e = .returned (.slice A (splitL 32 s).length c) ∧ Sl w' A c (strsV (splitL 32 s)) ∧ Below w.heap.size w w' := by
  obtain ⟨m, hm⟩ := hE
  refine (Tryz.strings_Split (bstr s) (bstr [32]) m w (by rw [size_bstr]; omega) hm (Nat.le_refl 1)).mono ?_
  rintro e w' ⟨rfl, rfl⟩
  rw [split_sign 32 s, split_count 32 s]
  refine ⟨_, _, rfl, sl_made (t := 9) (strsV (splitL 32 s)) ?_ _ (length_strsV _), (Below.refl _ w).alloc (Nat.le_refl _) _⟩
  unfold strsV
  rw [List.map_map]; rfl
theorem getD_bstr16 (xs : List (List UInt8)) (j : Nat) (h : j < xs.length) : (xs.map bstr).getD j ByteArray.empty = bstr (xs.getD j []) := by
  rw [List.getD_eq_getElem?_getD, List.getElem?_map, List.getD_eq_getElem?_getD, List.getElem?_eq_getElem h]; rfl
theorem holds_empty (xs : List (List UInt8)) : Lib.containsS (xs.map bstr) ⟨#[]⟩ = !xs.all (fun p => decide (p ≠ [])) := by
  rw [Bool.eq_iff_iff, Lib.containsS_iff, Bool.not_eq_true', List.all_eq_false, List.mem_map]
  constructor
  · rintro ⟨p, hp, he⟩
    refine ⟨p, hp, ?_⟩
    have : p = [] := bstr_inj he
    simp [this]
  · rintro ⟨p, hp, he⟩
    refine ⟨p, hp, ?_⟩
    have : p = [] := by simpa using he
    rw [this]; rfl
theorem xcontains_any (xs : List (List UInt8)) (hx : xs.length ≤ 1000000) (A : Option Addr) (c : Nat) (w : World) (hs : Sl w A c (strsV xs)) :
    Calls Tryz.prog 68 #[.slice A xs.length c, .string ⟨#[]⟩] w fun e w' => e = .returned (.bool (!xs.all (fun p => decide (p ≠ [])))) ∧ w' = w := by
  by_cases h0 : xs.length = 0
  · have e1 := List.length_eq_zero_iff.1 h0
    subst e1
    exact Tryz.slices_Contains_string_empty A c ⟨#[]⟩ w
  · obtain ⟨b1, o1, rfl, -, -⟩ := hs.rd.get (i := 0) (by rw [length_strsV]; omega)
    refine (Tryz.slices_Contains_string b1 o1 xs.length c (xs.map bstr) ⟨#[]⟩ w (by rw [List.length_map]; omega) (by omega) (fun j hj => by rw [List.length_map] at hj; rw [getD_bstr16 xs j hj]; exact strs_cell hs j hj)).mono ?_
    rintro e w' ⟨rfl, rfl⟩
    rw [List.take_of_length_le (by rw [List.length_map]; omega), holds_empty]
    exact ⟨rfl, rfl⟩
set_option maxHeartbeats 2000000 in
theorem xwords_any (s : List UInt8) (hs : s.length ≤ 10000) (w : World) (hE : EnvX w) : Calls Tryz.prog 49 #[.string (bstr s)] w (GaveRow (wordsL s) w) := by
  have hz := size_bstr s
  have hcf := fun W => Tryz.strings_ContainsFunc_grows 65 #[] (enters_of Tryz.func65 (by kernel_rfl) rfl) (strangeX 32 126) (bstr s) W (fun W' x _ _ => strangeW_any x W')
  rw [idx_ink] at hcf
  have hsp := Lib.hid (fun w' h => xsplit_any s (by omega) w' h)
  have hlen := splitL_len 32 s
  have hco := Lib.hid (fun A c w' h => xcontains_any (splitL 32 s) (by omega) A c w' h)
  have e0 := bstr_empty s
  by_cases h0 : s = []
  · have HW := Lib.hid (show wordsL s = some [] by rw [h0]; rfl)
    rw [decide_eq_true h0] at e0
    clear h0 hcf hsp hco hlen hs
    generalize wordsL s = V at *
    go_enter Tryz.func49, Tryz.ntmps49
    go_wp2
    go_ret2
    exact ⟨none, 0, by rw [HW.out]; rfl, by rw [HW.out]; exact sl_none16 w, Below.refl _ _⟩
  rw [decide_eq_false h0] at e0
  by_cases h2 : 512 < s.length
  · have HW := Lib.hid (words_far s h0 h2)
    have a2 : (512 : Int) < (s.length : Int) := by omega
    clear h0 h2 hcf hsp hco hlen
    generalize wordsL s = V at *
    go_enter Tryz.func49, Tryz.ntmps49
    go_wp2
    go_ret2
    exact ⟨none, 0, by rw [HW.out]; rfl, by rw [HW.out]; exact sl_none16 w, Below.refl _ _⟩
  have a2 : decide ((512 : Int) < (s.length : Int)) = false := decide_eq_false (by omega)
  cases hi : s.all inkB with
  | false =>
    have HW := Lib.hid (words_ink s h0 hi)
    rw [hi] at hcf
    have HC := Lib.hid hcf
    clear h0 h2 hcf hi hsp hco hlen
    generalize wordsL s = V at *
    go_enter Tryz.func49, Tryz.ntmps49
    go_wp2_with (go_at_call 66; refine (HC.out _).mono ?_; rintro e w1 ⟨rfl, hb1⟩)
    go_ret2
    exact ⟨none, 0, by rw [HW.out]; rfl, by rw [HW.out]; exact sl_none16 w1, hb1⟩
  | true =>
    have HV := Lib.hid (words_split s h0 (by omega) hi)
    rw [hi] at hcf
    have HC := Lib.hid hcf
    clear h0 h2 hcf hi hlen
    generalize wordsL s = V at *
    generalize splitL 32 s = ps at *
    cases ha : ps.all (fun p => decide (p ≠ [])) with
    | false =>
      have HW := Lib.hid (HV.out.trans (if_neg (by rw [ha]; decide)))
      rw [ha] at hco
      clear HV ha
      go_enter Tryz.func49, Tryz.ntmps49
      go_wp2_with (first
        | (go_at_call 66; refine (HC.out _).mono ?_; rintro e w1 ⟨rfl, hb1⟩)
        | (go_at_call 67; refine (hsp.out _ (hE.next hb1)).mono ?_; rintro e w2 ⟨A, c, rfl, hsl, hb2⟩; have hb2 := hb1.trans (hb2.mono hb1.size))
        | (go_at_call 68; refine (hco.out A c _ hsl).mono ?_; rintro e w3 ⟨rfl, rfl⟩))
      go_ret2
      exact ⟨none, 0, by rw [HW.out]; rfl, by rw [HW.out]; exact sl_none16 _, hb2⟩
    | true =>
      have HW := Lib.hid (HV.out.trans (if_pos ha))
      rw [ha] at hco
      clear HV ha
      go_enter Tryz.func49, Tryz.ntmps49
      go_wp2_with (first
        | (go_at_call 66; refine (HC.out _).mono ?_; rintro e w1 ⟨rfl, hb1⟩)
        | (go_at_call 67; refine (hsp.out _ (hE.next hb1)).mono ?_; rintro e w2 ⟨A, c, rfl, hsl, hb2⟩; have hb2 := hb1.trans (hb2.mono hb1.size))
        | (go_at_call 68; refine (hco.out A c _ hsl).mono ?_; rintro e w3 ⟨rfl, rfl⟩))
      go_ret2
      exact ⟨A, c, by rw [HW.out]; rfl, by rw [HW.out]; exact hsl, hb2⟩
end Go.Proofs.YtimdhdimhboboaaGreatDoor
