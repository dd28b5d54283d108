/- My texts Shelf BvM BvA LexM LexA LexB LexC LexD LexW LexN LexO LexE LexF LexG LexH LexI LexJ LexTr, joined. -/
import Derived.Shelf.Strconv.Atoi
import Derived.Shelf.Strconv.Itoa0
import Derived.Shelf.Strconv.AtoiErrFast
import Derived.Shelf.Strconv.ParseIntEmpty
import Derived.Shelf.Strconv.AtoiFail
import Derived.Shelf.LaysM
import Derived.Shelf.Strconv.Clone
import Derived.Shelf.Strconv.SyntaxError
import Derived.Shelf.LaysC
import Derived.Shelf.Strconv.ToError
import Derived.Shelf.Strconv.Lower
import Derived.Shelf.Strconv.ParseUint10
import Derived.Shelf.Strconv.ParseUint10Empty
import Derived.Shelf.Strconv.ParseUint10Any
import Derived.Shelf.Strconv.ParseInt10
import Derived.Shelf.Strconv.AtoiLong
import Derived.Shelf.Strconv.AtoiInnerAll
import Derived.Shelf.Strconv.RangeError
import Derived.Shelf.Strconv.ToErrorRange
import Derived.Shelf.Strconv.AtoiAll
import Derived.Shelf.Strconv.ErrVarAll
import Derived.Ground.MpProg
import Derived.Shelf.Pu.ParseUintPublic10
import Derived.Shelf.Pu.ErrVarParseUint
import Derived.Test.YtachmiajldeakaaGreatDoorProg
import Derived.RowKit
import Derived.Laws.BitsLemmas
import Derived.Laws.Closers25b
import Derived.Test.YtachmiajldeakaaGreatDoorChecked
import Derived.WalkKit
import Derived.WalkSpells
import Derived.WalkLawsBesides
import Derived.Deep.Light
import Derived.Deep.QuietTactic
import Derived.BigQuiet
import Derived.RegionTactic
import Derived.Maps.Own
import Derived.Maps.OwnSet
import Derived.Maps.AppendAt
import Derived.Maps.Range
import Derived.Maps.RangeWalk
import Derived.Lib.Hide
import Derived.Maps.OwnOps
import Derived.Deep.RegionWith
import Derived.Deep.Onto
set_option linter.unusedVariables false
/-
  DERIVED: THE SHELF's CONTRACTS AT THIS DUMP, IN PLAIN WORDS (tools/lay-plain.mjs out of 'TryzShelf.lean', which tools/lay-shelf.mjs wrote): THE SAME DECLARATIONS UNDER THE SAME NAMES: 'import', 'namespace', 'open', 'def', 'theorem' AND NOTHING ELSE: no command of the shelf's: FOR A HAND-IN. Each laying: the table of numbers ('.._ren') and one theorem, a field a fact of the dump's own or the kernel's comparison; each contract: ONE APPLICATION.
-/
namespace Go.Proofs
open Go.Shelf
def Tryz.laysM316_ren : Go.Shelf.Ren := ⟨fun | 316 => 109 | n => n, fun | 9 => 9 | 3 => 3 | 4 => 4 | 37 => 54 | 0 => 0 | 127 => 77 | 5 => 5 | n => n, fun | n => n⟩
theorem Tryz.laysM316 : Go.Proofs.LaysM.n316 Tryz.prog Tryz.laysM316_ren := {
  mixed := by kernel_rfl
  f316 := Tryz.func109.trans (congrArg some (by kernel_rfl))
  t0 := Tryz.underlying0
  a0 := Tryz.isAgg0
  z0 := Tryz.sizeOf0
  v0 := Tryz.zeroValue0
  t3 := Tryz.underlying3
  a3 := Tryz.isAgg3
  z3 := Tryz.sizeOf3
  v3 := Tryz.zeroValue3
  t4 := Tryz.underlying4
  a4 := Tryz.isAgg4
  z4 := Tryz.sizeOf4
  v4 := Tryz.zeroValue4
  t9 := Tryz.underlying9
  a9 := Tryz.isAgg9
  z9 := Tryz.sizeOf9
  v9 := Tryz.zeroValue9
  t37 := Tryz.underlying54
  a37 := Tryz.isAgg54
  z37 := Tryz.sizeOf54
  v37 := Tryz.zeroValue54
  t127 := Tryz.underlying77
  a127 := Tryz.isAgg77
  z127 := Tryz.sizeOf77
  v127 := Tryz.zeroValue77
  t5 := Tryz.underlying5
  a5 := Tryz.isAgg5
  z5 := Tryz.sizeOf5
  v5 := Tryz.zeroValue5
  i0 := by kernel_rfl
  i3 := by kernel_rfl
  i4 := by kernel_rfl
  i5 := by kernel_rfl
  i9 := by kernel_rfl
  i37 := by kernel_rfl
  i127 := by kernel_rfl }
open Go.RowKit in
/-- internal/stringslite.Clone (what strings.Clone calls): "Clone returns a fresh copy of s.": THE SAME BYTES. Of what was there nothing has turned (a new row is laid, and frozen, where s is not empty). (LAID: no walk: one application.) -/
theorem Tryz.stringslite_Clone (s : ByteArray) (w : World) (hlim : s.size ≤ 281474976710656) :
    Calls Tryz.prog 109 #[.string s] w fun e w' => e = .returned (.string s) ∧ Below w.heap.size w w' := Any.stringslite_Clone Tryz.laysM316 s w hlim
def Tryz.laysC172_ren : Go.Shelf.Ren := ⟨fun | 172 => 163 | 244 => 197 | 245 => 198 | 247 => 213 | 279 => 214 | 280 => 215 | 281 => 216 | 282 => 217 | 287 => 199 | 316 => 109 | 171 => 96 | 205 => 222 | 321 => 218 | 322 => 219 | 243 => 134 | 246 => 162 | 283 => 193 | 284 => 194 | 285 => 195 | 286 => 196 | 129 => 209 | 317 => 208 | 318 => 210 | 319 => 211 | 320 => 212 | 337 => 220 | 338 => 221 | n => n, fun | 9 => 9 | 3 => 3 | 75 => 88 | 76 => 106 | 4 => 4 | 5 => 5 | 167 => 243 | 37 => 54 | 0 => 0 | 85 => 244 | 2 => 2 | 168 => 246 | 53 => 186 | 175 => 204 | 46 => 135 | 210 => 252 | 127 => 77 | 145 => 258 | 143 => 256 | 21 => 21 | 171 => 224 | 173 => 227 | 212 => 239 | 51 => 215 | 20 => 20 | 213 => 240 | 232 => 254 | 233 => 255 | 80 => 62 | n => n, fun | 15 => 3 | 16 => 4 | 17 => 2 | 18 => 5 | 19 => 6 | n => n⟩
theorem Tryz.laysC172 : Go.Proofs.LaysC.n172 Tryz.prog Tryz.laysC172_ren := {
  mixed := by kernel_rfl
  f129 := Tryz.func209.trans (congrArg some (by kernel_rfl))
  f171 := Tryz.func96.trans (congrArg some (by kernel_rfl))
  f172 := Tryz.func163.trans (congrArg some (by kernel_rfl))
  f205 := Tryz.func222.trans (congrArg some (by kernel_rfl))
  f243 := Tryz.func134.trans (congrArg some (by kernel_rfl))
  f244 := Tryz.func197.trans (congrArg some (by kernel_rfl))
  f245 := Tryz.func198.trans (congrArg some (by kernel_rfl))
  f246 := Tryz.func162.trans (congrArg some (by kernel_rfl))
  f247 := Tryz.func213.trans (congrArg some (by kernel_rfl))
  f279 := Tryz.func214.trans (congrArg some (by kernel_rfl))
  f280 := Tryz.func215.trans (congrArg some (by kernel_rfl))
  f281 := Tryz.func216.trans (congrArg some (by kernel_rfl))
  f282 := Tryz.func217.trans (congrArg some (by kernel_rfl))
  f283 := Tryz.func193.trans (congrArg some (by kernel_rfl))
  f284 := Tryz.func194.trans (congrArg some (by kernel_rfl))
  f285 := Tryz.func195.trans (congrArg some (by kernel_rfl))
  f286 := Tryz.func196.trans (congrArg some (by kernel_rfl))
  f287 := Tryz.func199.trans (congrArg some (by kernel_rfl))
  f316 := Tryz.func109.trans (congrArg some (by kernel_rfl))
  f317 := Tryz.func208.trans (congrArg some (by kernel_rfl))
  f318 := Tryz.func210.trans (congrArg some (by kernel_rfl))
  f319 := Tryz.func211.trans (congrArg some (by kernel_rfl))
  f320 := Tryz.func212.trans (congrArg some (by kernel_rfl))
  f321 := Tryz.func218.trans (congrArg some (by kernel_rfl))
  f322 := Tryz.func219.trans (congrArg some (by kernel_rfl))
  f337 := Tryz.func220.trans (congrArg some (by kernel_rfl))
  f338 := Tryz.func221.trans (congrArg some (by kernel_rfl))
  t0 := Tryz.underlying0
  a0 := Tryz.isAgg0
  z0 := Tryz.sizeOf0
  v0 := Tryz.zeroValue0
  t2 := Tryz.underlying2
  a2 := Tryz.isAgg2
  z2 := Tryz.sizeOf2
  v2 := Tryz.zeroValue2
  t3 := Tryz.underlying3
  a3 := Tryz.isAgg3
  z3 := Tryz.sizeOf3
  v3 := Tryz.zeroValue3
  t4 := Tryz.underlying4
  a4 := Tryz.isAgg4
  z4 := Tryz.sizeOf4
  v4 := Tryz.zeroValue4
  t5 := Tryz.underlying5
  a5 := Tryz.isAgg5
  z5 := Tryz.sizeOf5
  v5 := Tryz.zeroValue5
  t9 := Tryz.underlying9
  a9 := Tryz.isAgg9
  z9 := Tryz.sizeOf9
  v9 := Tryz.zeroValue9
  t20 := Tryz.underlying20
  a20 := Tryz.isAgg20
  z20 := Tryz.sizeOf20
  v20 := Tryz.zeroValue20
  t21 := Tryz.underlying21
  a21 := Tryz.isAgg21
  z21 := Tryz.sizeOf21
  v21 := Tryz.zeroValue21
  t37 := Tryz.underlying54
  a37 := Tryz.isAgg54
  z37 := Tryz.sizeOf54
  v37 := Tryz.zeroValue54
  t46 := Tryz.underlying135
  a46 := Tryz.isAgg135
  z46 := Tryz.sizeOf135
  v46 := Tryz.zeroValue135
  t51 := Tryz.underlying215
  a51 := Tryz.isAgg215
  z51 := Tryz.sizeOf215
  v51 := Tryz.zeroValue215
  t53 := Tryz.underlying186
  a53 := Tryz.isAgg186
  z53 := Tryz.sizeOf186
  v53 := Tryz.zeroValue186
  t75 := Tryz.underlying88
  a75 := Tryz.isAgg88
  z75 := Tryz.sizeOf88
  v75 := Tryz.zeroValue88
  t76 := Tryz.underlying106
  a76 := Tryz.isAgg106
  z76 := Tryz.sizeOf106
  v76 := Tryz.zeroValue106
  t85 := Tryz.underlying244
  a85 := Tryz.isAgg244
  z85 := Tryz.sizeOf244
  v85 := Tryz.zeroValue244
  t127 := Tryz.underlying77
  a127 := Tryz.isAgg77
  z127 := Tryz.sizeOf77
  v127 := Tryz.zeroValue77
  t143 := Tryz.underlying256
  a143 := Tryz.isAgg256
  z143 := Tryz.sizeOf256
  v143 := Tryz.zeroValue256
  t145 := Tryz.underlying258
  a145 := Tryz.isAgg258
  z145 := Tryz.sizeOf258
  v145 := Tryz.zeroValue258
  t167 := Tryz.underlying243
  a167 := Tryz.isAgg243
  z167 := Tryz.sizeOf243
  v167 := Tryz.zeroValue243
  t168 := Tryz.underlying246
  a168 := Tryz.isAgg246
  z168 := Tryz.sizeOf246
  v168 := Tryz.zeroValue246
  t171 := Tryz.underlying224
  a171 := Tryz.isAgg224
  z171 := Tryz.sizeOf224
  v171 := Tryz.zeroValue224
  t173 := Tryz.underlying227
  a173 := Tryz.isAgg227
  z173 := Tryz.sizeOf227
  v173 := Tryz.zeroValue227
  t175 := Tryz.underlying204
  a175 := Tryz.isAgg204
  z175 := Tryz.sizeOf204
  v175 := Tryz.zeroValue204
  t210 := Tryz.underlying252
  a210 := Tryz.isAgg252
  z210 := Tryz.sizeOf252
  v210 := Tryz.zeroValue252
  t212 := Tryz.underlying239
  a212 := Tryz.isAgg239
  z212 := Tryz.sizeOf239
  v212 := Tryz.zeroValue239
  t213 := Tryz.underlying240
  a213 := Tryz.isAgg240
  z213 := Tryz.sizeOf240
  t232 := Tryz.underlying254
  a232 := Tryz.isAgg254
  z232 := Tryz.sizeOf254
  v232 := Tryz.zeroValue254
  t233 := Tryz.underlying255
  a233 := Tryz.isAgg255
  z233 := Tryz.sizeOf255
  v233 := Tryz.zeroValue255
  g15 := by kernel_rfl
  g16 := by kernel_rfl
  g17 := by kernel_rfl
  g18 := by kernel_rfl
  g19 := by kernel_rfl
  t80 := Tryz.underlying62
  a80 := Tryz.isAgg62
  z80 := Tryz.sizeOf62
  v80 := Tryz.zeroValue62
  i0 := by kernel_rfl
  i2 := by kernel_rfl
  i3 := by kernel_rfl
  i4 := by kernel_rfl
  i5 := by kernel_rfl
  i9 := by kernel_rfl
  i20 := by kernel_rfl
  i21 := by kernel_rfl
  i37 := by kernel_rfl
  i46 := by kernel_rfl
  i51 := by kernel_rfl
  i53 := by kernel_rfl
  i75 := by kernel_rfl
  i76 := by kernel_rfl
  i80 := by kernel_rfl
  i85 := by kernel_rfl
  i127 := by kernel_rfl
  i143 := by kernel_rfl
  i145 := by kernel_rfl
  i167 := by kernel_rfl
  i168 := by kernel_rfl
  i171 := by kernel_rfl
  i173 := by kernel_rfl
  i175 := by kernel_rfl
  i210 := by kernel_rfl
  i212 := by kernel_rfl
  i232 := by kernel_rfl
  i233 := by kernel_rfl
  m15 := by kernel_rfl
  m16 := by kernel_rfl
  m17 := by kernel_rfl
  m18 := by kernel_rfl
  m19 := by kernel_rfl
  c0 := by kernel_rfl
  c2 := by kernel_rfl
  c3 := by kernel_rfl
  c4 := by kernel_rfl
  c5 := by kernel_rfl
  c9 := by kernel_rfl
  c20 := by kernel_rfl
  c21 := by kernel_rfl
  c37 := by kernel_rfl
  c46 := by kernel_rfl
  c51 := by kernel_rfl
  c53 := by kernel_rfl
  c75 := by kernel_rfl
  c76 := by kernel_rfl
  c80 := by kernel_rfl
  c85 := by kernel_rfl
  c127 := by kernel_rfl
  c143 := by kernel_rfl
  c145 := by kernel_rfl
  c167 := by kernel_rfl
  c168 := by kernel_rfl
  c171 := by kernel_rfl
  c173 := by kernel_rfl
  c175 := by kernel_rfl
  c210 := by kernel_rfl
  c212 := by kernel_rfl
  c213 := by kernel_rfl
  c232 := by kernel_rfl
  c233 := by kernel_rfl }
open Go.RowKit in
/-- strconv.Atoi, AT EVERY STRING THAT SPELLS AN int ('Lib.atoiAll .. = .ok v'; of whatever length: leading zeros count): v, AND NO ERROR. The world: as it was, or with the one new row that '[]byte(..)' lays. (LAID: no walk: one application.) -/
theorem Tryz.strconv_Atoi_ok (s : ByteArray) (hmax : s.size ≤ 9223372036854775806) (v : Int) (h : Lib.atoiAll s.data.toList = .ok v) (w : World) :
    Calls Tryz.prog 163 #[.string s] w fun e w' => e = .returned (.tuple #[.int .i64 v, .nilIface]) ∧ (w' = w ∨ ∃ t, w' = Lib.bytesWorld w 5 t) := Any.strconv_Atoi_ok Tryz.laysC172 s hmax v h w
open Go.RowKit in
/-- strconv.Atoi, AT EVERY NUMERAL THAT NO int HOLDS ('.range'): THE GREATEST OR THE LEAST int, BY THE SIGN ('Lib.atoiSat'), AND AN ERROR THAT IS NOT nil: a *NumError in a new block N: {Func: "Atoi", Num: s's bytes, Err: what the variable ErrRange holds}. Of what was there nothing has turned. (LAID: no walk: one application.) -/
theorem Tryz.strconv_Atoi_range (s : ByteArray) (hlim : s.size ≤ 281474976710656) (h : Lib.atoiAll s.data.toList = .range) (ev : Value) (w : World) (hv : w.cell? ⟨4, 0, none⟩ = some ev) (hev : ev = .nilIface ∨ ∃ te pe, ev = .iface te pe) :
    Calls Tryz.prog 163 #[.string s] w fun e w' => ∃ N, e = .returned (.tuple #[.int .i64 (Lib.atoiSat s.data.toList), .iface 246 (.pointer (some ⟨N, 0, none⟩))]) ∧ w.heap.size ≤ N ∧ w'.heap[N]? = some (.cells #[.string ⟨#[65, 116, 111, 105]⟩, .string s, ev] 252 (0, 0)) ∧ Below w.heap.size w w' := Any.strconv_Atoi_range Tryz.laysC172 s hlim h ev w hv hev
def Tryz.laysPu14_ren : Go.Shelf.Ren := ⟨fun | 14 => 164 | 16 => 199 | 17 => 198 | 19 => 218 | 20 => 219 | 21 => 214 | 22 => 215 | 23 => 216 | 24 => 217 | 25 => 109 | 27 => 96 | 26 => 222 | 28 => 134 | 29 => 162 | 30 => 193 | 31 => 194 | 32 => 195 | 33 => 196 | 35 => 209 | 34 => 208 | 36 => 210 | 37 => 211 | 38 => 212 | 39 => 220 | 40 => 221 | n => n, fun | 9 => 9 | 3 => 3 | 22 => 186 | 24 => 88 | 25 => 204 | 4 => 4 | 34 => 243 | 5 => 5 | 36 => 135 | 37 => 54 | 0 => 0 | 39 => 246 | 21 => 21 | 44 => 252 | 47 => 77 | 50 => 258 | 48 => 256 | 2 => 2 | 52 => 224 | 55 => 227 | 59 => 239 | 60 => 215 | 20 => 20 | 61 => 240 | 65 => 254 | 66 => 255 | 67 => 62 | n => n, fun | 0 => 3 | 1 => 4 | 2 => 2 | 3 => 5 | 4 => 6 | n => n⟩
theorem Tryz.laysPu14 : Go.Proofs.LaysPu.n14 Tryz.prog Tryz.laysPu14_ren := {
  mixed := by kernel_rfl
  f14 := Tryz.func164.trans (congrArg some (by kernel_rfl))
  f16 := Tryz.func199.trans (congrArg some (by kernel_rfl))
  f17 := Tryz.func198.trans (congrArg some (by kernel_rfl))
  f19 := Tryz.func218.trans (congrArg some (by kernel_rfl))
  f20 := Tryz.func219.trans (congrArg some (by kernel_rfl))
  f21 := Tryz.func214.trans (congrArg some (by kernel_rfl))
  f22 := Tryz.func215.trans (congrArg some (by kernel_rfl))
  f23 := Tryz.func216.trans (congrArg some (by kernel_rfl))
  f24 := Tryz.func217.trans (congrArg some (by kernel_rfl))
  f25 := Tryz.func109.trans (congrArg some (by kernel_rfl))
  f26 := Tryz.func222.trans (congrArg some (by kernel_rfl))
  f27 := Tryz.func96.trans (congrArg some (by kernel_rfl))
  f28 := Tryz.func134.trans (congrArg some (by kernel_rfl))
  f29 := Tryz.func162.trans (congrArg some (by kernel_rfl))
  f30 := Tryz.func193.trans (congrArg some (by kernel_rfl))
  f31 := Tryz.func194.trans (congrArg some (by kernel_rfl))
  f32 := Tryz.func195.trans (congrArg some (by kernel_rfl))
  f33 := Tryz.func196.trans (congrArg some (by kernel_rfl))
  f34 := Tryz.func208.trans (congrArg some (by kernel_rfl))
  f35 := Tryz.func209.trans (congrArg some (by kernel_rfl))
  f36 := Tryz.func210.trans (congrArg some (by kernel_rfl))
  f37 := Tryz.func211.trans (congrArg some (by kernel_rfl))
  f38 := Tryz.func212.trans (congrArg some (by kernel_rfl))
  f39 := Tryz.func220.trans (congrArg some (by kernel_rfl))
  f40 := Tryz.func221.trans (congrArg some (by kernel_rfl))
  t0 := Tryz.underlying0
  a0 := Tryz.isAgg0
  z0 := Tryz.sizeOf0
  v0 := Tryz.zeroValue0
  i0 := by kernel_rfl
  t2 := Tryz.underlying2
  a2 := Tryz.isAgg2
  z2 := Tryz.sizeOf2
  v2 := Tryz.zeroValue2
  i2 := by kernel_rfl
  t3 := Tryz.underlying3
  a3 := Tryz.isAgg3
  z3 := Tryz.sizeOf3
  v3 := Tryz.zeroValue3
  i3 := by kernel_rfl
  t4 := Tryz.underlying4
  a4 := Tryz.isAgg4
  z4 := Tryz.sizeOf4
  v4 := Tryz.zeroValue4
  i4 := by kernel_rfl
  t5 := Tryz.underlying5
  a5 := Tryz.isAgg5
  z5 := Tryz.sizeOf5
  v5 := Tryz.zeroValue5
  i5 := by kernel_rfl
  t9 := Tryz.underlying9
  a9 := Tryz.isAgg9
  z9 := Tryz.sizeOf9
  v9 := Tryz.zeroValue9
  i9 := by kernel_rfl
  t20 := Tryz.underlying20
  a20 := Tryz.isAgg20
  z20 := Tryz.sizeOf20
  v20 := Tryz.zeroValue20
  i20 := by kernel_rfl
  t21 := Tryz.underlying21
  a21 := Tryz.isAgg21
  z21 := Tryz.sizeOf21
  v21 := Tryz.zeroValue21
  i21 := by kernel_rfl
  t22 := Tryz.underlying186
  a22 := Tryz.isAgg186
  z22 := Tryz.sizeOf186
  v22 := Tryz.zeroValue186
  i22 := by kernel_rfl
  t24 := Tryz.underlying88
  a24 := Tryz.isAgg88
  z24 := Tryz.sizeOf88
  v24 := Tryz.zeroValue88
  i24 := by kernel_rfl
  t25 := Tryz.underlying204
  a25 := Tryz.isAgg204
  z25 := Tryz.sizeOf204
  v25 := Tryz.zeroValue204
  i25 := by kernel_rfl
  t34 := Tryz.underlying243
  a34 := Tryz.isAgg243
  z34 := Tryz.sizeOf243
  v34 := Tryz.zeroValue243
  i34 := by kernel_rfl
  c34 := by kernel_rfl
  t36 := Tryz.underlying135
  a36 := Tryz.isAgg135
  z36 := Tryz.sizeOf135
  v36 := Tryz.zeroValue135
  i36 := by kernel_rfl
  t37 := Tryz.underlying54
  a37 := Tryz.isAgg54
  z37 := Tryz.sizeOf54
  v37 := Tryz.zeroValue54
  i37 := by kernel_rfl
  t39 := Tryz.underlying246
  a39 := Tryz.isAgg246
  z39 := Tryz.sizeOf246
  v39 := Tryz.zeroValue246
  i39 := by kernel_rfl
  t44 := Tryz.underlying252
  a44 := Tryz.isAgg252
  z44 := Tryz.sizeOf252
  v44 := Tryz.zeroValue252
  i44 := by kernel_rfl
  t47 := Tryz.underlying77
  a47 := Tryz.isAgg77
  z47 := Tryz.sizeOf77
  v47 := Tryz.zeroValue77
  i47 := by kernel_rfl
  t48 := Tryz.underlying256
  a48 := Tryz.isAgg256
  z48 := Tryz.sizeOf256
  v48 := Tryz.zeroValue256
  i48 := by kernel_rfl
  t50 := Tryz.underlying258
  a50 := Tryz.isAgg258
  z50 := Tryz.sizeOf258
  v50 := Tryz.zeroValue258
  i50 := by kernel_rfl
  t52 := Tryz.underlying224
  a52 := Tryz.isAgg224
  z52 := Tryz.sizeOf224
  v52 := Tryz.zeroValue224
  i52 := by kernel_rfl
  t55 := Tryz.underlying227
  a55 := Tryz.isAgg227
  z55 := Tryz.sizeOf227
  v55 := Tryz.zeroValue227
  i55 := by kernel_rfl
  t59 := Tryz.underlying239
  a59 := Tryz.isAgg239
  z59 := Tryz.sizeOf239
  v59 := Tryz.zeroValue239
  i59 := by kernel_rfl
  t60 := Tryz.underlying215
  a60 := Tryz.isAgg215
  z60 := Tryz.sizeOf215
  v60 := Tryz.zeroValue215
  i60 := by kernel_rfl
  t61 := Tryz.underlying240
  a61 := Tryz.isAgg240
  z61 := Tryz.sizeOf240
  t65 := Tryz.underlying254
  a65 := Tryz.isAgg254
  z65 := Tryz.sizeOf254
  v65 := Tryz.zeroValue254
  i65 := by kernel_rfl
  t66 := Tryz.underlying255
  a66 := Tryz.isAgg255
  z66 := Tryz.sizeOf255
  v66 := Tryz.zeroValue255
  i66 := by kernel_rfl
  t67 := Tryz.underlying62
  a67 := Tryz.isAgg62
  z67 := Tryz.sizeOf62
  v67 := Tryz.zeroValue62
  i67 := by kernel_rfl
  g0 := by kernel_rfl
  m0 := by kernel_rfl
  g1 := by kernel_rfl
  m1 := by kernel_rfl
  g2 := by kernel_rfl
  m2 := by kernel_rfl
  g3 := by kernel_rfl
  m3 := by kernel_rfl
  g4 := by kernel_rfl
  m4 := by kernel_rfl }
open Go.RowKit in
/-- strconv.ParseUint(s, 10, 64), AT EVERY STRING THAT SPELLS A uint64 ('Lib.parseUintB 64 s.data.toList = .ok u'): u, AND NO ERROR. (LAID: no walk: one application.) -/
theorem Tryz.strconv_ParseUint_10_at64_ok (s : ByteArray) (hmax : s.size ≤ 9223372036854775806) (u : Nat) (h : Lib.parseUintB 64 s.data.toList = .ok u) (w : World) :
    Calls Tryz.prog 164 #[.string s, .int .i64 10, .int .i64 64] w fun e w' => e = .returned (.tuple #[.int .u64 u, .nilIface]) ∧ (w' = w ∨ w' = Lib.bytesWorld w 5 s) := Any.strconv_ParseUint_10_at64_ok Tryz.laysPu14 s hmax u h w
open Go.RowKit in
/-- strconv.ParseUint(s, 10, 64), AT EVERY NUMERAL THAT NO uint64 HOLDS: THE GREATEST uint64, AND AN ERROR THAT IS NOT nil: a *NumError in a new block N: {Func: "ParseUint", Num: s's bytes, Err: what the variable ErrRange holds}. Of what was there nothing has turned. (LAID: no walk: one application.) -/
theorem Tryz.strconv_ParseUint_10_at64_range (s : ByteArray) (hlim : s.size ≤ 281474976710656) (h : Lib.parseUintB 64 s.data.toList = .range) (ev : Value) (w : World) (hv : w.cell? ⟨4, 0, none⟩ = some ev) (hev : ev = .nilIface ∨ ∃ te pe, ev = .iface te pe) :
    Calls Tryz.prog 164 #[.string s, .int .i64 10, .int .i64 64] w fun e w' => ∃ N, e = .returned (.tuple #[.int .u64 18446744073709551615, .iface 246 (.pointer (some ⟨N, 0, none⟩))]) ∧ w.heap.size ≤ N ∧ w'.heap[N]? = some (.cells #[.string ⟨#[80, 97, 114, 115, 101, 85, 105, 110, 116]⟩, .string s, ev] 252 (0, 0)) ∧ Below w.heap.size w w' := Any.strconv_ParseUint_10_at64_range Tryz.laysPu14 s hlim h ev w hv hev
end Go.Proofs

/- The plain mathematics of bv's values (no program in sight): the width of a kind, the value that a number's lower bits are, and what each operation's number is before it is wrapped. -/
namespace Go.Proofs.YtachmiajldeakaaGreatDoor.Bv
open Go.RowKit

/-- how many bits a value of the kind has -/
def wid (k : Int) : Int :=
  if k = 5 ∨ k = 9 then 64 else if k = 4 ∨ k = 8 then 32 else if k = 3 ∨ k = 7 then 16 else if k = 2 ∨ k = 6 then 8 else if k = 1 then 1 else 0

/-- the value of the kind whose bits are n's lower ones -/
def wrp (k n : Int) : Int :=
  if k = 1 then n % 2 else if k = 2 then (n + 128) % 256 - 128 else if k = 3 then (n + 32768) % 65536 - 32768
  else if k = 4 then (n + 2147483648) % 4294967296 - 2147483648 else if k = 6 then n % 256 else if k = 7 then n % 65536
  else if k = 8 then n % 4294967296 else if k = 5 ∨ k = 9 then n else 0

/-- is n a value of the kind -/
def isv (k n : Int) : Bool := decide (0 < wid k) && (wrp k n == n)

theorem wid_pos (k : Int) : decide (0 < wid k) = decide (1 ≤ k ∧ k ≤ 9) := by
  unfold wid
  repeat' split
  all_goals (rw [decide_eq_decide]; omega)

theorem wrap_i8 (n : Int) : IntKind.i8.wrap n = (n + 128) % 256 - 128 := by
  simp only [IntKind.wrap, IntKind.bits, IntKind.signed]; simp; split <;> omega
theorem wrap_i16 (n : Int) : IntKind.i16.wrap n = (n + 32768) % 65536 - 32768 := by
  simp only [IntKind.wrap, IntKind.bits, IntKind.signed]; simp; split <;> omega
theorem wrap_u16 (n : Int) : IntKind.u16.wrap n = n % 65536 := by simp [IntKind.wrap, IntKind.bits, IntKind.signed]
theorem wrap_u64 (n : Int) : IntKind.u64.wrap n = n % 18446744073709551616 := by simp [IntKind.wrap, IntKind.bits, IntKind.signed]
theorem wrap8 (n : Int) : wrap64 (IntKind.i8.wrap n) = (n + 128) % 256 - 128 := by
  rw [wrap_i8]; unfold wrap64; omega
theorem wrap16 (n : Int) : wrap64 (IntKind.i16.wrap n) = (n + 32768) % 65536 - 32768 := by
  rw [wrap_i16]; unfold wrap64; omega
theorem wrap3264 (n : Int) : wrap64 (wrap32 n) = (n + 2147483648) % 4294967296 - 2147483648 := by
  unfold wrap64 wrap32; omega
theorem wrapu16 (n : Int) : wrap64 (IntKind.u16.wrap n) = n % 65536 := by
  rw [wrap_u16]; unfold wrap64; omega
theorem and1 (n : Int) : bits .and .i64 n 1 = n % 2 := by
  have h1 : (BitVec.ofInt 64 1).toNat = 2 ^ 1 - 1 := by decide
  have key : (BitVec.ofInt 64 n &&& BitVec.ofInt 64 1).toNat = (n % ((2 ^ 64 : Nat) : Int)).toNat % 2 ^ 1 := by
    rw [BitVec.toNat_and, BitVec.toNat_ofInt, h1, Nat.and_two_pow_sub_one_eq_mod]
  show IntKind.i64.wrap ((BitVec.ofInt 64 n &&& BitVec.ofInt 64 1).toNat : Nat) = n % 2
  rw [key, IntKind.wrap_i64]
  omega
/-- n is a number of 64 bits with a sign -/
def I64 (n : Int) : Prop := -9223372036854775808 ≤ n ∧ n ≤ 9223372036854775807

theorem u64_ne {b : Int} (h : I64 b) (hb : ¬ b = 0) : ¬ IntKind.u64.wrap b = 0 := by
  unfold I64 at h
  rw [wrap_u64]
  omega

def vshr (k a b : Int) : Int := if 6 ≤ k then IntKind.i64.wrap (IntKind.u64.wrap a / 2 ^ min (IntKind.u64.wrap b).toNat 64) else a / 2 ^ min (IntKind.u64.wrap b).toNat 64
def vshl (a b : Int) : Int := IntKind.i64.wrap (a * 2 ^ min (IntKind.u64.wrap b).toNat 64)

/-- of which kinds an operation is: 1 of Bool, 2 of numbers, 3 of all, else of none -/
def tks (o k : Int) : Bool := if o = 1 then k == 1 else if o = 2 then (k != 1) && decide (0 < wid k) else if o = 3 then decide (0 < wid k) else false

/-- are all of them values of the kind -/
def allv (k : Int) (xs : List Int) : Bool := xs.all (isv k)
/-- what is told: x, wrapped, if all of them are values of the kind; else 0 -/
def setv (k to x : Int) (xs : List Int) : Int := if allv k xs then wrp to x else 0

def two (t : Bool) (x y : Int) : Int := if t then x else y
def one (b : Bool) : Int := if b then 1 else 0

/-- is a below b, as values of the kind (k from 6 on: without a sign) -/
def lss (k a b : Int) : Bool := if 6 ≤ k then decide (IntKind.u64.wrap a < IntKind.u64.wrap b) else decide (a < b)

def vdiv (k a b : Int) : Int := if b = 0 then 0 else if 6 ≤ k then wrap64 (IntKind.u64.wrap ((IntKind.u64.wrap a).tdiv (IntKind.u64.wrap b))) else wrap64 (a.tdiv b)
def vmod (k a b : Int) : Int := if b = 0 then 0 else if 6 ≤ k then wrap64 ((IntKind.u64.wrap a).tmod (IntKind.u64.wrap b)) else a.tmod b

/-- of which kinds an operation on one value is -/
def ofU (op : Int) : Int := if op = 1 then 3 else if op = 2 then 2 else 0
/-- what an operation on one value answers, before it is wrapped -/
def unV (op a : Int) : Int := if op = 1 then bits .xor .i64 (-1) a else wrap64 (-a)
def unB (op kind a : Int) : Bool := tks (ofU op) kind && allv kind [a]
def unN (op kind a : Int) : Int := if unB op kind a then wrp kind (unV op a) else 0

/-- of which kinds an operation on two values is -/
def ofB (op : Int) : Int :=
  if op = 11 then 1 else if op = 8 ∨ op = 9 ∨ op = 10 ∨ op = 14 ∨ op = 15 then 3 else if 3 ≤ op ∧ op ≤ 19 then 2 else 0
/-- does it answer a Bool -/
def tsB (op : Int) : Bool := decide (14 ≤ op)
/-- what an operation on two values answers, before it is wrapped -/
def vop (op k a b : Int) : Int :=
  if op = 3 then wrap64 (a + b) else if op = 4 then wrap64 (a - b) else if op = 5 then wrap64 (a * b)
  else if op = 6 then vdiv k a b else if op = 7 then vmod k a b
  else if op = 8 then bits .and .i64 a b else if op = 9 then bits .or .i64 a b else if op = 10 then bits .xor .i64 a b
  else if op = 11 then bits .or .i64 (bits .xor .i64 (-1) a) b
  else if op = 12 then vshl a b else if op = 13 then vshr k a b
  else if op = 14 then one (a == b) else if op = 15 then one (a != b)
  else if op = 16 then one (lss k a b) else if op = 17 then one (!lss k b a)
  else if op = 18 then one (lss k b a) else one (!lss k a b)
def binB (op kind a b : Int) : Bool := tks (ofB op) kind && allv kind [a, b]
def toK (op kind : Int) : Int := if tsB op then 1 else kind
def binK (op kind a b : Int) : Int := if binB op kind a b then toK op kind else 0
def binN (op kind a b : Int) : Int := if binB op kind a b then wrp (toK op kind) (vop op kind a b) else 0

def casB (frm to a : Int) : Bool := decide (0 < wid to) && allv frm [a]
def casN (frm to a : Int) : Int := if casB frm to a then wrp to (if to = 1 then one (a != 0) else a) else 0
end Go.Proofs.YtachmiajldeakaaGreatDoor.Bv

/- The walks of bv's plain functions Width, Wrap, Is, takes, bit: what each call answers, whatever the arguments; the world stays as it was. -/
namespace Go.Proofs.YtachmiajldeakaaGreatDoor
open Go.RowKit

theorem ret_int {k : IntKind} {a b : Int} (h : a = b) : Ending.returned (.int k a) = .returned (.int k b) := by rw [h]
theorem ret_bool {a b : Bool} (h : a = b) : Ending.returned (.bool a) = .returned (.bool b) := by rw [h]

set_option maxHeartbeats 400000 in
theorem width_any (k : Int) (w : World) :
    Calls Tryz.prog 200 #[.int .i64 k] w fun e w' => e = .returned (.int .i64 (Bv.wid k)) ∧ w' = w := by
  go_enter Tryz.func200, Tryz.ntmps200
  go_wp2
  all_goals go_ret
  all_goals refine ⟨ret_int ?_, rfl⟩
  all_goals (unfold Bv.wid; simp_all)

set_option maxHeartbeats 400000 in
theorem wrap_any (k n : Int) (w : World) :
    Calls Tryz.prog 166 #[.int .i64 k, .int .i64 n] w fun e w' => e = .returned (.int .i64 (Bv.wrp k n)) ∧ w' = w := by
  have c1 := Bv.and1 n
  have c2 := Bv.wrap8 n
  have c3 := Bv.wrap16 n
  have c4 := Bv.wrap3264 n
  have c7 := Bv.wrapu16 n
  have C : Hid (bits .and .i64 n 1 = n % 2 ∧ wrap64 (IntKind.i8.wrap n) = (n + 128) % 256 - 128 ∧ wrap64 (IntKind.i16.wrap n) = (n + 32768) % 65536 - 32768 ∧ wrap64 (wrap32 n) = (n + 2147483648) % 4294967296 - 2147483648 ∧ wrap64 (IntKind.u16.wrap n) = n % 65536) := ⟨c1, c2, c3, c4, c7⟩
  clear c1 c2 c3 c4 c7
  go_enter Tryz.func166, Tryz.ntmps166
  go_wp2
  all_goals go_ret
  all_goals refine ⟨ret_int ?_, rfl⟩
  all_goals (obtain ⟨c1, c2, c3, c4, c7⟩ := C.out; unfold Bv.wrp; simp_all)

end Go.Proofs.YtachmiajldeakaaGreatDoor

/- The plain mathematics of the tokens of a text (no program in sight): which bytes are blanks, digits, bytes of names; how far a row of such bytes goes; the words; what a number's digits are; and the tokens of a text, or where and why it has none. -/
namespace Go.Proofs.YtachmiajldeakaaGreatDoor.Lex
open Go.RowKit

def blank (c : UInt8) : Bool := c.toNat == 32 || c.toNat == 9 || c.toNat == 10 || c.toNat == 13
def digit (c : UInt8) : Bool := decide (48 ≤ c.toNat) && decide (c.toNat ≤ 57)
def word (c : UInt8) : Bool := c.toNat == 95 || digit c || (decide (97 ≤ c.toNat) && decide (c.toNat ≤ 122)) || (decide (65 ≤ c.toNat) && decide (c.toNat ≤ 90))
def inLine (c : UInt8) : Bool := c.toNat != 10

/-- how many bytes from the left are of that sort -/
def spn (p : UInt8 → Bool) (l : List UInt8) : Nat := (l.takeWhile p).length

/-- how many bytes blanks and comments have (true: within a comment) -/
def skp : Bool → List UInt8 → Nat
  | _, [] => 0
  | true, c :: r => if c.toNat = 10 then skp false r + 1 else skp true r + 1
  | false, c :: r => if blank c then skp false r + 1 else if c.toNat = 45 ∧ r.head?.map (·.toNat) = some 45 then skp true r + 1 else 0

/-- the words of the language, each with the kind that it names -/
def tbl : List (List UInt8 × Int) :=
  ([97, 110, 100], 0) ::
  ([97, 117, 116, 111, 109, 97, 116, 111, 110], 0) ::
  ([98, 111, 111, 108], 1) ::
  ([99, 97, 115, 116], 0) ::
  ([99, 111, 110, 116, 105, 110, 117, 101], 0) ::
  ([100, 111], 0) ::
  ([101, 108, 115, 101], 0) ::
  ([101, 110, 100], 0) ::
  ([102, 97, 108, 115, 101], 0) ::
  ([102, 98, 121], 0) ::
  ([102, 111, 108, 100], 0) ::
  ([105, 49, 54], 3) ::
  ([105, 51, 50], 4) ::
  ([105, 54, 52], 5) ::
  ([105, 56], 2) ::
  ([105, 102], 0) ::
  ([108, 101, 116], 0) ::
  ([109, 97, 112], 0) ::
  ([109, 101, 114, 103, 101], 0) ::
  ([109, 111, 100], 0) ::
  ([110, 111, 100, 101], 0) ::
  ([110, 111, 116], 0) ::
  ([111, 110], 0) ::
  ([111, 114], 0) ::
  ([112, 114, 101], 0) ::
  ([114, 101, 112], 0) ::
  ([114, 101, 115, 101, 116], 0) ::
  ([114, 101, 116, 117, 114, 110, 115], 0) ::
  ([115, 116, 97, 116, 101], 0) ::
  ([116, 101, 108], 0) ::
  ([116, 104, 101, 110], 0) ::
  ([116, 105, 99, 107], 0) ::
  ([116, 114, 117, 101], 0) ::
  ([117, 49, 54], 7) ::
  ([117, 51, 50], 8) ::
  ([117, 54, 52], 9) ::
  ([117, 56], 6) ::
  ([117, 110, 108, 101, 115, 115], 0) ::
  ([117, 110, 116, 105, 108], 0) ::
  ([118, 97, 114], 0) ::
  ([119, 104, 101, 110], 0) ::
  ([120, 111, 114], 0) :: []

def look (l : List UInt8) : Option Int := (tbl.find? (fun p => p.1 == l)).map (·.2)
def kindOf (l : List UInt8) : Int := (look l).getD 0

/-- the number that digits are -/
def numVal (l : List UInt8) : Nat := l.foldl (fun a c => a * 10 + (c.toNat - 48)) 0

/-- the greatest number that may be written of a kind -/
def top (k : Int) : Int :=
  if k = 2 then 128 else if k = 3 then 32768 else if k = 4 then 2147483648 else if k = 5 then 9223372036854775808
  else if k = 6 then 255 else if k = 7 then 65535 else if k = 8 then 4294967295 else 18446744073709551615

/-- a number without a kind: may it stand -/
def plainOk (d : List UInt8) : Bool := decide (d.length ≤ 9)
/-- a number with a kind: may it stand -/
def kindOk (k : Int) (d : List UInt8) : Bool := decide (d.length ≤ 20) && (decide (2 ≤ k) && decide ((numVal d : Int) ≤ top k))

/-- how many bytes the longest sign has that begins with c, if d is behind it -/
def signW (c d : Nat) : Nat :=
  if (c = 60 ∧ (d = 60 ∨ d = 61 ∨ d = 62)) ∨ (c = 62 ∧ (d = 61 ∨ d = 62)) ∨ ((c = 45 ∨ c = 61) ∧ d = 62) then 2
  else if c = 60 ∨ c = 62 ∨ c = 45 ∨ c = 61 ∨ c = 40 ∨ c = 41 ∨ c = 91 ∨ c = 93 ∨ c = 44 ∨ c = 59 ∨ c = 58 ∨ c = 43 ∨ c = 42 ∨ c = 47 ∨ c = 38 ∨ c = 124 ∨ c = 94 then 1 else 0

/-- the byte so far on; behind the end 0 -/
def pk (l : List UInt8) (i : Nat) : Nat := (l[i]?.map (·.toNat)).getD 0

/-- a token, but for its text and its place: its sort, its number, its kind, how many bytes it has; or what is wrong -/
inductive Tok where
  | tok (kind n t : Int) (len : Nat)
  | bad (e : Int)

def numTok (l : List UInt8) : Tok :=
  let a := spn digit l
  let d := l.take a
  let b := spn word (l.drop a)
  let e := (l.drop a).take b
  if b = 0 then (if plainOk d then .tok 2 (numVal d) 0 a else .bad 11)
  else if kindOk (kindOf e) d then .tok 2 (Bv.wrp (kindOf e) (wrap64 (numVal d))) (kindOf e) (a + b) else .bad 11

def nameTok (l : List UInt8) : Tok :=
  let b := spn word l
  if (look (l.take b)).isSome then .tok 3 0 0 b else if 40 < b then .bad 2 else .tok 1 0 0 b

def signTok (l : List UInt8) : Tok :=
  let k := signW (pk l 0) (pk l 1)
  if k = 0 then .bad 10 else .tok 4 0 0 k

/-- the token that begins a text -/
def tokAt (l : List UInt8) : Tok :=
  match l with
  | [] => .tok 5 0 0 0
  | c :: _ => if digit c then numTok l else if word c then nameTok l else signTok l

structure Tk where
  kind : Int
  text : List UInt8
  n : Int
  t : Int
  at_ : Nat
deriving DecidableEq

/-- the tokens, or the place and what is wrong -/
inductive Res where
  | ok (l : List Tk)
  | err (at_ : Nat) (e : Int)
deriving DecidableEq

def Res.pre (x : Tk) : Res → Res
  | .ok l => .ok (x :: l)
  | .err a e => .err a e

/-- the tokens of a text that begins at a place, if there is room for so many -/
def toks : Nat → List UInt8 → Nat → Nat → Res
  | 0, _, at_, _ => .err at_ 0
  | f + 1, l, at_, room =>
    match tokAt (l.drop (skp false l)) with
    | .bad e => .err (at_ + skp false l) e
    | .tok kd n t len =>
      if room = 0 then .err (at_ + skp false l) 2
      else if kd = 5 then .ok [⟨5, [], 0, 0, at_ + skp false l⟩]
      else (toks f ((l.drop (skp false l)).drop len) (at_ + skp false l + len) (room - 1)).pre ⟨kd, (l.drop (skp false l)).take len, n, t, at_ + skp false l⟩

/-- the tokens of a text -/
def tokens (l : List UInt8) : Res := if 65536 < l.length then .err 0 2 else toks (l.length + 1) l 0 20000

/-! how far rows of bytes go -/
theorem spn_le (p : UInt8 → Bool) (l : List UInt8) : spn p l ≤ l.length := by
  unfold spn; exact (List.takeWhile_sublist p).length_le
theorem spn_end (p : UInt8 → Bool) {l : List UInt8} {j : Nat} (h : l.length ≤ j) : spn p (l.drop j) = 0 := by
  rw [List.drop_eq_nil_of_le h]; rfl
theorem spn_step {p : UInt8 → Bool} {l : List UInt8} {j : Nat} (h : j < l.length) (hp : p l[j] = true) : spn p (l.drop j) = spn p (l.drop (j + 1)) + 1 := by
  unfold spn; rw [List.drop_eq_getElem_cons h, List.takeWhile_cons, if_pos hp, List.length_cons]
theorem spn_stop {p : UInt8 → Bool} {l : List UInt8} {j : Nat} (h : j < l.length) (hp : p l[j] = false) : spn p (l.drop j) = 0 := by
  unfold spn; rw [List.drop_eq_getElem_cons h, List.takeWhile_cons, if_neg (by simp [hp])]; rfl

theorem skp_le : ∀ (b : Bool) (l : List UInt8), skp b l ≤ l.length
  | b, [] => by cases b <;> simp [skp]
  | true, c :: r => by
    have h1 := skp_le true r; have h2 := skp_le false r
    simp only [skp, List.length_cons]; split <;> omega
  | false, c :: r => by
    have h1 := skp_le true r; have h2 := skp_le false r
    simp only [skp, List.length_cons]
    repeat' split
    all_goals omega

theorem skp_line : ∀ l : List UInt8, skp true l = spn inLine l + skp false (l.drop (spn inLine l))
  | [] => rfl
  | c :: r => by
    by_cases h : c.toNat = 10
    · have hi : inLine c = false := by simp [inLine, h]
      have hb : blank c = true := by simp [blank, h]
      simp [skp, h, spn, hi, hb]
    · have hi : inLine c = true := by simp [inLine, h]
      have ih := skp_line r
      have e : spn inLine (c :: r) = spn inLine r + 1 := by simp [spn, hi]
      rw [e]
      simp only [skp, h, if_false, List.drop_succ_cons]
      omega

theorem skp_blank {l : List UInt8} {j : Nat} (h : j < l.length) (hb : blank l[j] = true) : skp false (l.drop j) = skp false (l.drop (j + 1)) + 1 := by
  rw [List.drop_eq_getElem_cons h]; simp [skp, hb]
theorem pk_eq {l : List UInt8} {j : Nat} (h : j < l.length) : pk l j = l[j].toNat := by simp [pk, h]
theorem pk_ge {l : List UInt8} {j : Nat} (h : l.length ≤ j) : pk l j = 0 := by simp [pk, h]
theorem pk_drop (l : List UInt8) (i j : Nat) : pk (l.drop i) j = pk l (i + j) := by simp [pk]
theorem head_pk (l : List UInt8) (j : Nat) : (l.drop j).head?.map (·.toNat) = some 45 ↔ pk l j = 45 := by
  rw [List.head?_drop]
  unfold pk
  cases l[j]? <;> simp
theorem skp_comment {l : List UInt8} {j : Nat} (h : j < l.length) (hb : blank l[j] = false) (h1 : pk l j = 45) (h2 : pk l (j + 1) = 45) : skp false (l.drop j) = spn inLine (l.drop j) + skp false (l.drop (j + spn inLine (l.drop j))) := by
  have e : skp false (l.drop j) = skp true (l.drop j) := by
    rw [pk_eq h] at h1
    have h3 := (head_pk l (j + 1)).2 h2
    rw [List.drop_eq_getElem_cons h]
    unfold skp; rw [if_neg (by simp [hb]), if_pos ⟨h1, h3⟩, if_neg (by omega)]
  rw [e, skp_line, List.drop_drop]
theorem skp_stop {l : List UInt8} {j : Nat} (h : j < l.length) (hb : blank l[j] = false) (h1 : ¬ (pk l j = 45 ∧ pk l (j + 1) = 45)) : skp false (l.drop j) = 0 := by
  rw [pk_eq h, ← head_pk] at h1
  rw [List.drop_eq_getElem_cons h]
  unfold skp; rw [if_neg (by simp [hb]), if_neg h1]
theorem skp_end {l : List UInt8} {j : Nat} (h : l.length ≤ j) : skp false (l.drop j) = 0 := by
  rw [List.drop_eq_nil_of_le h]; rfl
theorem spn_inLine_pos {l : List UInt8} {j : Nat} (h : j < l.length) (h1 : pk l j = 45) : 0 < spn inLine (l.drop j) := by
  rw [pk_eq h] at h1
  rw [spn_step h (by simp [inLine, h1])]
  omega
end Go.Proofs.YtachmiajldeakaaGreatDoor.Lex

/- The walks of lex's plain functions isBlank, isInLine, isDigit, isWord and signWidth: each answers as the plain definitions say, whatever the bytes; the world stays as it was. -/
namespace Go.Proofs.YtachmiajldeakaaGreatDoor
open Go.RowKit

theorem ret_t {b : Bool} (h : b = true) : Ending.returned (.bool true) = .returned (.bool b) := by rw [h]
theorem ret_f {b : Bool} (h : ¬ b = true) : Ending.returned (.bool false) = .returned (.bool b) := by rw [Bool.not_eq_true] at h; rw [h]
theorem ret_d {b : Bool} {p : Prop} [Decidable p] (h : b = true ↔ p) : Ending.returned (.bool (decide p)) = .returned (.bool b) := by
  have e : b = decide p := by rw [Bool.eq_iff_iff]; rw [h]; exact (decide_eq_true_iff ..).symm
  rw [e]
theorem ret_e {b : Bool} {x y : Int} (h : b = true ↔ x = y) : Ending.returned (.bool (x == y)) = .returned (.bool b) := by
  have e : b = (x == y) := by rw [Bool.eq_iff_iff]; rw [h]; exact beq_iff_eq.symm
  rw [e]
theorem ret_n {b : Bool} {x y : Int} (h : b = true ↔ ¬ x = y) : Ending.returned (.bool (x != y)) = .returned (.bool b) := by
  have e : b = (x != y) := by rw [Bool.eq_iff_iff]; rw [h]; exact bne_iff_ne.symm
  rw [e]
theorem ret_g {a b : Bool} (h : b = true ↔ a = true) : Ending.returned (.bool a) = .returned (.bool b) := by
  have e : b = a := by rw [Bool.eq_iff_iff]; exact h
  rw [e]

theorem blank_iff (c : UInt8) : Lex.blank c = true ↔ c.toNat = 32 ∨ c.toNat = 9 ∨ c.toNat = 10 ∨ c.toNat = 13 := by simp [Lex.blank, or_assoc]
theorem inLine_iff (c : UInt8) : Lex.inLine c = true ↔ ¬ c.toNat = 10 := by simp [Lex.inLine]
theorem digit_iff (c : UInt8) : Lex.digit c = true ↔ 48 ≤ c.toNat ∧ c.toNat ≤ 57 := by simp [Lex.digit]
theorem word_iff (c : UInt8) : Lex.word c = true ↔ c.toNat = 95 ∨ (48 ≤ c.toNat ∧ c.toNat ≤ 57) ∨ (97 ≤ c.toNat ∧ c.toNat ≤ 122) ∨ (65 ≤ c.toNat ∧ c.toNat ≤ 90) := by simp [Lex.word, Lex.digit, or_assoc]

set_option maxHeartbeats 400000 in
theorem lexBlank_any (c : UInt8) (w : World) :
    Calls Tryz.prog 99 #[.int .u8 (c.toNat : Int)] w fun e w' => e = .returned (.bool (Lex.blank c)) ∧ w' = w := by
  obtain ⟨n, hn⟩ : ∃ n : Int, n = (c.toNat : Int) := ⟨_, rfl⟩
  rw [← hn]
  have HN : Hid (n = (c.toNat : Int)) := hn
  clear hn
  by_cases h1 : n = 32
  · go_enter Tryz.func99, Tryz.ntmps99
    go_wp2
    all_goals go_ret
    all_goals (have e := HN.out; first | exact ⟨ret_t (by rw [blank_iff]; omega), rfl⟩ | exact ⟨ret_f (by rw [blank_iff]; omega), rfl⟩ | exact ⟨ret_d (by rw [blank_iff]; omega), rfl⟩ | exact ⟨ret_e (by rw [blank_iff]; omega), rfl⟩ | exact ⟨ret_n (by rw [blank_iff]; omega), rfl⟩ | exact ⟨ret_g (by rw [blank_iff]; simp only [Bool.or_eq_true, beq_iff_eq]; omega), rfl⟩)
  · by_cases h2 : n = 9
    · go_enter Tryz.func99, Tryz.ntmps99
      go_wp2
      all_goals go_ret
      all_goals (have e := HN.out; first | exact ⟨ret_t (by rw [blank_iff]; omega), rfl⟩ | exact ⟨ret_f (by rw [blank_iff]; omega), rfl⟩ | exact ⟨ret_d (by rw [blank_iff]; omega), rfl⟩ | exact ⟨ret_e (by rw [blank_iff]; omega), rfl⟩ | exact ⟨ret_n (by rw [blank_iff]; omega), rfl⟩ | exact ⟨ret_g (by rw [blank_iff]; simp only [Bool.or_eq_true, beq_iff_eq]; omega), rfl⟩)
    · by_cases h3 : n = 10
      · go_enter Tryz.func99, Tryz.ntmps99
        go_wp2
        all_goals go_ret
        all_goals (have e := HN.out; first | exact ⟨ret_t (by rw [blank_iff]; omega), rfl⟩ | exact ⟨ret_f (by rw [blank_iff]; omega), rfl⟩ | exact ⟨ret_d (by rw [blank_iff]; omega), rfl⟩ | exact ⟨ret_e (by rw [blank_iff]; omega), rfl⟩ | exact ⟨ret_n (by rw [blank_iff]; omega), rfl⟩ | exact ⟨ret_g (by rw [blank_iff]; simp only [Bool.or_eq_true, beq_iff_eq]; omega), rfl⟩)
      · go_enter Tryz.func99, Tryz.ntmps99
        go_wp2
        all_goals go_ret
        all_goals (have e := HN.out; first | exact ⟨ret_t (by rw [blank_iff]; omega), rfl⟩ | exact ⟨ret_f (by rw [blank_iff]; omega), rfl⟩ | exact ⟨ret_d (by rw [blank_iff]; omega), rfl⟩ | exact ⟨ret_e (by rw [blank_iff]; omega), rfl⟩ | exact ⟨ret_n (by rw [blank_iff]; omega), rfl⟩ | exact ⟨ret_g (by rw [blank_iff]; simp only [Bool.or_eq_true, beq_iff_eq]; omega), rfl⟩)

set_option maxHeartbeats 400000 in
theorem lexInLine_any (c : UInt8) (w : World) :
    Calls Tryz.prog 102 #[.int .u8 (c.toNat : Int)] w fun e w' => e = .returned (.bool (Lex.inLine c)) ∧ w' = w := by
  obtain ⟨n, hn⟩ : ∃ n : Int, n = (c.toNat : Int) := ⟨_, rfl⟩
  rw [← hn]
  have HN : Hid (n = (c.toNat : Int)) := hn
  clear hn
  go_enter Tryz.func102, Tryz.ntmps102
  go_wp2
  all_goals go_ret
  all_goals (have e := HN.out; first | exact ⟨ret_t (by rw [inLine_iff]; omega), rfl⟩ | exact ⟨ret_f (by rw [inLine_iff]; omega), rfl⟩ | exact ⟨ret_d (by rw [inLine_iff]; omega), rfl⟩ | exact ⟨ret_e (by rw [inLine_iff]; omega), rfl⟩ | exact ⟨ret_n (by rw [inLine_iff]; omega), rfl⟩ | exact ⟨ret_g (by rw [inLine_iff]; simp only [Bool.or_eq_true, beq_iff_eq, decide_eq_true_eq]; omega), rfl⟩)

set_option maxHeartbeats 400000 in
theorem lexDigit_any (c : UInt8) (w : World) :
    Calls Tryz.prog 104 #[.int .u8 (c.toNat : Int)] w fun e w' => e = .returned (.bool (Lex.digit c)) ∧ w' = w := by
  obtain ⟨n, hn⟩ : ∃ n : Int, n = (c.toNat : Int) := ⟨_, rfl⟩
  rw [← hn]
  have HN : Hid (n = (c.toNat : Int)) := hn
  clear hn
  by_cases h1 : 48 ≤ n
  · go_enter Tryz.func104, Tryz.ntmps104
    go_wp2
    all_goals go_ret
    all_goals (have e := HN.out; first | exact ⟨ret_t (by rw [digit_iff]; omega), rfl⟩ | exact ⟨ret_f (by rw [digit_iff]; omega), rfl⟩ | exact ⟨ret_d (by rw [digit_iff]; omega), rfl⟩ | exact ⟨ret_e (by rw [digit_iff]; omega), rfl⟩ | exact ⟨ret_n (by rw [digit_iff]; omega), rfl⟩ | exact ⟨ret_g (by rw [digit_iff]; simp only [Bool.or_eq_true, beq_iff_eq, decide_eq_true_eq]; omega), rfl⟩)
  · go_enter Tryz.func104, Tryz.ntmps104
    go_wp2
    all_goals go_ret
    all_goals (have e := HN.out; first | exact ⟨ret_t (by rw [digit_iff]; omega), rfl⟩ | exact ⟨ret_f (by rw [digit_iff]; omega), rfl⟩ | exact ⟨ret_d (by rw [digit_iff]; omega), rfl⟩ | exact ⟨ret_e (by rw [digit_iff]; omega), rfl⟩ | exact ⟨ret_n (by rw [digit_iff]; omega), rfl⟩ | exact ⟨ret_g (by rw [digit_iff]; simp only [Bool.or_eq_true, beq_iff_eq, decide_eq_true_eq]; omega), rfl⟩)

set_option maxHeartbeats 400000 in
theorem lexWord_any (c : UInt8) (w : World) :
    Calls Tryz.prog 106 #[.int .u8 (c.toNat : Int)] w fun e w' => e = .returned (.bool (Lex.word c)) ∧ w' = w := by
  obtain ⟨n, hn⟩ : ∃ n : Int, n = (c.toNat : Int) := ⟨_, rfl⟩
  rw [← hn]
  have HN : Hid (n = (c.toNat : Int)) := hn
  have hd : ∀ wx, Calls Tryz.prog 104 #[.int .u8 n] wx fun e w' => e = .returned (.bool (decide (48 ≤ n ∧ n ≤ 57))) ∧ w' = wx := by
    intro wx
    have h0 := lexDigit_any c wx
    rw [← hn] at h0
    have e0 : Lex.digit c = decide (48 ≤ n ∧ n ≤ 57) := by
      rw [Bool.eq_iff_iff, digit_iff, decide_eq_true_iff]; omega
    rw [e0] at h0
    exact h0
  clear hn
  by_cases h1 : n = 95
  · go_enter Tryz.func106, Tryz.ntmps106
    go_wp2_with (go_at_call 104; refine (hd _).mono ?_; rintro e w' ⟨rfl, rfl⟩)
    all_goals go_ret
    all_goals (have e := HN.out; first | exact ⟨ret_t (by rw [word_iff]; omega), rfl⟩ | exact ⟨ret_f (by rw [word_iff]; omega), rfl⟩ | exact ⟨ret_d (by rw [word_iff]; omega), rfl⟩ | exact ⟨ret_e (by rw [word_iff]; omega), rfl⟩ | exact ⟨ret_n (by rw [word_iff]; omega), rfl⟩ | exact ⟨ret_g (by rw [word_iff]; simp only [Bool.or_eq_true, beq_iff_eq, decide_eq_true_eq]; omega), rfl⟩)
  · by_cases h2 : 48 ≤ n ∧ n ≤ 57
    · go_enter Tryz.func106, Tryz.ntmps106
      go_wp2_with (go_at_call 104; refine (hd _).mono ?_; rintro e w' ⟨rfl, rfl⟩)
      all_goals go_ret
      all_goals (have e := HN.out; first | exact ⟨ret_t (by rw [word_iff]; omega), rfl⟩ | exact ⟨ret_f (by rw [word_iff]; omega), rfl⟩ | exact ⟨ret_d (by rw [word_iff]; omega), rfl⟩ | exact ⟨ret_e (by rw [word_iff]; omega), rfl⟩ | exact ⟨ret_n (by rw [word_iff]; omega), rfl⟩ | exact ⟨ret_g (by rw [word_iff]; simp only [Bool.or_eq_true, beq_iff_eq, decide_eq_true_eq]; omega), rfl⟩)
    · by_cases h3 : 97 ≤ n
      · go_enter Tryz.func106, Tryz.ntmps106
        go_wp2_with (go_at_call 104; refine (hd _).mono ?_; rintro e w' ⟨rfl, rfl⟩)
        all_goals go_ret
        all_goals (have e := HN.out; first | exact ⟨ret_t (by rw [word_iff]; omega), rfl⟩ | exact ⟨ret_f (by rw [word_iff]; omega), rfl⟩ | exact ⟨ret_d (by rw [word_iff]; omega), rfl⟩ | exact ⟨ret_e (by rw [word_iff]; omega), rfl⟩ | exact ⟨ret_n (by rw [word_iff]; omega), rfl⟩ | exact ⟨ret_g (by rw [word_iff]; simp only [Bool.or_eq_true, beq_iff_eq, decide_eq_true_eq]; omega), rfl⟩)
      · go_enter Tryz.func106, Tryz.ntmps106
        go_wp2_with (go_at_call 104; refine (hd _).mono ?_; rintro e w' ⟨rfl, rfl⟩)
        all_goals go_ret
        all_goals (have e := HN.out; first | exact ⟨ret_t (by rw [word_iff]; omega), rfl⟩ | exact ⟨ret_f (by rw [word_iff]; omega), rfl⟩ | exact ⟨ret_d (by rw [word_iff]; omega), rfl⟩ | exact ⟨ret_e (by rw [word_iff]; omega), rfl⟩ | exact ⟨ret_n (by rw [word_iff]; omega), rfl⟩ | exact ⟨ret_g (by rw [word_iff]; simp only [Bool.or_eq_true, beq_iff_eq, decide_eq_true_eq]; omega), rfl⟩)

set_option maxHeartbeats 800000 in
theorem lexSignWidth_any (c d : Nat) (w : World) :
    Calls Tryz.prog 138 #[.int .u8 (c : Int), .int .u8 (d : Int)] w fun e w' => e = .returned (.int .i64 (Lex.signW c d)) ∧ w' = w := by
  obtain ⟨n, hn⟩ : ∃ n : Int, n = (c : Int) := ⟨_, rfl⟩
  obtain ⟨m, hm⟩ : ∃ m : Int, m = (d : Int) := ⟨_, rfl⟩
  rw [← hn, ← hm]
  have HN : Hid (n = (c : Int) ∧ m = (d : Int)) := ⟨hn, hm⟩
  clear hn hm
  go_enter Tryz.func138, Tryz.ntmps138
  go_wp2
  all_goals go_ret
  all_goals go_light
  all_goals refine ⟨ret_int ?_, rfl⟩
  all_goals have e := HN.out
  all_goals clear HN
  all_goals simp only [beq_iff_eq, beq_eq_false_iff_ne, ne_eq] at *
  all_goals (unfold Lex.signW; repeat' split)
  all_goals omega

end Go.Proofs.YtachmiajldeakaaGreatDoor

/- lex's reader in memory: a block of three cells; and the walks of its methods peek, take, skip, choose, end, sign: what each answers, where the reader stands then; nothing else turns. -/
namespace Go.Proofs.YtachmiajldeakaaGreatDoor
open Go.RowKit

/-- block b is a reader of the text s that stands at i, its words in the map m -/
def Rd (w : World) (b : Nat) (s : ByteArray) (i m : Nat) : Prop := w.heap[b]? = some (.cells #[.string s, .int .i64 (i : Int), .map (some m)] 82 (0, 0))

section
variable {w : World} {b : Nat} {s : ByteArray} {i m : Nat}
theorem Rd.c0 (h : Rd w b s i m) : w.cell? ⟨b, 0, none⟩ = some (.string s) := cell_of_row w b 0 _ _ _ h
theorem Rd.c1 (h : Rd w b s i m) : w.cell? ⟨b, 1, none⟩ = some (.int .i64 (i : Int)) := cell_of_row w b 1 _ _ _ h
theorem Rd.c2 (h : Rd w b s i m) : w.cell? ⟨b, 2, none⟩ = some (.map (some m)) := cell_of_row w b 2 _ _ _ h
theorem Rd.fr (h : Rd w b s i m) (j : Nat) : w.frozen? ⟨b, j, none⟩ = false := by
  unfold Rd at h; simp [World.frozen?, h]
theorem Rd.lt (h : Rd w b s i m) : b < w.heap.size := (Array.getElem?_eq_some_iff.1 h).1
theorem Rd.set (h : Rd w b s i m) (j : Nat) : Rd (w.setCell ⟨b, 1, none⟩ (.int .i64 (j : Int))) b s j m := by
  unfold Rd at h ⊢
  simp only [World.setCell, Array.getElem?_modify, if_true, h, Option.map_some]
  rfl
theorem Rd.add (h : Rd w b s i m) (k : Nat) : Rd (w.setCell ⟨b, 1, none⟩ (.int .i64 ((i : Int) + k))) b s (i + k) m := by
  have := h.set (i + k)
  rwa [Int.natCast_add] at this
theorem Rd.drewN (h : Rd w b s i m) (k : Nat) : Rd (w.drewN k) b s i m := h
theorem Rd.kept {w' : World} {row : Option Nat} (h : Rd w b s i m) (hg : w.grownBy w' row) (hne : some b ≠ row) : Rd w' b s i m :=
  (hg.block b h.lt hne).trans h
end

theorem grown_set (w : World) (a : Addr) (u : Value) : w.grownBy (w.setCell a u) (some a.block) :=
  ⟨rfl, rfl, rfl, by simp [World.setCell], fun k _ hk => Below.heap_setCell w a u k (fun e => hk (by rw [e]))⟩
theorem grown_drewN (w : World) (k : Nat) (row : Option Nat) : w.grownBy (w.drewN k) row := ⟨rfl, rfl, rfl, Nat.le_refl _, fun _ _ _ => rfl⟩

theorem gset {w wx : World} {row : Option Nat} (h : w.grownBy wx row) {a : Addr} (ha : w.heap.size ≤ a.block ∨ row = some a.block) (u : Value) : w.grownBy (wx.setCell a u) row :=
  h.andThen (grown_set wx a u) (fun j e => by cases e; exact ha)
theorem gdrewN {w wx : World} {row : Option Nat} (h : w.grownBy wx row) (k : Nat) : w.grownBy (wx.drewN k) row := ⟨h.os, h.tape, h.output, h.size, h.block⟩
theorem galloc {w wx : World} {row : Option Nat} (h : w.grownBy wx row) (o : Obj) : w.grownBy (wx.alloc o) row := h.andThen (World.grownBy_alloc wx o none) (fun j e => by cases e)
theorem Rd.other {w : World} {b : Nat} {s : ByteArray} {i m : Nat} (h : Rd w b s i m) {a : Addr} (ha : ¬ b = a.block) (u : Value) : Rd (w.setCell a u) b s i m :=
  h.kept (grown_set w a u) (fun e => ha (Option.some.inj e))
theorem Rd.alloc {w : World} {b : Nat} {s : ByteArray} {i m : Nat} (h : Rd w b s i m) (o : Obj) : Rd (w.alloc o) b s i m :=
  h.kept (World.grownBy_alloc w o none) (by simp)

theorem byte_at (s : ByteArray) (i : Nat) (h : i < s.size) : s[i].toNat = Lex.pk s.data.toList i := by
  rw [Lex.pk_eq (by simpa using h)]
  rfl

theorem idx_str (s : ByteArray) (n : Nat) (h : n < s.size) (z : Int) (hz : z = (n : Int)) (wx : World) :
    (Instr.index 9 (.string s) (.int .i64 z)).run Tryz.prog wx = .ok (.int .u8 (Lex.pk s.data.toList n : Int)) wx := by
  subst hz
  have e := run_index_string (P := Tryz.prog) wx 9 s .i64 (n : Int) Tryz.underlying9
  rw [e, dif_pos (by omega)]
  simp only [Int.toNat_natCast]
  rw [byte_at s n h]

theorem slc_str (s : ByteArray) (i j : Nat) (h1 : i ≤ j) (h2 : j ≤ s.size) (wx : World) :
    (Instr.slice 9 (.string s) (some (.int .i64 (i : Int))) (some (.int .i64 (j : Int))) none).run Tryz.prog wx = .ok (.string (s.extract i j)) wx := by
  have e := run_slice_string (P := Tryz.prog) wx 9 s .i64 .i64 (i : Int) (j : Int) Tryz.underlying9 (by omega) (by omega) (by omega)
  simpa only [Int.toNat_natCast] using e

set_option maxHeartbeats 400000 in
theorem peek_any (b : Nat) (s : ByteArray) (i on m : Nat) (hs : s.size ≤ 65536) (hi : i ≤ s.size) (hon : on ≤ 1) (w : World) (h : Rd w b s i m) :
    Calls Tryz.prog 100 #[.pointer (some ⟨b, 0, none⟩), .int .i64 (on : Int)] w fun e w' => e = .returned (.int .u8 (Lex.pk s.data.toList (i + on) : Int)) ∧ ∃ k, w' = w.drewN k := by
  have c0 := h.c0
  have c1 := h.c1
  have ew : wrap64 ((i : Int) + on) = (i : Int) + on := by unfold wrap64; omega
  by_cases hlt : i + on < s.size
  · have hd : decide ((s.size : Int) ≤ (i : Int) + on) = false := by rw [decide_eq_false_iff_not]; omega
    have ew2 : IntKind.i64.wrap ((i : Int) + on) = (i : Int) + on := by rw [IntKind.wrap_i64]; omega
    have hx := fun wx => idx_str s (i + on) hlt ((i : Int) + on) (by omega) wx
    have hx2 := fun wx => idx_str s (i + on) hlt (IntKind.i64.wrap ((i : Int) + on)) (ew2.trans (Int.natCast_add i on).symm) wx
    clear ew2
    go_enter Tryz.func100, Tryz.ntmps100
    go_wp2
    go_quiet (fail)
    go_wp2
    go_quiet (fail)
    go_wp2
    go_ret
    exact ⟨rfl, _, World.drewN_drewN ..⟩
  · have hd : decide ((s.size : Int) ≤ (i : Int) + on) = true := by rw [decide_eq_true_iff]; omega
    go_enter Tryz.func100, Tryz.ntmps100
    go_wp2
    go_quiet (fail)
    go_wp2
    go_ret
    exact ⟨ret_int (by rw [Lex.pk_ge (by simpa using hlt)]; rfl), _, rfl⟩

set_option maxHeartbeats 800000 in
/-- take: the bytes of one sort, from where the reader stands; it stands behind them then -/
theorem take_any (f : FuncId) (p : UInt8 → Bool) (hrun : ∀ args w, (callFunc f args).run Tryz.prog w = .ok (.enter f args) w)
    (hf : ∀ (c : UInt8) (w : World), Calls Tryz.prog f #[.int .u8 (c.toNat : Int)] w fun e w' => e = .returned (.bool (p c)) ∧ w' = w)
    (b : Nat) (s : ByteArray) (i m : Nat) (hs : s.size ≤ 65536) (hi : i ≤ s.size) (w : World) (h : Rd w b s i m) :
    Calls Tryz.prog 101 #[.pointer (some ⟨b, 0, none⟩), .func (.func f) #[] #[]] w fun e w' =>
      e = .returned (.string (s.extract i (i + Lex.spn p (s.data.toList.drop i)))) ∧ Rd w' b s (i + Lex.spn p (s.data.toList.drop i)) m ∧ w.grownBy w' (some b) := by
  have c0 := h.c0
  have c1 := h.c1
  go_enter Tryz.func101, Tryz.ntmps101
  go_wp2
  clear c0 c1
  go_loopw [10] (fun _ wr => ∃ j : Nat, i ≤ j ∧ j ≤ s.size ∧ Rd wr b s j m ∧ w.grownBy wr (some b) ∧ Hid (j + Lex.spn p (s.data.toList.drop j) = i + Lex.spn p (s.data.toList.drop i))) (fun _ wr => s.size - (intOf ((wr.cell? ⟨b, 1, none⟩).getD .nilFunc)).toNat)
  case atStart => exact ⟨i, Nat.le_refl _, hi, h, World.grownBy.refl _ _, rfl⟩
  case round =>
    obtain ⟨j, hij, hj, hR, hG, HJ⟩ := hrel
    have c0 := hR.c0
    have c1 := hR.c1
    have fr1 := hR.fr 1
    by_cases hlt : j < s.size
    · have hd : decide ((j : Int) < (s.size : Int)) = true := by rw [decide_eq_true_iff]; omega
      have hx := fun wx => idx_str s j hlt (j : Int) rfl wx
      obtain ⟨c, hc⟩ : ∃ c : UInt8, c = s.data.toList[j]'(by simpa using hlt) := ⟨_, rfl⟩
      have hp : Lex.pk s.data.toList j = c.toNat := by rw [Lex.pk_eq (by simpa using hlt), hc]
      simp only [hp] at hx
      have HC : Hid (c = s.data.toList[j]'(by simpa using hlt)) := hc
      clear hc hp
      rcases Bool.eq_false_or_eq_true (p c) with hpc | hpc
      · go_wp2
        go_quiet (exact Calls.quiet_of_same (hf _ _))
        rw [hpc]
        go_wp2
        have hR2 := (hR.drewN nq).add 1
        refine ⟨⟨j + 1, by omega, by omega, hR2, (hG.trans (grown_drewN wr nq _)).trans (grown_set _ _ _), ?_⟩, ?_⟩
        · have e := HJ.out
          have e2 := Lex.spn_step (p := p) (l := s.data.toList) (j := j) (by simpa using hlt) (by rw [← HC.out]; exact hpc)
          show _ = _
          omega
        · rw [show ((wr.drewN nq).setCell ⟨b, 1, none⟩ (.int .i64 ((j : Int) + 1))).cell? ⟨b, 1, none⟩ = _ from hR2.c1, c1]
          simp only [Option.getD_some, intOf, Int.toNat_natCast]
          omega
      · have hsl := fun wx => slc_str s i j hij hj wx
        go_wp2
        go_quiet (exact Calls.quiet_of_same (hf _ _))
        rw [hpc]
        go_wp2
        go_quiet (fail)
        go_wp2
        go_ret
        have e := HJ.out
        have e2 := Lex.spn_stop (p := p) (l := s.data.toList) (j := j) (by simpa using hlt) (by rw [← HC.out]; exact hpc)
        have e3 : j = i + Lex.spn p (s.data.toList.drop i) := by omega
        refine ⟨by rw [← e3]; rfl, ?_, ?_⟩
        · rw [← e3]; exact hR
        · exact ⟨hG.os, hG.tape, hG.output, hG.size, hG.block⟩
    · have hd : decide ((j : Int) < (s.size : Int)) = false := by rw [decide_eq_false_iff_not]; omega
      have hsl := fun wx => slc_str s i j hij hj wx
      go_wp2
      go_quiet (fail)
      go_wp2
      go_quiet (fail)
      go_wp2
      go_ret
      have e := HJ.out
      have e2 := Lex.spn_end p (l := s.data.toList) (j := j) (by simpa using hlt)
      have e3 : j = i + Lex.spn p (s.data.toList.drop i) := by omega
      refine ⟨by rw [← e3]; rfl, ?_, ?_⟩
      · rw [← e3]; exact hR
      · exact ⟨hG.os, hG.tape, hG.output, hG.size, hG.block⟩

end Go.Proofs.YtachmiajldeakaaGreatDoor

/- lex's reader, on: the walks of its methods skip, choose, end and sign. -/
namespace Go.Proofs.YtachmiajldeakaaGreatDoor
open Go.RowKit

/-- a token's cells, but for its text and its place -/
def tkv (kd n t : Int) : Value := .agg #[.int .i64 kd, .string ⟨#[]⟩, .int .i64 n, .int .i64 t, .int .i64 0, .int .i64 0]

/-- what a token's reader answers, and where it stands then -/
def rdPost (b : Nat) (s : ByteArray) (i m : Nat) (w : World) (x : Lex.Tok) (e : Ending) (w' : World) : Prop :=
  (match x with
    | .bad er => e = .returned (.tuple #[tkv 0 0 0, .int .i64 er]) ∧ (¬ er = 0) ∧ (∃ j, j ≤ s.size ∧ Rd w' b s j m)
    | .tok kd n t len => e = .returned (.tuple #[tkv kd n t, .int .i64 0]) ∧ i + len ≤ s.size ∧ Rd w' b s (i + len) m) ∧ w.grownBy w' (some b)

/-- which method reads the token that begins a text -/
def chF (l : List UInt8) : FuncId :=
  match l with
  | [] => 103
  | c :: _ => if Lex.digit c then 105 else if Lex.word c then 107 else 108

theorem enterEnd : ∀ args w, (callFunc 103 args).run Tryz.prog w = .ok (.enter 103 args) w := fun _ _ => by kernel_rfl

theorem enterDigit : ∀ args w, (callFunc 104 args).run Tryz.prog w = .ok (.enter 104 args) w := fun _ _ => by kernel_rfl

theorem enterWord : ∀ args w, (callFunc 106 args).run Tryz.prog w = .ok (.enter 106 args) w := fun _ _ => by kernel_rfl

theorem enterInLine : ∀ args w, (callFunc 102 args).run Tryz.prog w = .ok (.enter 102 args) w := fun _ _ => by kernel_rfl

set_option maxHeartbeats 400000 in
theorem end_any (b : Nat) (s : ByteArray) (i m : Nat) (w : World) (hi : i ≤ s.size) (h : Rd w b s i m) :
    Calls Tryz.prog 103 #[.pointer (some ⟨b, 0, none⟩)] w fun e w' => rdPost b s i m w (.tok 5 0 0 0) e w' := by
  go_enter Tryz.func103, Tryz.ntmps103
  go_wp2
  (try simp only [Exit.inBlock, Exit.then])
  refine bodyPost_ret (v := .tuple #[tkv 5 0 0, .int .i64 0]) ?_ rfl ⟨⟨rfl, hi, h.alloc _⟩, World.grownBy_alloc w _ _⟩
  rw [results_cell_tmp rfl]
  unfold tkv
  go_simp

set_option maxHeartbeats 400000 in
theorem choose_any (b : Nat) (s : ByteArray) (i m : Nat) (hi : i ≤ s.size) (w : World) (h : Rd w b s i m) :
    Calls Tryz.prog 65 #[.pointer (some ⟨b, 0, none⟩)] w fun e w' => e = .returned (.func (.func (chF (s.data.toList.drop i))) #[.pointer (some ⟨b, 0, none⟩)] #[]) ∧ ∃ k, w' = w.drewN k := by
  have c0 := h.c0
  have c1 := h.c1
  by_cases hlt : i < s.size
  · have hd : ((i : Int) == (s.size : Int)) = false := by rw [beq_eq_false_iff_ne]; omega
    have hx := fun wx => idx_str s i hlt (i : Int) rfl wx
    obtain ⟨c, hc⟩ : ∃ c : UInt8, c = s.data.toList[i]'(by simpa using hlt) := ⟨_, rfl⟩
    have hp : Lex.pk s.data.toList i = c.toNat := by rw [Lex.pk_eq (by simpa using hlt), hc]
    simp only [hp] at hx
    have hl : s.data.toList.drop i = c :: s.data.toList.drop (i + 1) := by rw [List.drop_eq_getElem_cons (by simpa using hlt), hc]
    rw [hl]
    clear hl hc hp
    rcases Bool.eq_false_or_eq_true (Lex.digit c) with h1 | h1
    · rw [show chF (c :: s.data.toList.drop (i + 1)) = 105 by simp [chF, h1]]
      go_enter Tryz.func65, Tryz.ntmps65
      go_wp2
      go_quiet (fail)
      go_wp2
      go_quiet (fail)
      go_wp2_with (first | (go_at_call 104; refine (lexDigit_any _ _).mono ?_; rintro e w' ⟨rfl, rfl⟩) | (go_at_call 106; refine (lexWord_any _ _).mono ?_; rintro e w' ⟨rfl, rfl⟩))
      go_ret
      exact ⟨rfl, _, rfl⟩
    · rcases Bool.eq_false_or_eq_true (Lex.word c) with h2 | h2
      · rw [show chF (c :: s.data.toList.drop (i + 1)) = 107 by simp [chF, h1, h2]]
        go_enter Tryz.func65, Tryz.ntmps65
        go_wp2
        go_quiet (fail)
        go_wp2
        go_quiet (fail)
        go_wp2_with (first | (go_at_call 104; refine (lexDigit_any _ _).mono ?_; rintro e w' ⟨rfl, rfl⟩) | (go_at_call 106; refine (lexWord_any _ _).mono ?_; rintro e w' ⟨rfl, rfl⟩))
        go_ret
        exact ⟨rfl, _, rfl⟩
      · rw [show chF (c :: s.data.toList.drop (i + 1)) = 108 by simp [chF, h1, h2]]
        go_enter Tryz.func65, Tryz.ntmps65
        go_wp2
        go_quiet (fail)
        go_wp2
        go_quiet (fail)
        go_wp2_with (first | (go_at_call 104; refine (lexDigit_any _ _).mono ?_; rintro e w' ⟨rfl, rfl⟩) | (go_at_call 106; refine (lexWord_any _ _).mono ?_; rintro e w' ⟨rfl, rfl⟩))
        go_ret
        exact ⟨rfl, _, rfl⟩
  · have hd : ((i : Int) == (s.size : Int)) = true := by rw [beq_iff_eq]; omega
    have hl : s.data.toList.drop i = [] := List.drop_eq_nil_of_le (by simpa using hlt)
    rw [hl]
    clear hl
    go_enter Tryz.func65, Tryz.ntmps65
    go_wp2
    go_quiet (fail)
    go_wp2
    go_ret
    exact ⟨rfl, _, rfl⟩

theorem signW_le (c d : Nat) : Lex.signW c d ≤ 2 := by unfold Lex.signW; repeat' split
                                                       all_goals omega
theorem signW_two (c d : Nat) (h : Lex.signW c d = 2) : ¬ d = 0 := by
  unfold Lex.signW at h
  split at h
  · omega
  · split at h <;> omega

set_option maxHeartbeats 800000 in
theorem sign_any (b : Nat) (s : ByteArray) (i m : Nat) (hs : s.size ≤ 65536) (hi : i < s.size) (w : World) (h : Rd w b s i m) :
    Calls Tryz.prog 108 #[.pointer (some ⟨b, 0, none⟩)] w fun e w' => rdPost b s i m w (Lex.signTok (s.data.toList.drop i)) e w' := by
  obtain ⟨k, hk⟩ : ∃ k : Nat, k = Lex.signW (Lex.pk s.data.toList (i + 0)) (Lex.pk s.data.toList (i + 1)) := ⟨_, rfl⟩
  have hw := fun wx => lexSignWidth_any (Lex.pk s.data.toList (i + 0)) (Lex.pk s.data.toList (i + 1)) wx
  rw [← hk] at hw
  have hk2 : k ≤ 2 := by rw [hk]; exact signW_le _ _
  have hle : i + k ≤ s.size := by
    by_cases h2 : k = 2
    · have h3 := signW_two _ _ (hk.symm.trans h2)
      by_cases h4 : i + 1 < s.size
      · omega
      · exact absurd (Lex.pk_ge (by simp; omega)) h3
    · omega
  have ht : Lex.signTok (s.data.toList.drop i) = if k = 0 then .bad 10 else .tok 4 0 0 k := by
    simp only [Lex.signTok, Lex.pk_drop, hk]
  rw [ht]
  clear ht hk
  have p0 : ∀ wx, Rd wx b s i m → Calls Tryz.prog 100 #[.pointer (some ⟨b, 0, none⟩), .int .i64 0] wx fun e w' => e = .returned (.int .u8 (Lex.pk s.data.toList (i + 0) : Int)) ∧ ∃ k, w' = wx.drewN k :=
    fun wx hx => peek_any b s i 0 m hs (by omega) (by omega) wx hx
  have p1 : ∀ wx, Rd wx b s i m → Calls Tryz.prog 100 #[.pointer (some ⟨b, 0, none⟩), .int .i64 1] wx fun e w' => e = .returned (.int .u8 (Lex.pk s.data.toList (i + 1) : Int)) ∧ ∃ k, w' = wx.drewN k :=
    fun wx hx => peek_any b s i 1 m hs (by omega) (by omega) wx hx
  generalize Lex.pk s.data.toList (i + 0) = q0 at p0 hw
  generalize Lex.pk s.data.toList (i + 1) = q1 at p1 hw
  have hR1 : Rd (w.alloc (.cells #[.int .i64 0, .string ⟨#[]⟩, .int .i64 0, .int .i64 0, .int .i64 0, .int .i64 0] 100)) b s i m := h.alloc _
  have hb := h.lt
  have c1 := h.c1
  have f1 := h.fr 1
  have hh := h
  by_cases h0 : k = 0
  · subst h0
    go_enter Tryz.func108, Tryz.ntmps108
    go_wp2_with (go_at_call 100; refine (p0 _ hR1).mono ?_; rintro e w' ⟨rfl, k1, rfl⟩; refine Hid.out ?_)
    refine Lib.hid ?_
    go_wp2_with (go_at_call 100; refine (p1 _ (hR1.drewN _)).mono ?_; rintro e w' ⟨rfl, k2, rfl⟩; refine Hid.out ?_)
    refine Lib.hid ?_
    go_wp2_with (go_at_call 138; refine (hw _).mono ?_; rintro e w' ⟨rfl, rfl⟩)
    (try simp only [Exit.inBlock, Exit.then])
    refine bodyPost_ret (v := .tuple #[tkv 0 0 0, .int .i64 10]) ?_ rfl ?_
    · rw [results_cell_tmp rfl]
      unfold tkv
      go_simp
    · go_light
      refine ⟨⟨rfl, by decide, i, by omega, ?_⟩, ?_⟩
      · repeat (first | with_reducible exact hh | with_reducible refine Rd.drewN ?_ _ | with_reducible refine Rd.alloc ?_ _ | with_reducible refine Rd.other ?_ (by show ¬ b = w.heap.size; omega) _)
      · repeat (first | with_reducible exact World.grownBy.refl _ _ | with_reducible refine gdrewN ?_ _ | with_reducible refine galloc ?_ _ | with_reducible refine gset ?_ (.inl (Nat.le_refl _)) _ | with_reducible refine gset ?_ (.inr rfl) _)
  · rw [if_neg h0]
    have hk0 : ((k : Int) == 0) = false := by rw [beq_eq_false_iff_ne]; omega
    go_enter Tryz.func108, Tryz.ntmps108
    go_wp2_with (go_at_call 100; refine (p0 _ hR1).mono ?_; rintro e w' ⟨rfl, k1, rfl⟩; refine Hid.out ?_)
    refine Lib.hid ?_
    go_wp2_with (go_at_call 100; refine (p1 _ (hR1.drewN _)).mono ?_; rintro e w' ⟨rfl, k2, rfl⟩; refine Hid.out ?_)
    refine Lib.hid ?_
    go_wp2_with (go_at_call 138; refine (hw _).mono ?_; rintro e w' ⟨rfl, rfl⟩)
    (try simp only [Exit.inBlock, Exit.then])
    refine bodyPost_ret (v := .tuple #[tkv 4 0 0, .int .i64 0]) ?_ rfl ?_
    · rw [results_cell_tmp rfl]
      unfold tkv
      go_simp
    · go_light
      refine ⟨⟨rfl, hle, ?_⟩, ?_⟩
      · repeat (first | with_reducible exact h | with_reducible refine Rd.drewN ?_ _ | with_reducible refine Rd.alloc ?_ _ | with_reducible refine Rd.other ?_ (by show ¬ b = w.heap.size; omega) _ | with_reducible refine Rd.add ?_ k)
      · repeat (first | with_reducible exact World.grownBy.refl _ _ | with_reducible refine gdrewN ?_ _ | with_reducible refine galloc ?_ _ | with_reducible refine gset ?_ (.inl (Nat.le_refl _)) _ | with_reducible refine gset ?_ (.inr rfl) _)

end Go.Proofs.YtachmiajldeakaaGreatDoor

/- lex's reader, on: the walk of its method skip: blanks and comments are passed over. -/
namespace Go.Proofs.YtachmiajldeakaaGreatDoor
open Go.RowKit

/-- a callee that draws nothing, met behind draws -/
theorem quiet_same2 {P : Program} {f : FuncId} {args : Array Value} {w : World} {a n : Nat} {v : Value}
    (h : Calls P f args (w.drewN (a + n)) fun e w' => e = .returned v ∧ w' = w.drewN (a + n)) : Calls P f args (w.drewN (a + n)) fun e w'' => e = .returned v ∧ ∃ m, w'' = w.drewN (a + m) :=
  h.mono fun _ _ ⟨he, hm⟩ => ⟨he, n, hm⟩

set_option maxHeartbeats 1600000 in
theorem skip_any (b : Nat) (s : ByteArray) (i m : Nat) (hs : s.size ≤ 65536) (hi : i ≤ s.size) (w : World) (h : Rd w b s i m) :
    Calls Tryz.prog 64 #[.pointer (some ⟨b, 0, none⟩)] w fun e w' =>
      (∃ v, e = .returned v) ∧ Rd w' b s (i + Lex.skp false (s.data.toList.drop i)) m ∧ w.grownBy w' (some b) := by
  go_enter Tryz.func64, Tryz.ntmps64
  go_wp2
  go_loopw [2] (fun _ wr => ∃ j : Nat, i ≤ j ∧ j ≤ s.size ∧ Rd wr b s j m ∧ w.grownBy wr (some b) ∧ Hid (j + Lex.skp false (s.data.toList.drop j) = i + Lex.skp false (s.data.toList.drop i))) (fun _ wr => s.size - (intOf ((wr.cell? ⟨b, 1, none⟩).getD .nilFunc)).toNat)
  case atStart => exact ⟨i, Nat.le_refl _, hi, h, World.grownBy.refl _ _, rfl⟩
  case round =>
    obtain ⟨j, hij, hj, hR, hG, HJ⟩ := hrel
    have c0 := hR.c0
    have c1 := hR.c1
    have fr1 := hR.fr 1
    by_cases hlt : j < s.size
    · have hd : decide ((j : Int) < (s.size : Int)) = true := by rw [decide_eq_true_iff]; omega
      have hx := fun wx => idx_str s j hlt (j : Int) rfl wx
      obtain ⟨c, hc⟩ : ∃ c : UInt8, c = s.data.toList[j]'(by simpa using hlt) := ⟨_, rfl⟩
      have hp : Lex.pk s.data.toList j = c.toNat := by rw [Lex.pk_eq (by simpa using hlt), hc]
      simp only [hp] at hx
      have HC : Hid (c = s.data.toList[j]'(by simpa using hlt)) := hc
      clear hc hp
      rcases Bool.eq_false_or_eq_true (Lex.blank c) with hpc | hpc
      · go_wp2
        go_quiet (fail)
        go_wp2
        go_quiet (exact quiet_same2 (lexBlank_any _ _))
        rw [hpc]
        go_wp2
        have hR2 := fun k => (hR.drewN k).add 1
        refine ⟨⟨j + 1, by omega, by omega, hR2 _, gset (gdrewN hG _) (.inr rfl) _, ?_⟩, ?_⟩
        · have e := HJ.out
          have e2 := Lex.skp_blank (l := s.data.toList) (j := j) (by simpa using hlt) (by rw [← HC.out]; exact hpc)
          show _ = _
          omega
        · rw [show (World.setCell _ ⟨b, 1, none⟩ (.int .i64 ((j : Int) + 1))).cell? ⟨b, 1, none⟩ = _ from (hR2 _).c1, c1]
          simp only [Option.getD_some, intOf, Int.toNat_natCast]
          omega
      · have p0 : ∀ wx, Rd wx b s j m → Calls Tryz.prog 100 #[.pointer (some ⟨b, 0, none⟩), .int .i64 0] wx fun e w' => e = .returned (.int .u8 (Lex.pk s.data.toList (j + 0) : Int)) ∧ ∃ k, w' = wx.drewN k :=
          fun wx hx => peek_any b s j 0 m hs (by omega) (by omega) wx hx
        have p1 : ∀ wx, Rd wx b s j m → Calls Tryz.prog 100 #[.pointer (some ⟨b, 0, none⟩), .int .i64 1] wx fun e w' => e = .returned (.int .u8 (Lex.pk s.data.toList (j + 1) : Int)) ∧ ∃ k, w' = wx.drewN k :=
          fun wx hx => peek_any b s j 1 m hs (by omega) (by omega) wx hx
        obtain ⟨q0, hq0⟩ : ∃ q0 : Nat, q0 = Lex.pk s.data.toList (j + 0) := ⟨_, rfl⟩
        obtain ⟨q1, hq1⟩ : ∃ q1 : Nat, q1 = Lex.pk s.data.toList (j + 1) := ⟨_, rfl⟩
        rw [← hq0] at p0
        rw [← hq1] at p1
        have HQ : Hid (q0 = Lex.pk s.data.toList (j + 0) ∧ q1 = Lex.pk s.data.toList (j + 1)) := ⟨hq0, hq1⟩
        clear hq0 hq1
        by_cases h0 : q0 = 45
        · subst h0
          have p0 : ∀ wx, Rd wx b s j m → Calls Tryz.prog 100 #[.pointer (some ⟨b, 0, none⟩), .int .i64 0] wx fun e w' => e = .returned (.int .u8 45) ∧ ∃ k, w' = wx.drewN k := p0
          by_cases h1 : q1 = 45
          · subst h1
            have p1 : ∀ wx, Rd wx b s j m → Calls Tryz.prog 100 #[.pointer (some ⟨b, 0, none⟩), .int .i64 1] wx fun e w' => e = .returned (.int .u8 45) ∧ ∃ k, w' = wx.drewN k := p1
            go_wp2
            go_quiet (fail)
            go_wp2
            go_quiet (exact quiet_same2 (lexBlank_any _ _))
            rw [hpc]
            go_wp2_with (go_at_call 100; refine (p0 _ (hR.drewN _)).mono ?_; rintro e w' ⟨rfl, k1, rfl⟩; refine Hid.out ?_)
            refine Lib.hid ?_
            go_wp2_with (go_at_call 100; refine (p1 _ (hR.drewN _)).mono ?_; rintro e w' ⟨rfl, k2, rfl⟩; refine Hid.out ?_)
            refine Lib.hid ?_
            go_wp2_with (go_at_call 101; refine (take_any 102 Lex.inLine enterInLine lexInLine_any b s j m hs hj _ (hR.drewN _)).mono ?_; rintro e w' ⟨rfl, hR2, hG2⟩)
            go_light
            obtain ⟨q0, q1⟩ := HQ.out
            have hpos := Lex.spn_inLine_pos (l := s.data.toList) (j := j) (by simpa using hlt) q0.symm
            have hle := Lex.spn_le Lex.inLine (s.data.toList.drop j)
            rw [List.length_drop] at hle
            have hsz : s.data.toList.length = s.size := by simp
            refine ⟨⟨j + Lex.spn Lex.inLine (s.data.toList.drop j), by omega, by omega, hR2, (gdrewN hG _).trans hG2, ?_⟩, ?_⟩
            · have e := HJ.out
              have e2 := Lex.skp_comment (l := s.data.toList) (j := j) (by simpa using hlt) (by rw [← HC.out]; exact hpc) q0.symm q1.symm
              show _ = _
              omega
            · rw [hR2.c1, c1]
              simp only [Option.getD_some, intOf, Int.toNat_natCast]
              omega
          · have hn : ((q1 : Int) == 45) = false := by rw [beq_eq_false_iff_ne]; omega
            go_wp2
            go_quiet (fail)
            go_wp2
            go_quiet (exact quiet_same2 (lexBlank_any _ _))
            rw [hpc]
            go_wp2_with (go_at_call 100; refine (p0 _ (hR.drewN _)).mono ?_; rintro e w' ⟨rfl, k1, rfl⟩; refine Hid.out ?_)
            refine Lib.hid ?_
            go_wp2_with (go_at_call 100; refine (p1 _ (hR.drewN _)).mono ?_; rintro e w' ⟨rfl, k2, rfl⟩)
            refine bodyPost_ret (v := .tuple #[]) (by kernel_rfl) rfl ?_
            go_light
            have e := HJ.out
            obtain ⟨q0, q1⟩ := HQ.out
            have e2 := Lex.skp_stop (l := s.data.toList) (j := j) (by simpa using hlt) (by rw [← HC.out]; exact hpc) (by intro hh; exact h1 (q1.trans hh.2))
            have e3 : j = i + Lex.skp false (s.data.toList.drop i) := by omega
            refine ⟨⟨_, rfl⟩, ?_, gdrewN hG _⟩
            rw [← e3]
            exact hR
        · have hn : ((q0 : Int) == 45) = false := by rw [beq_eq_false_iff_ne]; omega
          go_wp2
          go_quiet (fail)
          go_wp2
          go_quiet (exact quiet_same2 (lexBlank_any _ _))
          rw [hpc]
          go_wp2_with (go_at_call 100; refine (p0 _ (hR.drewN _)).mono ?_; rintro e w' ⟨rfl, k1, rfl⟩)
          refine bodyPost_ret (v := .tuple #[]) (by kernel_rfl) rfl ?_
          go_light
          have e := HJ.out
          obtain ⟨q0, q1⟩ := HQ.out
          have e2 := Lex.skp_stop (l := s.data.toList) (j := j) (by simpa using hlt) (by rw [← HC.out]; exact hpc) (by intro hh; exact h0 (q0.trans hh.1))
          have e3 : j = i + Lex.skp false (s.data.toList.drop i) := by omega
          refine ⟨⟨_, rfl⟩, ?_, gdrewN hG _⟩
          rw [← e3]
          exact hR
    · have hd : decide ((j : Int) < (s.size : Int)) = false := by rw [decide_eq_false_iff_not]; omega
      go_wp2
      go_quiet (fail)
      go_wp2
      go_end0
      go_light
      have e := HJ.out
      have e2 := Lex.skp_end (l := s.data.toList) (j := j) (by simpa using hlt)
      have e3 : j = i + Lex.skp false (s.data.toList.drop i) := by omega
      refine ⟨⟨_, rfl⟩, ?_, gdrewN hG _⟩
      rw [← e3]
      exact hR

end Go.Proofs.YtachmiajldeakaaGreatDoor

/- lex's words: the map that the call of words makes, and what it tells of every word. -/
namespace Go.Proofs.YtachmiajldeakaaGreatDoor
open Go.RowKit Go.Maps Go.WideMaps

theorem wpList_insert_own {H : Type} {P : Program} (w : World) {ops : Array Oper} {rest : List Oper} {o : Oper} {a : Act} {Q : Exit → Act → World → Prop}
    (hg : o.guard = none) (m x v : Operand) (t : TypeId) (hop : o.op = Op.insert t m x v)
    (k e : TypeId) (K : Keyed P k) (ht : P.underlying t = some (.map k e)) (R : Value → Option (DataW H × List MemPlace)) (b n : Nat) (D : DataW H)
    (hm : a.eval m = .map (some b)) (hown : w.ownsMap P k R b n D) (hn : n < maxLen) (key val : Value) (kl : Lit) (hx : a.eval x = key) (hv : a.eval v = val) (hkey : keyOf P k key = some kl)
    (d : DataW H) (ps : List MemPlace) (hval : R val = some (d, ps))
    (hK : ∀ w', w'.ownsMap P k R b (n + 1) (D.put kl d) → w.mapTurned w' b → wpList P ops Q rest (a.put o.dst undef) w') :
    wpList P ops Q (o :: rest) a w := by
  refine wpList_plain hg fun K' hK' => ?_
  obtain ⟨w', hrun, r1, r2⟩ := hown.store K ht hn hkey hval
  unfold Oper.wp
  simp [execOp, hop, hm, hx, hv, hrun, Result.andThen]
  exact hK' _ _ (hK w' r1 r2)

theorem lawK : Keyed Tryz.prog 9 := string_keyed Tryz.underlying9

/-- the words as a datum -/
def wordsD : DataW Unit := .map (Lex.tbl.map (fun p => (.string p.1, .lit (.int .i64 p.2))))

/-- block m is the map of the words -/
def WMap (w : World) (m : Nat) : Prop := ∃ n, w.ownsMap Tryz.prog 9 (plainElem Tryz.prog 3) m n wordsD

theorem WMap.kept {w w' : World} {m : Nat} {row : Option Nat} (h : WMap w m) (hg : w.grownBy w' row) (hne : some m ≠ row) : WMap w' m := by
  obtain ⟨n, h⟩ := h
  exact ⟨n, h.kept hg hne⟩
theorem WMap.lt {w : World} {m : Nat} (h : WMap w m) : m < w.heap.size := by
  obtain ⟨n, h⟩ := h
  exact h.lt

theorem find_tbl (l : List UInt8) : ∀ t : List (List UInt8 × Int), (t.map (fun p => ((Lit.string p.1, DataW.lit (.int .i64 p.2)) : Lit × DataW Unit))).find? (fun p => p.1.sameKey (.string l)) = (t.find? (fun p => p.1 == l)).map (fun p => (.string p.1, .lit (.int .i64 p.2)))
  | [] => rfl
  | p :: r => by
    have ih := find_tbl l r
    simp only [List.map_cons, List.find?_cons, Lit.sameKey]
    cases p.1 == l
    · exact ih
    · rfl

theorem words_at (l : List UInt8) : wordsD.atKey (.string l) (.lit (.int .i64 0)) = .lit (.int .i64 (Lex.kindOf l)) := by
  unfold wordsD DataW.atKey Lex.kindOf Lex.look
  simp only [find_tbl]
  cases Lex.tbl.find? (fun p => p.1 == l) <;> rfl

theorem words_has (l : List UInt8) : Maps.has wordsD (.string l) = (Lex.look l).isSome := by
  have e : ∀ t : List (List UInt8 × Int), Maps.has (.map (t.map (fun p => ((Lit.string p.1, DataW.lit (.int .i64 p.2)) : Lit × DataW Unit)))) (.string l) = ((t.find? (fun p => p.1 == l)).map (·.2)).isSome := by
    intro t
    rw [Maps.has_eq]
    induction t with
    | nil => rfl
    | cons p r ih =>
      simp only [List.map_cons, List.any_cons, List.find?_cons, Lit.sameKey]
      cases p.1 == l
      · exact ih
      · rfl
  exact e Lex.tbl

theorem hold_insert {P : Program} {ops : Array Oper} {Q : Exit → Act → World → Prop} {d : Option Tmp} {t ty : TypeId} {m x v : Operand} {ps : String} {af : Array Edge} {g : Option (Nat × Bool)} {rest : List Oper} {a : Act} {w : World}
    (h : Hid (wpList P ops Q ({ dst := d, op := Op.insert t m x v, type := ty, pos := ps, after := af, guard := g } :: rest) a w)) : wpList P ops Q ({ dst := d, op := Op.insert t m x v, type := ty, pos := ps, after := af, guard := g } :: rest) a w := h

theorem insert_step (w : World) {ops : Array Oper} {rest : List Oper} {ty : TypeId} {ps : String} {af : Array Edge} {a : Act} {Q : Exit → Act → World → Prop} (kb : ByteArray) (z : Int) (b n : Nat) (D : DataW Unit)
    (hm : a.eval (.tmp 1) = .map (some b)) (hown : w.ownsMap Tryz.prog 9 (plainElem Tryz.prog 3) b n D) (hn : n < 100) (hs : kb.size ≤ 100) (hw : (Lit.int .i64 z).wf = true)
    (hK : ∀ w', w'.ownsMap Tryz.prog 9 (plainElem Tryz.prog 3) b (n + 1) (D.put (.string kb.data.toList) (.lit (.int .i64 z))) → w.mapTurned w' b → wpList Tryz.prog ops Q rest a w') :
    wpList Tryz.prog ops Q ({ dst := none, op := Op.insert 79 (.tmp 1) (.const (.string kb)) (.const (.int .i64 z)), type := ty, pos := ps, after := af, guard := none } :: rest) a w :=
  wpList_insert_own w rfl _ _ _ 79 rfl 9 3 lawK Tryz.underlying79 _ b n D hm hown (by unfold maxLen; omega) _ _ _ rfl rfl (keyOf_string_mk Tryz.underlying9 (by unfold maxLen; omega)) _ [] (plainElem_int Tryz.underlying3 hw) hK

set_option maxHeartbeats 4000000 in
theorem words_any (w : World) :
    Calls Tryz.prog 28 #[] w fun e w' => e = .returned (.map (some w.heap.size)) ∧ WMap w' w.heap.size ∧ w.grownBy w' none := by
  have hmm := @run_makeMap Tryz.prog
  have hown := World.ownsMap_made w Tryz.prog 9 (plainElem (H := Unit) Tryz.prog 3)
  have hgr := World.grownBy_alloc w (.map #[] 0) none
  go_enter Tryz.func28, Tryz.ntmps28
  go_wp2_with (with_reducible refine hold_insert ?_)
  refine Lib.hid ?_
  iterate 42 ((with_reducible refine insert_step _ _ _ w.heap.size _ _ ?_ hown ?_ ?_ ?_ ?_); (rfl); (decide); (decide); (decide); (intro w1 h1 h2); (replace hgr := hgr.andThen h2.grown (fun j e => .inl (by cases e; exact Nat.le_refl _))); (replace hown := h1); (clear h1 h2))
  go_wp2
  go_ret
  exact ⟨rfl, ⟨_, hown⟩, hgr⟩

end Go.Proofs.YtachmiajldeakaaGreatDoor

/- lex's numbers: what the library's Atoi and ParseUint tell of rows of digits; and the walks of greatest, plainNumber and numberOf. -/
namespace Go.Proofs.YtachmiajldeakaaGreatDoor
open Go.RowKit

namespace Lex
def digits (l : List UInt8) : Prop := ∀ c ∈ l, 48 ≤ c.toNat ∧ c.toNat ≤ 57
/-- the number that digits are, behind others -/
def fv (a : Nat) (l : List UInt8) : Nat := l.foldl (fun a c => a * 10 + (c.toNat - 48)) a
theorem fv_cons (a : Nat) (c : UInt8) (r : List UInt8) : fv a (c :: r) = fv (a * 10 + (c.toNat - 48)) r := by simp only [fv, List.foldl_cons]
theorem fv_nil (a : Nat) : fv a [] = a := rfl
theorem numVal_eq (l : List UInt8) : numVal l = fv 0 l := rfl
theorem fv_ge : ∀ (l : List UInt8) (a : Nat), a ≤ fv a l
  | [], a => Nat.le_refl _
  | c :: r, a => by rw [fv_cons]; have := fv_ge r (a * 10 + (c.toNat - 48)); omega
theorem fv_lt : ∀ (l : List UInt8) (a : Nat), digits l → fv a l < (a + 1) * 10 ^ l.length
  | [], a, _ => by simp [fv_nil]
  | c :: r, a, h => by
    rw [fv_cons, List.length_cons, Nat.pow_succ]
    have h1 := fv_lt r (a * 10 + (c.toNat - 48)) (fun x hx => h x (by simp [hx]))
    have h2 := h c (by simp)
    have h3 : a * 10 + (c.toNat - 48) + 1 ≤ (a + 1) * 10 := by omega
    have h4 := Nat.mul_le_mul_right (10 ^ r.length) h3
    have e : (a + 1) * (10 ^ r.length * 10) = (a + 1) * 10 * 10 ^ r.length := by rw [Nat.mul_comm (10 ^ r.length) 10, Nat.mul_assoc]
    omega
theorem numVal_lt (l : List UInt8) (h : digits l) : numVal l < 10 ^ l.length := by
  have := fv_lt l 0 h
  rw [numVal_eq]; omega

theorem parseUintM_digits : ∀ (l : List UInt8) (a : Nat), digits l → a ≤ 18446744073709551615 →
    Go.Lib.parseUintM 18446744073709551615 a l = if fv a l ≤ 18446744073709551615 then .ok (fv a l) else .range
  | [], a, _, ha => by simp [Go.Lib.parseUintM, fv_nil, ha]
  | c :: r, a, h, ha => by
    have h2 := h c (by simp)
    have hr : digits r := fun x hx => h x (by simp [hx])
    have hg := fv_ge r (a * 10 + (c.toNat - 48))
    rw [Go.Lib.parseUintM, if_pos h2, fv_cons]
    split
    · rw [if_neg (by omega)]
    · split
      · rw [if_neg (by omega)]
      · exact parseUintM_digits r _ hr (by omega)
theorem parseUintB_digits (l : List UInt8) (hne : l ≠ []) (h : digits l) : Go.Lib.parseUintB 64 l = if numVal l ≤ 18446744073709551615 then .ok (numVal l) else .range := by
  unfold Go.Lib.parseUintB
  rw [if_neg hne, numVal_eq]
  exact parseUintM_digits l 0 h (by omega)
theorem parseUint10_digits : ∀ (l : List UInt8) (a : Nat), digits l → a ≤ 18446744073709551615 →
    Go.Lib.parseUint10 a l = if fv a l ≤ 18446744073709551615 then .ok (fv a l) else .range
  | [], a, _, ha => by simp [Go.Lib.parseUint10, fv_nil, ha]
  | c :: r, a, h, ha => by
    have h2 := h c (by simp)
    have hr : digits r := fun x hx => h x (by simp [hx])
    have hg := fv_ge r (a * 10 + (c.toNat - 48))
    rw [Go.Lib.parseUint10, if_pos h2, fv_cons]
    split
    · rw [if_neg (by omega)]
    · split
      · rw [if_neg (by omega)]
      · exact parseUint10_digits r _ hr (by omega)
theorem atoi_digits (l : List UInt8) (hne : l ≠ []) (h : digits l) : Go.Lib.atoiAll l = if numVal l < 9223372036854775808 then .ok (numVal l : Int) else .range := by
  match l, hne, h with
  | c :: r, _, h =>
    have h2 := h c (by simp)
    have e1 : ¬ (c.toNat = 43 ∨ c.toNat = 45) := by omega
    have e2 : ¬ c.toNat = 45 := by omega
    unfold Go.Lib.atoiAll Go.Lib.parseMag
    dsimp only
    rw [if_neg e1, if_neg (by simp), parseUint10_digits _ 0 h (by omega), ← numVal_eq]
    by_cases h3 : numVal (c :: r) ≤ 18446744073709551615
    · rw [if_pos h3]
      dsimp only
      by_cases h4 : numVal (c :: r) < 9223372036854775808
      · rw [if_pos h4, if_neg (by omega), if_neg (by omega), if_neg e2]
      · rw [if_neg h4, if_pos (by omega)]
    · rw [if_neg h3, if_neg (by omega)]
end Lex

theorem top_wid (k : Int) (h2 : 2 ≤ k) (h9 : k ≤ 9) : k = 2 ∨ k = 3 ∨ k = 4 ∨ k = 5 ∨ k = 6 ∨ k = 7 ∨ k = 8 ∨ k = 9 := by omega

set_option maxHeartbeats 800000 in
theorem greatest_any (k : Int) (h2 : 2 ≤ k) (h9 : k ≤ 9) (w : World) :
    Calls Tryz.prog 165 #[.int .i64 k] w fun e w' => e = .returned (.int .u64 (Lex.top k)) ∧ w' = w := by
  rcases top_wid k h2 h9 with rfl | rfl | rfl | rfl | rfl | rfl | rfl | rfl
  · have hW := fun wx => width_any 2 wx
    rw [show Bv.wid 2 = 8 by decide] at hW
    go_enter Tryz.func165, Tryz.ntmps165
    go_wp2_with (go_at_call 200; refine (hW _).mono ?_; rintro e w' ⟨rfl, rfl⟩)
    all_goals go_ret
    all_goals exact ⟨ret_int (by decide), rfl⟩
  · have hW := fun wx => width_any 3 wx
    rw [show Bv.wid 3 = 16 by decide] at hW
    go_enter Tryz.func165, Tryz.ntmps165
    go_wp2_with (go_at_call 200; refine (hW _).mono ?_; rintro e w' ⟨rfl, rfl⟩)
    all_goals go_ret
    all_goals exact ⟨ret_int (by decide), rfl⟩
  · have hW := fun wx => width_any 4 wx
    rw [show Bv.wid 4 = 32 by decide] at hW
    go_enter Tryz.func165, Tryz.ntmps165
    go_wp2_with (go_at_call 200; refine (hW _).mono ?_; rintro e w' ⟨rfl, rfl⟩)
    all_goals go_ret
    all_goals exact ⟨ret_int (by decide), rfl⟩
  · have hW := fun wx => width_any 5 wx
    rw [show Bv.wid 5 = 64 by decide] at hW
    go_enter Tryz.func165, Tryz.ntmps165
    go_wp2_with (go_at_call 200; refine (hW _).mono ?_; rintro e w' ⟨rfl, rfl⟩)
    all_goals go_ret
    all_goals exact ⟨ret_int (by decide), rfl⟩
  · have hW := fun wx => width_any 6 wx
    rw [show Bv.wid 6 = 8 by decide] at hW
    go_enter Tryz.func165, Tryz.ntmps165
    go_wp2_with (go_at_call 200; refine (hW _).mono ?_; rintro e w' ⟨rfl, rfl⟩)
    all_goals go_ret
    all_goals exact ⟨ret_int (by decide), rfl⟩
  · have hW := fun wx => width_any 7 wx
    rw [show Bv.wid 7 = 16 by decide] at hW
    go_enter Tryz.func165, Tryz.ntmps165
    go_wp2_with (go_at_call 200; refine (hW _).mono ?_; rintro e w' ⟨rfl, rfl⟩)
    all_goals go_ret
    all_goals exact ⟨ret_int (by decide), rfl⟩
  · have hW := fun wx => width_any 8 wx
    rw [show Bv.wid 8 = 32 by decide] at hW
    go_enter Tryz.func165, Tryz.ntmps165
    go_wp2_with (go_at_call 200; refine (hW _).mono ?_; rintro e w' ⟨rfl, rfl⟩)
    all_goals go_ret
    all_goals exact ⟨ret_int (by decide), rfl⟩
  · have hW := fun wx => width_any 9 wx
    rw [show Bv.wid 9 = 64 by decide] at hW
    go_enter Tryz.func165, Tryz.ntmps165
    go_wp2_with (go_at_call 200; refine (hW _).mono ?_; rintro e w' ⟨rfl, rfl⟩)
    all_goals go_ret
    all_goals exact ⟨ret_int (by decide), rfl⟩

/-- strconv.ErrRange holds an error -/
def LaidR (w : World) : Prop := ∃ tp p, w.cell? ⟨4, 0, none⟩ = some (.iface tp p)
theorem LaidR.on {w w' : World} {row : Option Nat} (h : LaidR w) (hg : w.grownBy w' row) (hr : row ≠ some 4) : LaidR w' := by
  obtain ⟨tp, p, h⟩ := h
  exact ⟨tp, p, hg.cell h (fun e => hr e.symm)⟩
theorem LaidR.lt {w : World} (h : LaidR w) : 4 < w.heap.size := by
  obtain ⟨tp, p, h⟩ := h
  exact World.block_lt_of_cell? w ⟨4, 0, none⟩ h
theorem grown_of_below {w w' : World} (h : Below w.heap.size w w') : w.grownBy w' none := ⟨h.os, h.tape, h.output, h.size, fun k hk _ => h.block k hk⟩

def tk0 : Obj := .cells #[.int .i64 0, .string ⟨#[]⟩, .int .i64 0, .int .i64 0, .int .i64 0, .int .i64 0] 100

/-- block b holds a token's six cells -/
def Six (w : World) (b : Nat) : Prop := ∃ x0 x1 x2 x3 x4 x5, w.heap[b]? = some (.cells #[x0, x1, x2, x3, x4, x5] 100 (0, 0))
theorem Six.of {w w1 : World} {row : Option Nat} (hg : (w.alloc tk0).grownBy w1 row) (hr : row ≠ some w.heap.size) : Six w1 w.heap.size :=
  ⟨_, _, _, _, _, _, (hg.block w.heap.size (by simp) (fun e => hr e.symm)).trans (heap_alloc_new w tk0)⟩
theorem Six.c {w : World} {b : Nat} (h : Six w b) : (∃ x, w.cell? ⟨b, 0, none⟩ = some x) ∧ (∃ x, w.cell? ⟨b, 1, none⟩ = some x) ∧ (∃ x, w.cell? ⟨b, 2, none⟩ = some x) ∧ (∃ x, w.cell? ⟨b, 3, none⟩ = some x) ∧ (∃ x, w.cell? ⟨b, 4, none⟩ = some x) ∧ (∃ x, w.cell? ⟨b, 5, none⟩ = some x) := by
  obtain ⟨x0, x1, x2, x3, x4, x5, h⟩ := h
  exact ⟨⟨_, cell_of_row w b 0 _ _ _ h⟩, ⟨_, cell_of_row w b 1 _ _ _ h⟩, ⟨_, cell_of_row w b 2 _ _ _ h⟩, ⟨_, cell_of_row w b 3 _ _ _ h⟩, ⟨_, cell_of_row w b 4 _ _ _ h⟩, ⟨_, cell_of_row w b 5 _ _ _ h⟩⟩
theorem Six.f {w : World} {b : Nat} (h : Six w b) (j : Nat) : w.frozen? ⟨b, j, none⟩ = false := by
  obtain ⟨x0, x1, x2, x3, x4, x5, h⟩ := h
  simp [World.frozen?, h]

set_option maxHeartbeats 800000 in
theorem plainNumber_ok (d : ByteArray) (hd : Lex.digits d.data.toList) (hne : d.data.toList ≠ []) (h9 : d.size ≤ 9) (w : World) :
    Calls Tryz.prog 136 #[.string d] w fun e w' => e = .returned (.tuple #[tkv 2 (Lex.numVal d.data.toList) 0, .int .i64 0]) ∧ w.grownBy w' none := by
  have ha := Lex.atoi_digits d.data.toList hne hd
  have hlen : d.data.toList.length = d.size := by simp
  have hv : Lex.numVal d.data.toList < 1000000000 := by
    have h1 := Lex.numVal_lt _ hd
    have h2 : 10 ^ d.data.toList.length ≤ 10 ^ 9 := Nat.pow_le_pow_right (by decide) (by omega)
    have h3 : (10 : Nat) ^ 9 = 1000000000 := by decide
    omega
  rw [if_pos (by omega)] at ha
  have hA : Calls Tryz.prog 163 #[.string d] (w.alloc tk0) fun e w' => e = .returned (.tuple #[.int .i64 (Lex.numVal d.data.toList), .nilIface]) ∧ (w.alloc tk0).grownBy w' none :=
    (Tryz.strconv_Atoi_ok d (by omega) _ ha _).mono fun e w' ⟨he, hw⟩ => ⟨he, by
      rcases hw with rfl | ⟨t, rfl⟩
      · exact World.grownBy.refl _ _
      · exact grown_of_below (Lib.bytesWorld_below _ _ _)⟩
  generalize Lex.numVal d.data.toList = nv at hA hv
  clear ha
  obtain ⟨z, hz⟩ : ∃ z : Int, z = (nv : Int) := ⟨_, rfl⟩
  rw [← hz] at hA ⊢
  clear hz hv
  unfold tk0 at hA
  have h9' : decide ((9 : Int) < (d.size : Int)) = false := by rw [decide_eq_false_iff_not]; omega
  go_enter Tryz.func136, Tryz.ntmps136
  go_wp2_with (go_at_call 163; refine hA.mono ?_; rintro e w1 ⟨rfl, hg1⟩; refine Hid.out ?_)
  have h6 := Six.of hg1 (by simp)
  obtain ⟨⟨x0, c0⟩, ⟨x1, c1⟩, ⟨x2, c2⟩, ⟨x3, c3⟩, ⟨x4, c4⟩, ⟨x5, c5⟩⟩ := h6.c
  have f0 := h6.f 0
  have f1 := h6.f 1
  have f2 := h6.f 2
  have f3 := h6.f 3
  have f4 := h6.f 4
  have f5 := h6.f 5
  refine Lib.hid ?_
  go_wp2
  (try simp only [Exit.inBlock, Exit.then])
  refine bodyPost_ret (v := .tuple #[tkv 2 z 0, .int .i64 0]) ?_ rfl ?_
  · rw [results_cell_tmp rfl]
    unfold tkv
    go_simp
  · go_light
    have hg2 : w.grownBy w1 none := (World.grownBy_alloc w _ none).trans hg1
    refine ⟨rfl, ?_⟩
    repeat (first | with_reducible exact hg2 | with_reducible refine gset ?_ (.inl (Nat.le_refl _)) _)

set_option maxHeartbeats 800000 in
theorem plainNumber_bad (d : ByteArray) (hd : Lex.digits d.data.toList) (hne : d.data.toList ≠ []) (h9 : 9 < d.size) (hsz : d.size ≤ 65536) (w : World) (hl : LaidR w) :
    Calls Tryz.prog 136 #[.string d] w fun e w' => e = .returned (.tuple #[tkv 0 0 0, .int .i64 11]) ∧ w.grownBy w' none := by
  have ha := Lex.atoi_digits d.data.toList hne hd
  have hl1 := hl.on (World.grownBy_alloc w tk0 none) (by simp)
  have h9' : decide ((9 : Int) < (d.size : Int)) = true := by rw [decide_eq_true_iff]; omega
  by_cases hv : Lex.numVal d.data.toList < 9223372036854775808
  · rw [if_pos hv] at ha
    have hA : Calls Tryz.prog 163 #[.string d] (w.alloc tk0) fun e w' => e = .returned (.tuple #[.int .i64 (Lex.numVal d.data.toList), .nilIface]) ∧ (w.alloc tk0).grownBy w' none :=
      (Tryz.strconv_Atoi_ok d (by omega) _ ha _).mono fun e w' ⟨he, hw⟩ => ⟨he, by
        rcases hw with rfl | ⟨t, rfl⟩
        · exact World.grownBy.refl _ _
        · exact grown_of_below (Lib.bytesWorld_below _ _ _)⟩
    generalize Lex.numVal d.data.toList = nv at hA hv
    clear ha
    obtain ⟨z, hz⟩ : ∃ z : Int, z = (nv : Int) := ⟨_, rfl⟩
    rw [← hz] at hA
    clear hz hv
    unfold tk0 at hA
    go_enter Tryz.func136, Tryz.ntmps136
    go_wp2_with (go_at_call 163; refine hA.mono ?_; rintro e w1 ⟨rfl, hg1⟩; refine Hid.out ?_)
    have h6 := Six.of hg1 (by simp)
    obtain ⟨⟨x0, c0⟩, ⟨x1, c1⟩, ⟨x2, c2⟩, ⟨x3, c3⟩, ⟨x4, c4⟩, ⟨x5, c5⟩⟩ := h6.c
    have f0 := h6.f 0
    have f1 := h6.f 1
    have f2 := h6.f 2
    have f3 := h6.f 3
    have f4 := h6.f 4
    have f5 := h6.f 5
    refine Lib.hid ?_
    go_wp2
    (try simp only [Exit.inBlock, Exit.then])
    refine bodyPost_ret (v := .tuple #[tkv 0 0 0, .int .i64 11]) ?_ rfl ?_
    · rw [results_cell_tmp rfl]
      unfold tkv
      go_simp
    · go_light
      have hg2 : w.grownBy w1 none := (World.grownBy_alloc w _ none).trans hg1
      refine ⟨rfl, ?_⟩
      repeat (first | with_reducible exact hg2 | with_reducible refine gset ?_ (.inl (Nat.le_refl _)) _)
  · rw [if_neg hv] at ha
    obtain ⟨tp, p, hcell⟩ := hl1
    have hA : Calls Tryz.prog 163 #[.string d] (w.alloc tk0) fun e w' => ∃ N, e = .returned (.tuple #[.int .i64 (Lib.atoiSat d.data.toList), .iface 246 (.pointer (some ⟨N, 0, none⟩))]) ∧ (w.alloc tk0).grownBy w' none :=
      (Tryz.strconv_Atoi_range d (by omega) ha _ _ hcell (.inr ⟨tp, p, rfl⟩)).mono fun e w' ⟨N, he, _, _, hb⟩ => ⟨N, he, grown_of_below hb⟩
    generalize Lib.atoiSat d.data.toList = z at hA
    clear ha hv hcell
    unfold tk0 at hA
    go_enter Tryz.func136, Tryz.ntmps136
    go_wp2_with (go_at_call 163; refine hA.mono ?_; rintro e w1 ⟨N, rfl, hg1⟩; refine Hid.out ?_)
    have h6 := Six.of hg1 (by simp)
    obtain ⟨⟨x0, c0⟩, ⟨x1, c1⟩, ⟨x2, c2⟩, ⟨x3, c3⟩, ⟨x4, c4⟩, ⟨x5, c5⟩⟩ := h6.c
    have f0 := h6.f 0
    have f1 := h6.f 1
    have f2 := h6.f 2
    have f3 := h6.f 3
    have f4 := h6.f 4
    have f5 := h6.f 5
    refine Lib.hid ?_
    go_wp2
    (try simp only [Exit.inBlock, Exit.then])
    refine bodyPost_ret (v := .tuple #[tkv 0 0 0, .int .i64 11]) ?_ rfl ?_
    · rw [results_cell_tmp rfl]
      unfold tkv
      go_simp
    · go_light
      have hg2 : w.grownBy w1 none := (World.grownBy_alloc w _ none).trans hg1
      refine ⟨rfl, ?_⟩
      repeat (first | with_reducible exact hg2 | with_reducible refine gset ?_ (.inl (Nat.le_refl _)) _)

end Go.Proofs.YtachmiajldeakaaGreatDoor

/- lex's numbers with a kind: the walk of numberOf. -/
namespace Go.Proofs.YtachmiajldeakaaGreatDoor
open Go.RowKit

set_option maxHeartbeats 1600000 in
theorem numberOf_ok (k : Int) (d : ByteArray) (hd : Lex.digits d.data.toList) (hne : d.data.toList ≠ []) (h9 : k ≤ 9) (hok : Lex.kindOk k d.data.toList = true) (w : World) :
    Calls Tryz.prog 137 #[.int .i64 k, .string d] w fun e w' => e = .returned (.tuple #[tkv 2 (Bv.wrp k (wrap64 (Lex.numVal d.data.toList))) k, .int .i64 0]) ∧ w.grownBy w' none := by
  have ha := Lex.parseUintB_digits d.data.toList hne hd
  have hlen : d.data.toList.length = d.size := by simp
  simp only [Lex.kindOk, Bool.and_eq_true, decide_eq_true_eq] at hok
  obtain ⟨h20, h2, htop⟩ := hok
  have ht : Lex.top k ≤ 18446744073709551615 := by unfold Lex.top; repeat' split
                                                   all_goals omega
  rw [if_pos (by omega)] at ha
  have hA : Calls Tryz.prog 164 #[.string d, .int .i64 10, .int .i64 64] (w.alloc tk0) fun e w' => e = .returned (.tuple #[.int .u64 (Lex.numVal d.data.toList), .nilIface]) ∧ (w.alloc tk0).grownBy w' none :=
    (Tryz.strconv_ParseUint_10_at64_ok d (by omega) _ ha _).mono fun e w' ⟨he, hw⟩ => ⟨he, by
      rcases hw with rfl | rfl
      · exact World.grownBy.refl _ _
      · exact grown_of_below (Lib.bytesWorld_below _ _ _)⟩
  obtain ⟨z, hz⟩ : ∃ z : Int, z = (Lex.numVal d.data.toList : Int) := ⟨_, rfl⟩
  rw [← hz] at hA
  have HZ : Hid (z = (Lex.numVal d.data.toList : Int)) := hz
  clear hz ha
  unfold tk0 at hA
  rw [← HZ.out]
  rw [← HZ.out] at htop
  have h20' : decide ((20 : Int) < (d.size : Int)) = false := by rw [decide_eq_false_iff_not]; omega
  have h2' : decide (k < 2) = false := by rw [decide_eq_false_iff_not]; omega
  have ht' : decide (Lex.top k < z) = false := by rw [decide_eq_false_iff_not]; omega
  have hG := fun wx => greatest_any k h2 h9 wx
  have hz0 : 0 ≤ z := by rw [HZ.out]; omega
  have hzm : z ≤ 18446744073709551615 := by omega
  clear htop ht
  go_enter Tryz.func137, Tryz.ntmps137
  go_wp2_with (go_at_call 164; refine hA.mono ?_; rintro e w1 ⟨rfl, hg1⟩; refine Hid.out ?_)
  have h6 := Six.of hg1 (by simp)
  obtain ⟨⟨x0, c0⟩, ⟨x1, c1⟩, ⟨x2, c2⟩, ⟨x3, c3⟩, ⟨x4, c4⟩, ⟨x5, c5⟩⟩ := h6.c
  have f0 := h6.f 0
  have f1 := h6.f 1
  have f2 := h6.f 2
  have f3 := h6.f 3
  have f4 := h6.f 4
  have f5 := h6.f 5
  refine Lib.hid ?_
  go_wp2_with (first | (go_at_call 165; refine (hG _).mono ?_; rintro e w' ⟨rfl, rfl⟩) | (go_at_call 166; refine (wrap_any _ _ _).mono ?_; rintro e w' ⟨rfl, rfl⟩))
  (try simp only [Exit.inBlock, Exit.then])
  refine bodyPost_ret (v := .tuple #[tkv 2 (Bv.wrp k (wrap64 z)) k, .int .i64 0]) ?_ rfl ?_
  · rw [results_cell_tmp rfl]
    unfold tkv
    go_simp
  · go_light
    have hg2 := (World.grownBy_alloc w _ none).trans hg1
    refine ⟨rfl, ?_⟩
    repeat (first | with_reducible exact hg2 | with_reducible refine gset ?_ (.inl (Nat.le_refl _)) _)

set_option maxHeartbeats 1600000 in
theorem numberOf_bad (k : Int) (d : ByteArray) (hd : Lex.digits d.data.toList) (hne : d.data.toList ≠ []) (h9 : k ≤ 9) (hsz : d.size ≤ 65536) (hok : Lex.kindOk k d.data.toList = false) (w : World) (hl : LaidR w) :
    Calls Tryz.prog 137 #[.int .i64 k, .string d] w fun e w' => e = .returned (.tuple #[tkv 0 0 0, .int .i64 11]) ∧ w.grownBy w' none := by
  have ha := Lex.parseUintB_digits d.data.toList hne hd
  have hlen : d.data.toList.length = d.size := by simp
  have hl1 := hl.on (World.grownBy_alloc w tk0 none) (by simp)
  have hok2 : ¬ (d.size ≤ 20 ∧ 2 ≤ k ∧ (Lex.numVal d.data.toList : Int) ≤ Lex.top k) := by
    intro hh
    rw [Lex.kindOk, hlen, decide_eq_true hh.1, decide_eq_true hh.2.1, decide_eq_true hh.2.2] at hok
    cases hok
  clear hok
  by_cases hv : Lex.numVal d.data.toList ≤ 18446744073709551615
  · rw [if_pos hv] at ha
    have hA : Calls Tryz.prog 164 #[.string d, .int .i64 10, .int .i64 64] (w.alloc tk0) fun e w' => e = .returned (.tuple #[.int .u64 (Lex.numVal d.data.toList), .nilIface]) ∧ (w.alloc tk0).grownBy w' none :=
      (Tryz.strconv_ParseUint_10_at64_ok d (by omega) _ ha _).mono fun e w' ⟨he, hw⟩ => ⟨he, by
        rcases hw with rfl | rfl
        · exact World.grownBy.refl _ _
        · exact grown_of_below (Lib.bytesWorld_below _ _ _)⟩
    obtain ⟨z, hz⟩ : ∃ z : Int, z = (Lex.numVal d.data.toList : Int) := ⟨_, rfl⟩
    rw [← hz] at hA
    have HZ : Hid (z = (Lex.numVal d.data.toList : Int)) := hz
    clear hz ha
    unfold tk0 at hA
    by_cases h20 : d.size ≤ 20
    · have h20' : decide ((20 : Int) < (d.size : Int)) = false := by rw [decide_eq_false_iff_not]; omega
      by_cases h2 : 2 ≤ k
      · have h2' : decide (k < 2) = false := by rw [decide_eq_false_iff_not]; omega
        have ht' : decide (Lex.top k < z) = true := by rw [decide_eq_true_iff, HZ.out]; omega
        have hG := fun wx => greatest_any k h2 h9 wx
        clear hok2
        go_enter Tryz.func137, Tryz.ntmps137
        go_wp2_with (go_at_call 164; refine hA.mono ?_; rintro e w1 ⟨rfl, hg1⟩; refine Hid.out ?_)
        have h6 := Six.of hg1 (by simp)
        obtain ⟨⟨x0, c0⟩, ⟨x1, c1⟩, ⟨x2, c2⟩, ⟨x3, c3⟩, ⟨x4, c4⟩, ⟨x5, c5⟩⟩ := h6.c
        have f0 := h6.f 0
        have f1 := h6.f 1
        have f2 := h6.f 2
        have f3 := h6.f 3
        have f4 := h6.f 4
        have f5 := h6.f 5
        refine Lib.hid ?_
        go_wp2_with (first | (go_at_call 165; refine (hG _).mono ?_; rintro e w' ⟨rfl, rfl⟩) | (go_at_call 166; refine (wrap_any _ _ _).mono ?_; rintro e w' ⟨rfl, rfl⟩))
        (try simp only [Exit.inBlock, Exit.then])
        refine bodyPost_ret (v := .tuple #[tkv 0 0 0, .int .i64 11]) ?_ rfl ?_
        · rw [results_cell_tmp rfl]
          unfold tkv
          go_simp
        · go_light
          have hg2 := (World.grownBy_alloc w _ none).trans hg1
          refine ⟨rfl, ?_⟩
          repeat (first | with_reducible exact hg2 | with_reducible refine gset ?_ (.inl (Nat.le_refl _)) _)
      · have h2' : decide (k < 2) = true := by rw [decide_eq_true_iff]; omega
        clear hok2
        go_enter Tryz.func137, Tryz.ntmps137
        go_wp2_with (go_at_call 164; refine hA.mono ?_; rintro e w1 ⟨rfl, hg1⟩; refine Hid.out ?_)
        have h6 := Six.of hg1 (by simp)
        obtain ⟨⟨x0, c0⟩, ⟨x1, c1⟩, ⟨x2, c2⟩, ⟨x3, c3⟩, ⟨x4, c4⟩, ⟨x5, c5⟩⟩ := h6.c
        have f0 := h6.f 0
        have f1 := h6.f 1
        have f2 := h6.f 2
        have f3 := h6.f 3
        have f4 := h6.f 4
        have f5 := h6.f 5
        refine Lib.hid ?_
        go_wp2
        (try simp only [Exit.inBlock, Exit.then])
        refine bodyPost_ret (v := .tuple #[tkv 0 0 0, .int .i64 11]) ?_ rfl ?_
        · rw [results_cell_tmp rfl]
          unfold tkv
          go_simp
        · go_light
          have hg2 := (World.grownBy_alloc w _ none).trans hg1
          refine ⟨rfl, ?_⟩
          repeat (first | with_reducible exact hg2 | with_reducible refine gset ?_ (.inl (Nat.le_refl _)) _)
    · have h20' : decide ((20 : Int) < (d.size : Int)) = true := by rw [decide_eq_true_iff]; omega
      clear hok2
      go_enter Tryz.func137, Tryz.ntmps137
      go_wp2_with (go_at_call 164; refine hA.mono ?_; rintro e w1 ⟨rfl, hg1⟩; refine Hid.out ?_)
      have h6 := Six.of hg1 (by simp)
      obtain ⟨⟨x0, c0⟩, ⟨x1, c1⟩, ⟨x2, c2⟩, ⟨x3, c3⟩, ⟨x4, c4⟩, ⟨x5, c5⟩⟩ := h6.c
      have f0 := h6.f 0
      have f1 := h6.f 1
      have f2 := h6.f 2
      have f3 := h6.f 3
      have f4 := h6.f 4
      have f5 := h6.f 5
      refine Lib.hid ?_
      go_wp2
      (try simp only [Exit.inBlock, Exit.then])
      refine bodyPost_ret (v := .tuple #[tkv 0 0 0, .int .i64 11]) ?_ rfl ?_
      · rw [results_cell_tmp rfl]
        unfold tkv
        go_simp
      · go_light
        have hg2 := (World.grownBy_alloc w _ none).trans hg1
        refine ⟨rfl, ?_⟩
        repeat (first | with_reducible exact hg2 | with_reducible refine gset ?_ (.inl (Nat.le_refl _)) _)
  · rw [if_neg hv] at ha
    obtain ⟨tp, p, hcell⟩ := hl1
    have hA : Calls Tryz.prog 164 #[.string d, .int .i64 10, .int .i64 64] (w.alloc tk0) fun e w' => ∃ N, e = .returned (.tuple #[.int .u64 18446744073709551615, .iface 246 (.pointer (some ⟨N, 0, none⟩))]) ∧ (w.alloc tk0).grownBy w' none :=
      (Tryz.strconv_ParseUint_10_at64_range d (by omega) ha _ _ hcell (.inr ⟨tp, p, rfl⟩)).mono fun e w' ⟨N, he, _, _, hb⟩ => ⟨N, he, grown_of_below hb⟩
    clear ha hv hcell hok2
    unfold tk0 at hA
    go_enter Tryz.func137, Tryz.ntmps137
    go_wp2_with (go_at_call 164; refine hA.mono ?_; rintro e w1 ⟨N, rfl, hg1⟩; refine Hid.out ?_)
    have h6 := Six.of hg1 (by simp)
    obtain ⟨⟨x0, c0⟩, ⟨x1, c1⟩, ⟨x2, c2⟩, ⟨x3, c3⟩, ⟨x4, c4⟩, ⟨x5, c5⟩⟩ := h6.c
    have f0 := h6.f 0
    have f1 := h6.f 1
    have f2 := h6.f 2
    have f3 := h6.f 3
    have f4 := h6.f 4
    have f5 := h6.f 5
    refine Lib.hid ?_
    go_wp2
    (try simp only [Exit.inBlock, Exit.then])
    refine bodyPost_ret (v := .tuple #[tkv 0 0 0, .int .i64 11]) ?_ rfl ?_
    · rw [results_cell_tmp rfl]
      unfold tkv
      go_simp
    · go_light
      have hg2 := (World.grownBy_alloc w _ none).trans hg1
      refine ⟨rfl, ?_⟩
      repeat (first | with_reducible exact hg2 | with_reducible refine gset ?_ (.inl (Nat.le_refl _)) _)

end Go.Proofs.YtachmiajldeakaaGreatDoor

/- lex's reader, on: the walks of its methods name and number. -/
namespace Go.Proofs.YtachmiajldeakaaGreatDoor
open Go.RowKit Go.Maps Go.WideMaps

theorem ext_list (s : ByteArray) (i j : Nat) : (s.extract i (i + j)).data.toList = (s.data.toList.drop i).take j := by
  simp [ByteArray.data_extract]
theorem ext_size (s : ByteArray) (i j : Nat) (h : i + j ≤ s.size) : (s.extract i (i + j)).size = j := by
  rw [ByteArray.size_extract]; omega
theorem spn_take (p : UInt8 → Bool) : ∀ l : List UInt8, l.take (Lex.spn p l) = l.takeWhile p
  | [] => rfl
  | c :: r => by
    unfold Lex.spn
    rw [List.takeWhile_cons]
    split
    · rw [List.length_cons, List.take_succ_cons]
      have := spn_take p r
      unfold Lex.spn at this
      rw [this]
    · rfl
theorem kindOf_le (l : List UInt8) : Lex.kindOf l ≤ 9 := by
  have h : ∀ p ∈ Lex.tbl, p.2 ≤ 9 := by decide
  unfold Lex.kindOf Lex.look
  cases e : Lex.tbl.find? (fun p => p.1 == l) with
  | none => simp
  | some p => simpa using h p (List.mem_of_find?_eq_some e)
theorem zeroInt (w : World) : (zeroValue 3).run Tryz.prog w = .ok (.int .i64 0) w := by kernel_rfl

set_option maxHeartbeats 1600000 in
theorem name_any (b : Nat) (s : ByteArray) (i m : Nat) (hs : s.size ≤ 65536) (hi : i ≤ s.size) (hbm : m ≠ b) (w : World) (h : Rd w b s i m) (hW : WMap w m) :
    Calls Tryz.prog 107 #[.pointer (some ⟨b, 0, none⟩)] w fun e w' => rdPost b s i m w (Lex.nameTok (s.data.toList.drop i)) e w' := by
  have hR1 : Rd (w.alloc tk0) b s i m := h.alloc _
  have hT := take_any 106 Lex.word enterWord lexWord_any b s i m hs hi _ hR1
  have hle := Lex.spn_le Lex.word (s.data.toList.drop i)
  rw [List.length_drop] at hle
  have hsz : s.data.toList.length = s.size := by simp
  have ht : Lex.nameTok (s.data.toList.drop i) = if (Lex.look ((s.data.toList.drop i).take (Lex.spn Lex.word (s.data.toList.drop i)))).isSome then .tok 3 0 0 (Lex.spn Lex.word (s.data.toList.drop i)) else if 40 < Lex.spn Lex.word (s.data.toList.drop i) then .bad 2 else .tok 1 0 0 (Lex.spn Lex.word (s.data.toList.drop i)) := rfl
  rw [ht]
  clear ht
  generalize Lex.spn Lex.word (s.data.toList.drop i) = k at hT hle
  have hes := ext_size s i k (by omega)
  rw [← ext_list s i k]
  generalize s.extract i (i + k) = x at hT hes
  have hW1 : WMap (w.alloc tk0) m := hW.kept (World.grownBy_alloc w tk0 none) (by simp)
  have hhas := words_has x.data.toList
  have hkl := keyOf_string_mk (P := Tryz.prog) (k := 9) Tryz.underlying9 (s := x) (by unfold maxLen; omega)
  unfold tk0 at hT hW1
  have hbw := h.lt
  rcases Bool.eq_false_or_eq_true (Lex.look x.data.toList).isSome with hk | hk
  · rw [hk] at hhas ⊢
    rw [if_pos rfl]
    clear hk
    go_enter Tryz.func107, Tryz.ntmps107
    go_wp2_with (go_at_call 101; refine hT.mono ?_; rintro e w1 ⟨rfl, hR2, hg1⟩; refine Hid.out ?_)
    have h6 := Six.of hg1 (fun e => by have := Option.some.inj e; omega)
    obtain ⟨⟨x0, c0⟩, ⟨x1, c1⟩, ⟨x2, c2⟩, ⟨x3, c3⟩, ⟨x4, c4⟩, ⟨x5, c5⟩⟩ := h6.c
    have f0 := h6.f 0
    have f1 := h6.f 1
    have f2 := h6.f 2
    have f3 := h6.f 3
    have f4 := h6.f 4
    have f5 := h6.f 5
    have r2 := hR2.c2
    obtain ⟨n1, hown⟩ := hW1.kept hg1 (fun e => hbm (Option.some.inj e))
    refine Lib.hid ?_
    go_wp2_with (at_lookup; refine wpList_lookup_own_ok_int _ rfl _ _ 79 rfl 9 3 .i64 lawK Tryz.underlying79 Tryz.underlying3 (zeroInt _) m n1 wordsD rfl hown _ _ rfl hkl ?_; intro c _ _; rw [hhas])
    (try simp only [Exit.inBlock, Exit.then])
    refine bodyPost_ret (v := .tuple #[tkv 3 0 0, .int .i64 0]) ?_ rfl ?_
    · rw [results_cell_tmp rfl]
      unfold tkv
      go_simp
    · go_light
      have hg2 := (World.grownBy_alloc w _ _).trans hg1
      refine ⟨⟨rfl, by omega, ?_⟩, ?_⟩
      · repeat (first | with_reducible exact hR2 | with_reducible refine Rd.other ?_ (by show ¬ b = w.heap.size; omega) _)
      · repeat (first | with_reducible exact hg2 | with_reducible refine gset ?_ (.inl (Nat.le_refl _)) _)
  · rw [hk] at hhas ⊢
    rw [if_neg (by decide)]
    clear hk
    by_cases h40 : 40 < k
    · rw [if_pos h40]
      have h40' : decide ((40 : Int) < (x.size : Int)) = true := by rw [decide_eq_true_iff]; omega
      clear hes
      go_enter Tryz.func107, Tryz.ntmps107
      go_wp2_with (go_at_call 101; refine hT.mono ?_; rintro e w1 ⟨rfl, hR2, hg1⟩; refine Hid.out ?_)
      have h6 := Six.of hg1 (fun e => by have := Option.some.inj e; omega)
      obtain ⟨⟨x0, c0⟩, ⟨x1, c1⟩, ⟨x2, c2⟩, ⟨x3, c3⟩, ⟨x4, c4⟩, ⟨x5, c5⟩⟩ := h6.c
      have f0 := h6.f 0
      have f1 := h6.f 1
      have f2 := h6.f 2
      have f3 := h6.f 3
      have f4 := h6.f 4
      have f5 := h6.f 5
      have r2 := hR2.c2
      obtain ⟨n1, hown⟩ := hW1.kept hg1 (fun e => hbm (Option.some.inj e))
      refine Lib.hid ?_
      go_wp2_with (at_lookup; refine wpList_lookup_own_ok_int _ rfl _ _ 79 rfl 9 3 .i64 lawK Tryz.underlying79 Tryz.underlying3 (zeroInt _) m n1 wordsD rfl hown _ _ rfl hkl ?_; intro c _ _; rw [hhas])
      (try simp only [Exit.inBlock, Exit.then])
      refine bodyPost_ret (v := .tuple #[tkv 0 0 0, .int .i64 2]) ?_ rfl ?_
      · rw [results_cell_tmp rfl]
        unfold tkv
        go_simp
      · go_light
        have hg2 := (World.grownBy_alloc w _ _).trans hg1
        refine ⟨⟨rfl, by decide, i + k, by omega, ?_⟩, ?_⟩
        · repeat (first | with_reducible exact hR2 | with_reducible refine Rd.other ?_ (by show ¬ b = w.heap.size; omega) _)
        · repeat (first | with_reducible exact hg2 | with_reducible refine gset ?_ (.inl (Nat.le_refl _)) _)
    · rw [if_neg h40]
      have h40' : decide ((40 : Int) < (x.size : Int)) = false := by rw [decide_eq_false_iff_not]; omega
      clear hes
      go_enter Tryz.func107, Tryz.ntmps107
      go_wp2_with (go_at_call 101; refine hT.mono ?_; rintro e w1 ⟨rfl, hR2, hg1⟩; refine Hid.out ?_)
      have h6 := Six.of hg1 (fun e => by have := Option.some.inj e; omega)
      obtain ⟨⟨x0, c0⟩, ⟨x1, c1⟩, ⟨x2, c2⟩, ⟨x3, c3⟩, ⟨x4, c4⟩, ⟨x5, c5⟩⟩ := h6.c
      have f0 := h6.f 0
      have f1 := h6.f 1
      have f2 := h6.f 2
      have f3 := h6.f 3
      have f4 := h6.f 4
      have f5 := h6.f 5
      have r2 := hR2.c2
      obtain ⟨n1, hown⟩ := hW1.kept hg1 (fun e => hbm (Option.some.inj e))
      refine Lib.hid ?_
      go_wp2_with (at_lookup; refine wpList_lookup_own_ok_int _ rfl _ _ 79 rfl 9 3 .i64 lawK Tryz.underlying79 Tryz.underlying3 (zeroInt _) m n1 wordsD rfl hown _ _ rfl hkl ?_; intro c _ _; rw [hhas])
      (try simp only [Exit.inBlock, Exit.then])
      refine bodyPost_ret (v := .tuple #[tkv 1 0 0, .int .i64 0]) ?_ rfl ?_
      · rw [results_cell_tmp rfl]
        unfold tkv
        go_simp
      · go_light
        have hg2 := (World.grownBy_alloc w _ _).trans hg1
        refine ⟨⟨rfl, by omega, ?_⟩, ?_⟩
        · repeat (first | with_reducible exact hR2 | with_reducible refine Rd.other ?_ (by show ¬ b = w.heap.size; omega) _)
        · repeat (first | with_reducible exact hg2 | with_reducible refine gset ?_ (.inl (Nat.le_refl _)) _)

end Go.Proofs.YtachmiajldeakaaGreatDoor

/- lex's reader, on: the walk of its method number. -/
namespace Go.Proofs.YtachmiajldeakaaGreatDoor
open Go.RowKit Go.Maps Go.WideMaps

theorem lit_inj {a c : Int} (h : (DataW.lit (.int .i64 c) : DataW Unit) = .lit (.int .i64 a)) : c = a := by
  injection h with h; injection h

theorem digits_take (l : List UInt8) : Lex.digits (l.take (Lex.spn Lex.digit l)) := by
  rw [spn_take]
  intro c hc
  have := List.all_takeWhile (p := Lex.digit) (l := l)
  rw [List.all_eq_true] at this
  exact (digit_iff c).1 (this c hc)

set_option maxHeartbeats 3200000 in
theorem number_any (b : Nat) (s : ByteArray) (i m : Nat) (hs : s.size ≤ 65536) (hi : i < s.size) (hdg : Lex.digit (s.data.toList[i]'(by simpa using hi)) = true) (hbm : m ≠ b) (hb1 : b ≠ 4) (w : World) (h : Rd w b s i m) (hW : WMap w m) (hl : LaidR w) :
    Calls Tryz.prog 105 #[.pointer (some ⟨b, 0, none⟩)] w fun e w' => rdPost b s i m w (Lex.numTok (s.data.toList.drop i)) e w' := by
  have hR1 : Rd (w.alloc tk0) b s i m := h.alloc _
  have hsz : s.data.toList.length = s.size := by simp
  have hT := take_any 104 Lex.digit enterDigit lexDigit_any b s i m hs (by omega) _ hR1
  have hle := Lex.spn_le Lex.digit (s.data.toList.drop i)
  rw [List.length_drop] at hle
  have hpos : 0 < Lex.spn Lex.digit (s.data.toList.drop i) := by
    rw [Lex.spn_step (by simpa using hi) hdg]; omega
  have hdig := digits_take (s.data.toList.drop i)
  have ht : Lex.numTok (s.data.toList.drop i) =
      if Lex.spn Lex.word ((s.data.toList.drop i).drop (Lex.spn Lex.digit (s.data.toList.drop i))) = 0 then (if Lex.plainOk ((s.data.toList.drop i).take (Lex.spn Lex.digit (s.data.toList.drop i))) then .tok 2 (Lex.numVal ((s.data.toList.drop i).take (Lex.spn Lex.digit (s.data.toList.drop i)))) 0 (Lex.spn Lex.digit (s.data.toList.drop i)) else .bad 11)
      else if Lex.kindOk (Lex.kindOf (((s.data.toList.drop i).drop (Lex.spn Lex.digit (s.data.toList.drop i))).take (Lex.spn Lex.word ((s.data.toList.drop i).drop (Lex.spn Lex.digit (s.data.toList.drop i)))))) ((s.data.toList.drop i).take (Lex.spn Lex.digit (s.data.toList.drop i))) then .tok 2 (Bv.wrp (Lex.kindOf (((s.data.toList.drop i).drop (Lex.spn Lex.digit (s.data.toList.drop i))).take (Lex.spn Lex.word ((s.data.toList.drop i).drop (Lex.spn Lex.digit (s.data.toList.drop i)))))) (wrap64 (Lex.numVal ((s.data.toList.drop i).take (Lex.spn Lex.digit (s.data.toList.drop i)))))) (Lex.kindOf (((s.data.toList.drop i).drop (Lex.spn Lex.digit (s.data.toList.drop i))).take (Lex.spn Lex.word ((s.data.toList.drop i).drop (Lex.spn Lex.digit (s.data.toList.drop i)))))) (Lex.spn Lex.digit (s.data.toList.drop i) + Lex.spn Lex.word ((s.data.toList.drop i).drop (Lex.spn Lex.digit (s.data.toList.drop i)))) else .bad 11 := rfl
  rw [ht]
  clear ht
  generalize Lex.spn Lex.digit (s.data.toList.drop i) = k at hT hle hpos hdig
  rw [List.drop_drop]
  have hT2 := fun wx hx => take_any 106 Lex.word enterWord lexWord_any b s (i + k) m hs (by omega) wx hx
  have hle2 := Lex.spn_le Lex.word (s.data.toList.drop (i + k))
  rw [List.length_drop] at hle2
  generalize Lex.spn Lex.word (s.data.toList.drop (i + k)) = k2 at hT2 hle2
  have hes := ext_size s i k (by omega)
  have hes2 := ext_size s (i + k) k2 (by omega)
  rw [← ext_list s i k] at hdig ⊢
  rw [← ext_list s (i + k) k2]
  generalize s.extract i (i + k) = d at hT hes hdig
  generalize s.extract (i + k) (i + k + k2) = x at hT2 hes2
  have hne : d.data.toList ≠ [] := by
    intro hh
    have : d.data.toList.length = 0 := by rw [hh]; rfl
    have h2 : d.data.toList.length = d.size := by simp
    omega
  have hW1 : WMap (w.alloc tk0) m := hW.kept (World.grownBy_alloc w tk0 none) (by simp)
  have hl1 : LaidR (w.alloc tk0) := hl.on (World.grownBy_alloc w tk0 none) (by simp)
  have hwat := words_at x.data.toList
  have hkl := keyOf_string_mk (P := Tryz.prog) (k := 9) Tryz.underlying9 (s := x) (by unfold maxLen; omega)
  have hk9 := kindOf_le x.data.toList
  unfold tk0 at hT hW1 hl1
  have hbw := h.lt
  have hlen : d.data.toList.length = d.size := by simp
  by_cases h0 : k2 = 0
  · rw [if_pos h0]
    have hE : x.toList.isEmpty = true := by
      have h3 : x.toList.length = x.size := by rw [ByteArray.toList_eq]; simp
      have : x.toList.length = 0 := by omega
      rw [List.isEmpty_iff]; exact List.eq_nil_of_length_eq_zero this
    subst h0
    by_cases hp : d.size ≤ 9
    · rw [if_pos (by rw [Lex.plainOk, decide_eq_true_iff, hlen]; exact hp)]
      have hP : ∀ wx, LaidR wx → _ := fun wx (_ : LaidR wx) => plainNumber_ok d hdig hne hp wx
      unfold tkv at hP
      generalize (Lex.numVal d.data.toList : Int) = nv at hP
      clear hwat hkl hdig hne hes hes2
      go_enter Tryz.func105, Tryz.ntmps105
      go_wp2_with (go_at_call 101; refine hT.mono ?_; rintro e w1 ⟨rfl, hR2, hg1⟩; refine Hid.out ?_)
      have hT2 := hT2 w1 hR2
      refine Lib.hid ?_
      go_wp2_with (go_at_call 101; refine hT2.mono ?_; rintro e w2 ⟨rfl, hR3, hg2⟩; refine Hid.out ?_)
      have hg12 := hg1.trans hg2
      have hl2 := hl1.on hg12 (fun e => hb1 (Option.some.inj e))
      have hP := hP w2 hl2
      refine Lib.hid ?_
      go_wp2_with (go_at_call 136; refine hP.mono ?_; rintro e w3 ⟨rfl, hg23⟩; refine Hid.out ?_)
      have hR4 := hR3.kept hg23 (by simp)
      have hg3 := hg12.trans (hg23.but _)
      have h6 := Six.of hg3 (fun e => by have := Option.some.inj e; omega)
      obtain ⟨⟨x0, c0⟩, ⟨x1, c1⟩, ⟨x2, c2⟩, ⟨x3, c3⟩, ⟨x4, c4⟩, ⟨x5, c5⟩⟩ := h6.c
      have f0 := h6.f 0
      have f1 := h6.f 1
      have f2 := h6.f 2
      have f3 := h6.f 3
      have f4 := h6.f 4
      have f5 := h6.f 5
      refine Lib.hid ?_
      go_wp2
      (try simp only [Exit.inBlock, Exit.then])
      refine bodyPost_ret (v := .tuple #[tkv 2 nv 0, .int .i64 0]) ?_ rfl ?_
      · rw [results_cell_tmp rfl]
        unfold tkv
        go_simp
      · go_light
        have hR4' : Rd _ b s (i + k) m := hR4
        have hg4 := (World.grownBy_alloc w _ _).trans hg3
        refine ⟨⟨rfl, by omega, ?_⟩, ?_⟩
        · repeat (first | with_reducible exact hR4' | with_reducible refine Rd.other ?_ (by show ¬ b = w.heap.size; omega) _)
        · repeat (first | with_reducible exact hg4 | with_reducible refine gset ?_ (.inl (Nat.le_refl _)) _)
    · rw [if_neg (by rw [Lex.plainOk, decide_eq_true_iff, hlen]; exact hp)]
      have hP := fun wx hx => plainNumber_bad d hdig hne (by omega) (by omega) wx hx
      unfold tkv at hP
      clear hwat hkl hdig hne hes hes2
      go_enter Tryz.func105, Tryz.ntmps105
      go_wp2_with (go_at_call 101; refine hT.mono ?_; rintro e w1 ⟨rfl, hR2, hg1⟩; refine Hid.out ?_)
      have hT2 := hT2 w1 hR2
      refine Lib.hid ?_
      go_wp2_with (go_at_call 101; refine hT2.mono ?_; rintro e w2 ⟨rfl, hR3, hg2⟩; refine Hid.out ?_)
      have hg12 := hg1.trans hg2
      have hl2 := hl1.on hg12 (fun e => hb1 (Option.some.inj e))
      have hP := hP w2 hl2
      refine Lib.hid ?_
      go_wp2_with (go_at_call 136; refine hP.mono ?_; rintro e w3 ⟨rfl, hg23⟩; refine Hid.out ?_)
      have hR4 := hR3.kept hg23 (by simp)
      have hg3 := hg12.trans (hg23.but _)
      have h6 := Six.of hg3 (fun e => by have := Option.some.inj e; omega)
      obtain ⟨⟨x0, c0⟩, ⟨x1, c1⟩, ⟨x2, c2⟩, ⟨x3, c3⟩, ⟨x4, c4⟩, ⟨x5, c5⟩⟩ := h6.c
      have f0 := h6.f 0
      have f1 := h6.f 1
      have f2 := h6.f 2
      have f3 := h6.f 3
      have f4 := h6.f 4
      have f5 := h6.f 5
      refine Lib.hid ?_
      go_wp2
      (try simp only [Exit.inBlock, Exit.then])
      refine bodyPost_ret (v := .tuple #[tkv 0 0 0, .int .i64 11]) ?_ rfl ?_
      · rw [results_cell_tmp rfl]
        unfold tkv
        go_simp
      · go_light
        have hR4' : Rd _ b s (i + k) m := hR4
        have hg4 := (World.grownBy_alloc w _ _).trans hg3
        refine ⟨⟨rfl, by decide, i + k, by omega, ?_⟩, ?_⟩
        · repeat (first | with_reducible exact hR4' | with_reducible refine Rd.other ?_ (by show ¬ b = w.heap.size; omega) _)
        · repeat (first | with_reducible exact hg4 | with_reducible refine gset ?_ (.inl (Nat.le_refl _)) _)
  · rw [if_neg h0]
    have hE : x.toList.isEmpty = false := by
      have h3 : x.toList.length = x.size := by rw [ByteArray.toList_eq]; simp
      have : ¬ x.toList.length = 0 := by omega
      rw [List.isEmpty_eq_false_iff]; intro hh; rw [hh] at this; exact this rfl
    obtain ⟨kd, hkd⟩ : ∃ kd, kd = Lex.kindOf x.data.toList := ⟨_, rfl⟩
    rw [← hkd] at hwat hk9 ⊢
    clear hkd
    rcases Bool.eq_false_or_eq_true (Lex.kindOk kd d.data.toList) with hp | hp
    · rw [if_pos hp]
      have hP : ∀ wx, LaidR wx → _ := fun wx (_ : LaidR wx) => numberOf_ok kd d hdig hne hk9 hp wx
      unfold tkv at hP
      generalize Bv.wrp kd (wrap64 (Lex.numVal d.data.toList)) = nv at hP
      clear hdig hne hes hes2 hp
      go_enter Tryz.func105, Tryz.ntmps105
      go_wp2_with (go_at_call 101; refine hT.mono ?_; rintro e w1 ⟨rfl, hR2, hg1⟩; refine Hid.out ?_)
      have hT2 := hT2 w1 hR2
      refine Lib.hid ?_
      go_wp2_with (go_at_call 101; refine hT2.mono ?_; rintro e w2 ⟨rfl, hR3, hg2⟩; refine Hid.out ?_)
      have hg12 := hg1.trans hg2
      have hl2 := hl1.on hg12 (fun e => hb1 (Option.some.inj e))
      have r2 := hR3.c2
      obtain ⟨n1, hown⟩ := hW1.kept hg12 (fun e => hbm (Option.some.inj e))
      have hP := hP w2 hl2
      refine Lib.hid ?_
      go_wp2_with (first | (at_lookup; refine wpList_lookup_own_int _ rfl _ _ 79 rfl 9 3 .i64 lawK Tryz.underlying79 Tryz.underlying3 (zeroInt _) m n1 wordsD rfl hown _ _ rfl hkl ?_; intro c hat _; rw [show c = kd from lit_inj (hat.symm.trans hwat)]) | (go_at_call 137; refine hP.mono ?_; rintro e w3 ⟨rfl, hg23⟩; refine Hid.out ?_))
      have hR4 := hR3.kept hg23 (by simp)
      have hg3 := hg12.trans (hg23.but _)
      have h6 := Six.of hg3 (fun e => by have := Option.some.inj e; omega)
      obtain ⟨⟨x0, c0⟩, ⟨x1, c1⟩, ⟨x2, c2⟩, ⟨x3, c3⟩, ⟨x4, c4⟩, ⟨x5, c5⟩⟩ := h6.c
      have f0 := h6.f 0
      have f1 := h6.f 1
      have f2 := h6.f 2
      have f3 := h6.f 3
      have f4 := h6.f 4
      have f5 := h6.f 5
      refine Lib.hid ?_
      go_wp2
      (try simp only [Exit.inBlock, Exit.then])
      refine bodyPost_ret (v := .tuple #[tkv 2 nv kd, .int .i64 0]) ?_ rfl ?_
      · rw [results_cell_tmp rfl]
        unfold tkv
        go_simp
      · go_light
        have hR4' := hR4
        rw [Nat.add_assoc] at hR4'
        have hg4 := (World.grownBy_alloc w _ _).trans hg3
        refine ⟨⟨rfl, by omega, ?_⟩, ?_⟩
        · repeat (first | with_reducible exact hR4' | with_reducible refine Rd.other ?_ (by show ¬ b = w.heap.size; omega) _)
        · repeat (first | with_reducible exact hg4 | with_reducible refine gset ?_ (.inl (Nat.le_refl _)) _)
    · rw [if_neg (by rw [hp]; decide)]
      have hP := fun wx hx => numberOf_bad kd d hdig hne hk9 (by omega) hp wx hx
      unfold tkv at hP
      clear hdig hne hes hes2 hp
      go_enter Tryz.func105, Tryz.ntmps105
      go_wp2_with (go_at_call 101; refine hT.mono ?_; rintro e w1 ⟨rfl, hR2, hg1⟩; refine Hid.out ?_)
      have hT2 := hT2 w1 hR2
      refine Lib.hid ?_
      go_wp2_with (go_at_call 101; refine hT2.mono ?_; rintro e w2 ⟨rfl, hR3, hg2⟩; refine Hid.out ?_)
      have hg12 := hg1.trans hg2
      have hl2 := hl1.on hg12 (fun e => hb1 (Option.some.inj e))
      have r2 := hR3.c2
      obtain ⟨n1, hown⟩ := hW1.kept hg12 (fun e => hbm (Option.some.inj e))
      have hP := hP w2 hl2
      refine Lib.hid ?_
      go_wp2_with (first | (at_lookup; refine wpList_lookup_own_int _ rfl _ _ 79 rfl 9 3 .i64 lawK Tryz.underlying79 Tryz.underlying3 (zeroInt _) m n1 wordsD rfl hown _ _ rfl hkl ?_; intro c hat _; rw [show c = kd from lit_inj (hat.symm.trans hwat)]) | (go_at_call 137; refine hP.mono ?_; rintro e w3 ⟨rfl, hg23⟩; refine Hid.out ?_))
      have hR4 := hR3.kept hg23 (by simp)
      have hg3 := hg12.trans (hg23.but _)
      have h6 := Six.of hg3 (fun e => by have := Option.some.inj e; omega)
      obtain ⟨⟨x0, c0⟩, ⟨x1, c1⟩, ⟨x2, c2⟩, ⟨x3, c3⟩, ⟨x4, c4⟩, ⟨x5, c5⟩⟩ := h6.c
      have f0 := h6.f 0
      have f1 := h6.f 1
      have f2 := h6.f 2
      have f3 := h6.f 3
      have f4 := h6.f 4
      have f5 := h6.f 5
      refine Lib.hid ?_
      go_wp2
      (try simp only [Exit.inBlock, Exit.then])
      refine bodyPost_ret (v := .tuple #[tkv 0 0 0, .int .i64 11]) ?_ rfl ?_
      · rw [results_cell_tmp rfl]
        unfold tkv
        go_simp
      · go_light
        have hg4 := (World.grownBy_alloc w _ _).trans hg3
        refine ⟨⟨rfl, by decide, i + k + k2, by omega, ?_⟩, ?_⟩
        · repeat (first | with_reducible exact hR4 | with_reducible refine Rd.other ?_ (by show ¬ b = w.heap.size; omega) _)
        · repeat (first | with_reducible exact hg4 | with_reducible refine gset ?_ (.inl (Nat.le_refl _)) _)

end Go.Proofs.YtachmiajldeakaaGreatDoor

/- lex's reader, on: the walk of its method next: blanks and comments are passed over, and the token behind them is read. -/
namespace Go.Proofs.YtachmiajldeakaaGreatDoor
open Go.RowKit Go.Maps Go.WideMaps

theorem enter_chF (l : List UInt8) : ∀ args w, (callFunc (chF l) args).run Tryz.prog w = .ok (.enter (chF l) args) w := by
  intro args w
  unfold chF
  split
  · kernel_rfl
  · split
    · kernel_rfl
    · split <;> kernel_rfl

theorem disp_any (b : Nat) (s : ByteArray) (i m : Nat) (hs : s.size ≤ 65536) (hi : i ≤ s.size) (hbm : m ≠ b) (hb1 : b ≠ 4) (w : World) (h : Rd w b s i m) (hW : WMap w m) (hl : LaidR w) :
    Calls Tryz.prog (chF (s.data.toList.drop i)) #[.pointer (some ⟨b, 0, none⟩)] w fun e w' => rdPost b s i m w (Lex.tokAt (s.data.toList.drop i)) e w' := by
  by_cases hlt : i < s.size
  · have hlt2 : i < s.data.toList.length := by simpa using hlt
    have hl2 : s.data.toList.drop i = s.data.toList[i] :: s.data.toList.drop (i + 1) := List.drop_eq_getElem_cons hlt2
    have hn := number_any b s i m hs hlt
    have hnm := name_any b s i m hs hi hbm w h hW
    have hsg := sign_any b s i m hs hlt w h
    rcases Bool.eq_false_or_eq_true (Lex.digit s.data.toList[i]) with h1 | h1
    · have hn := hn h1 hbm hb1 w h hW hl
      have e1 : chF (s.data.toList.drop i) = 105 := by rw [hl2]; simp only [chF, h1, if_true]
      have e2 : Lex.tokAt (s.data.toList.drop i) = Lex.numTok (s.data.toList.drop i) := by
        conv => lhs; rw [hl2]
        unfold Lex.tokAt
        dsimp only
        rw [if_pos h1, ← hl2]
      rw [e1, e2]; exact hn
    · rcases Bool.eq_false_or_eq_true (Lex.word s.data.toList[i]) with h2 | h2
      · have e1 : chF (s.data.toList.drop i) = 107 := by rw [hl2]; simp only [chF, h1, h2]; rfl
        have e2 : Lex.tokAt (s.data.toList.drop i) = Lex.nameTok (s.data.toList.drop i) := by
          conv => lhs; rw [hl2]
          unfold Lex.tokAt
          dsimp only
          rw [if_neg (by rw [h1]; decide), if_pos h2, ← hl2]
        rw [e1, e2]; exact hnm
      · have e1 : chF (s.data.toList.drop i) = 108 := by rw [hl2]; simp only [chF, h1, h2]; rfl
        have e2 : Lex.tokAt (s.data.toList.drop i) = Lex.signTok (s.data.toList.drop i) := by
          conv => lhs; rw [hl2]
          unfold Lex.tokAt
          dsimp only
          rw [if_neg (by rw [h1]; decide), if_neg (by rw [h2]; decide), ← hl2]
        rw [e1, e2]; exact hsg
  · have hl2 : s.data.toList.drop i = [] := List.drop_eq_nil_of_le (by simpa using hlt)
    rw [hl2]
    exact end_any b s i m w hi h

theorem clone_any (x : ByteArray) (hx : x.size ≤ 65536) (w : World) :
    Calls Tryz.prog 66 #[.string x] w fun e w' => e = .returned (.string x) ∧ w.grownBy w' none := by
  go_enter Tryz.func66, Tryz.ntmps66
  go_wp2_with (go_at_call 109; refine (Tryz.stringslite_Clone x _ (by omega)).mono ?_; rintro e w' ⟨rfl, hb⟩)
  go_ret
  exact ⟨rfl, grown_of_below hb⟩

/-- block b is a token -/
def Tkb (w : World) (b : Nat) (v0 v1 v2 v3 v4 v5 : Value) : Prop := w.heap[b]? = some (.cells #[v0, v1, v2, v3, v4, v5] 100 (0, 0))

theorem Tkb.kept {w w' : World} {b : Nat} {v0 v1 v2 v3 v4 v5 : Value} {row : Option Nat} (h : Tkb w b v0 v1 v2 v3 v4 v5) (hg : w.grownBy w' row) (hne : some b ≠ row) : Tkb w' b v0 v1 v2 v3 v4 v5 :=
  (hg.block b (Array.getElem?_eq_some_iff.1 h).1 hne).trans h
theorem Tkb.six {w : World} {b : Nat} {v0 v1 v2 v3 v4 v5 : Value} (h : Tkb w b v0 v1 v2 v3 v4 v5) : Six w b := ⟨_, _, _, _, _, _, h⟩
theorem Tkb.c {w : World} {b : Nat} {v0 v1 v2 v3 v4 v5 : Value} (h : Tkb w b v0 v1 v2 v3 v4 v5) : w.cell? ⟨b, 0, none⟩ = some v0 ∧ w.cell? ⟨b, 1, none⟩ = some v1 ∧ w.cell? ⟨b, 2, none⟩ = some v2 ∧ w.cell? ⟨b, 3, none⟩ = some v3 ∧ w.cell? ⟨b, 4, none⟩ = some v4 ∧ w.cell? ⟨b, 5, none⟩ = some v5 :=
  ⟨cell_of_row w b 0 _ _ _ h, cell_of_row w b 1 _ _ _ h, cell_of_row w b 2 _ _ _ h, cell_of_row w b 3 _ _ _ h, cell_of_row w b 4 _ _ _ h, cell_of_row w b 5 _ _ _ h⟩

theorem Six.kept {w w' : World} {b : Nat} {row : Option Nat} (h : Six w b) (hg : w.grownBy w' row) (hne : some b ≠ row) : Six w' b := by
  obtain ⟨x0, x1, x2, x3, x4, x5, h⟩ := h
  exact ⟨x0, x1, x2, x3, x4, x5, (hg.block b (Array.getElem?_eq_some_iff.1 h).1 hne).trans h⟩
theorem Tkb.new (w : World) (v0 v1 v2 v3 v4 v5 : Value) : Tkb (w.alloc (.cells #[v0, v1, v2, v3, v4, v5] 100)) w.heap.size v0 v1 v2 v3 v4 v5 := heap_alloc_new w _

theorem tokAt_bad {l : List UInt8} {er : Int} (h : Lex.tokAt l = .bad er) : (er != 0) = true := by
  have key : er = 11 ∨ er = 2 ∨ er = 10 := by
    unfold Lex.tokAt at h
    split at h
    · cases h
    · split at h
      · unfold Lex.numTok at h
        dsimp only at h
        repeat' split at h
        all_goals (first | cases h; done | (injection h with h; omega))
      · split at h
        · unfold Lex.nameTok at h
          dsimp only at h
          repeat' split at h
          all_goals (first | cases h; done | (injection h with h; omega))
        · unfold Lex.signTok at h
          dsimp only at h
          repeat' split at h
          all_goals (first | cases h; done | (injection h with h; omega))
  rw [bne_iff_ne]
  omega

/-- what next answers, and where the reader stands then -/
def nxPost (b : Nat) (s : ByteArray) (p m : Nat) (w : World) (x : Lex.Tok) (e : Ending) (w' : World) : Prop :=
  (match x with
    | .bad er => e = .returned (.tuple #[.agg #[.int .i64 0, .string ⟨#[]⟩, .int .i64 0, .int .i64 0, .int .i64 0, .int .i64 (p : Int)], .int .i64 er]) ∧ (¬ er = 0)
    | .tok kd n t len => e = .returned (.tuple #[.agg #[.int .i64 kd, .string (s.extract p (p + len)), .int .i64 n, .int .i64 t, .int .i64 0, .int .i64 (p : Int)], .int .i64 0]) ∧ p + len ≤ s.size ∧ Rd w' b s (p + len) m) ∧ w.grownBy w' (some b)

set_option maxHeartbeats 3200000 in
theorem next_any (b : Nat) (s : ByteArray) (i m : Nat) (hs : s.size ≤ 65536) (hi : i ≤ s.size) (hbm : m ≠ b) (hb1 : b ≠ 4) (w : World) (h : Rd w b s i m) (hW : WMap w m) (hl : LaidR w) :
    Calls Tryz.prog 30 #[.pointer (some ⟨b, 0, none⟩)] w fun e w' => nxPost b s (i + Lex.skp false (s.data.toList.drop i)) m w (Lex.tokAt (s.data.toList.drop (i + Lex.skp false (s.data.toList.drop i)))) e w' := by
  have hR1 : Rd (w.alloc tk0) b s i m := h.alloc _
  have hW1 : WMap (w.alloc tk0) m := hW.kept (World.grownBy_alloc w tk0 none) (by simp)
  have hl1 : LaidR (w.alloc tk0) := hl.on (World.grownBy_alloc w tk0 none) (by simp)
  have hsk := skip_any b s i m hs hi _ hR1
  have hle := Lex.skp_le false (s.data.toList.drop i)
  rw [List.length_drop] at hle
  have hsz : s.data.toList.length = s.size := by simp
  have hbw := h.lt
  generalize Lex.skp false (s.data.toList.drop i) = k at hsk hle
  have hp : i + k ≤ s.size := by omega
  generalize i + k = p at hsk hp
  have hch := fun wx hx => choose_any b s p m hp wx hx
  have hD := fun wx hx hy hz => disp_any b s p m hs hp hbm hb1 wx hx hy hz
  have hen := enter_chF (s.data.toList.drop p)
  generalize chF (s.data.toList.drop p) = F at hch hD hen
  unfold tk0 at hsk hW1 hl1
  clear hle
  cases htk : Lex.tokAt (s.data.toList.drop p) with
  | bad er =>
    have hne := tokAt_bad htk
    rw [htk] at hD
    have hD2 : ∀ wx, Rd wx b s p m → WMap wx m → LaidR wx → Calls Tryz.prog F #[.pointer (some ⟨b, 0, none⟩)] wx fun e w' => e = .returned (.tuple #[.agg #[.int .i64 0, .string ⟨#[]⟩, .int .i64 0, .int .i64 0, .int .i64 0, .int .i64 0], .int .i64 er]) ∧ wx.grownBy w' (some b) :=
      fun wx hx hy hz => (hD wx hx hy hz).mono fun e w' hq => ⟨hq.1.1, hq.2⟩
    clear hD htk
    go_enter Tryz.func30, Tryz.ntmps30
    go_wp2_with (go_at_call 64; refine hsk.mono ?_; rintro e w1 ⟨⟨v, rfl⟩, hR2, hg1⟩; refine Hid.out ?_)
    have r1 := hR2.c1
    have hc1 := hch w1 hR2
    refine Lib.hid ?_
    go_wp2_with (go_at_call 65; refine hc1.mono ?_; rintro e w2 ⟨rfl, k2, rfl⟩; refine Hid.out ?_)
    have hW2 : WMap (w1.drewN k2) m := (hW1.kept hg1 (fun e => hbm (Option.some.inj e))).kept (grown_drewN w1 k2 none) (by simp)
    have hl2 : LaidR (w1.drewN k2) := (hl1.on hg1 (fun e => hb1 (Option.some.inj e))).on (grown_drewN w1 k2 none) (by simp)
    have hF := hD2 (w1.drewN k2) (hR2.drewN k2) hW2 hl2
    clear hc1 r1
    refine Lib.hid ?_
    go_wp2_with (with_reducible refine hF.mono ?_; rintro e w3 ⟨rfl, hg3⟩; refine Hid.out ?_)
    have hg13 := (gdrewN hg1 k2).trans hg3
    have h6 : Six w3 w.heap.size := Six.of hg13 (fun e => by have := Option.some.inj e; omega)
    obtain ⟨⟨x0, c0⟩, ⟨x1, c1⟩, ⟨x2, c2⟩, ⟨x3, c3⟩, ⟨x4, c4⟩, ⟨x5, c5⟩⟩ := h6.c
    have f0 := h6.f 0
    have f1 := h6.f 1
    have f2 := h6.f 2
    have f3 := h6.f 3
    have f4 := h6.f 4
    have f5 := h6.f 5
    have hlt3 : w.heap.size < w3.heap.size := by
      have := hg13.size
      simp only [World.size_alloc] at this
      omega
    refine Lib.hid ?_
    go_wp2
    (try simp only [Exit.inBlock, Exit.then])
    refine bodyPost_ret (v := .tuple #[.agg #[.int .i64 0, .string ⟨#[]⟩, .int .i64 0, .int .i64 0, .int .i64 0, .int .i64 (p : Int)], .int .i64 er]) ?_ rfl ?_
    · rw [results_cell_tmp rfl]
      go_simp
    · go_light
      have hg0 := (World.grownBy_alloc w _ _).trans hg13
      refine ⟨⟨rfl, bne_iff_ne.1 hne⟩, ?_⟩
      repeat (first | with_reducible exact hg0 | with_reducible refine galloc ?_ _ | with_reducible refine gset ?_ (.inl (Nat.le_refl _)) _)
  | tok kd n t len =>
    rw [htk] at hD
    obtain ⟨q, hqe⟩ : ∃ q, q = p + len := ⟨_, rfl⟩
    have hD2 : ∀ wx, Rd wx b s p m → WMap wx m → LaidR wx → Calls Tryz.prog F #[.pointer (some ⟨b, 0, none⟩)] wx fun e w' => e = .returned (.tuple #[.agg #[.int .i64 kd, .string ⟨#[]⟩, .int .i64 n, .int .i64 t, .int .i64 0, .int .i64 0], .int .i64 0]) ∧ (p ≤ q ∧ q ≤ s.size) ∧ Rd w' b s q m ∧ wx.grownBy w' (some b) :=
      fun wx hx hy hz => (hD wx hx hy hz).mono fun e w' hh => ⟨hh.1.1, ⟨by omega, by rw [hqe]; exact hh.1.2.1⟩, by rw [hqe]; exact hh.1.2.2, hh.2⟩
    rw [show nxPost b s p m w (.tok kd n t len) = fun e w' => (e = .returned (.tuple #[.agg #[.int .i64 kd, .string (s.extract p q), .int .i64 n, .int .i64 t, .int .i64 0, .int .i64 (p : Int)], .int .i64 0]) ∧ q ≤ s.size ∧ Rd w' b s q m) ∧ w.grownBy w' (some b) by rw [hqe]; rfl]
    have hsl := fun h1 h2 wx => slc_str s p q h1 h2 wx
    have hsx : (s.extract p q).size ≤ 65536 := by rw [ByteArray.size_extract]; omega
    have hcl := fun wx => clone_any (s.extract p q) hsx wx
    clear hD htk hqe hsx
    generalize s.extract p q = x at hsl hcl
    go_enter Tryz.func30, Tryz.ntmps30
    go_wp2_with (go_at_call 64; refine hsk.mono ?_; rintro e w1 ⟨⟨v, rfl⟩, hR2, hg1⟩; refine Hid.out ?_)
    have r1 := hR2.c1
    have hc1 := hch w1 hR2
    refine Lib.hid ?_
    go_wp2_with (go_at_call 65; refine hc1.mono ?_; rintro e w2 ⟨rfl, k2, rfl⟩; refine Hid.out ?_)
    have hW2 : WMap (w1.drewN k2) m := (hW1.kept hg1 (fun e => hbm (Option.some.inj e))).kept (grown_drewN w1 k2 none) (by simp)
    have hl2 : LaidR (w1.drewN k2) := (hl1.on hg1 (fun e => hb1 (Option.some.inj e))).on (grown_drewN w1 k2 none) (by simp)
    have hF := hD2 (w1.drewN k2) (hR2.drewN k2) hW2 hl2
    clear hc1 r1
    refine Lib.hid ?_
    go_wp2_with (with_reducible refine hF.mono ?_; rintro e w3 ⟨rfl, ⟨hpq, hq⟩, hR3, hg3⟩; refine Hid.out ?_)
    have hsl := hsl hpq hq
    have hg13 := (gdrewN hg1 k2).trans hg3
    have h6 : Six w3 w.heap.size := Six.of hg13 (fun e => by have := Option.some.inj e; omega)
    have hlt3 : w.heap.size < w3.heap.size := by
      have := hg13.size
      simp only [World.size_alloc] at this
      omega
    have hb3 := hR3.lt
    have r0 := hR3.c0
    have r1 := hR3.c1
    refine Lib.hid ?_
    go_wp2
    have hcl2 : Calls Tryz.prog 66 #[.string x] (w3.alloc (.cells #[.int .i64 kd, .string ⟨#[]⟩, .int .i64 n, .int .i64 t, .int .i64 0, .int .i64 (p : Int)] 100)).drew fun e w4 => e = .returned (.string x) ∧ w4.cell? ⟨w3.heap.size, 1, none⟩ = some (.string ⟨#[]⟩) ∧ w4.frozen? ⟨w3.heap.size, 1, none⟩ = false ∧ (w3.alloc (.cells #[.int .i64 kd, .string ⟨#[]⟩, .int .i64 n, .int .i64 t, .int .i64 0, .int .i64 (p : Int)] 100)).grownBy w4 none := by
      refine (hcl _).mono fun e w4 hh => ?_
      have hg : (w3.alloc (.cells #[.int .i64 kd, .string ⟨#[]⟩, .int .i64 n, .int .i64 t, .int .i64 0, .int .i64 (p : Int)] 100)).grownBy w4 none := ⟨hh.2.os, hh.2.tape, hh.2.output, hh.2.size, hh.2.block⟩
      have hT := Tkb.kept (Tkb.new w3 _ _ _ _ _ _) hg (by simp)
      exact ⟨hh.1, hT.c.2.1, hT.six.f 1, hg⟩
    go_region_with (go_at_call 66; refine hcl2.mono ?_; rintro e w4 ⟨rfl, t1, u1, hg4⟩)
    all_goals refine Hid.out ?_
    all_goals obtain ⟨t0, -, t2, t3, t4, t5⟩ := (Tkb.kept (Tkb.new w3 _ _ _ _ _ _) hg4 (by simp)).c
    all_goals have h64 := (h6.kept (World.grownBy_alloc w3 _ none) (by simp)).kept hg4 (by simp)
    all_goals obtain ⟨⟨x0, c0⟩, ⟨x1, c1⟩, ⟨x2, c2⟩, ⟨x3, c3⟩, ⟨x4, c4⟩, ⟨x5, c5⟩⟩ := h64.c
    all_goals have f0 := h64.f 0
    all_goals have f1 := h64.f 1
    all_goals have f2 := h64.f 2
    all_goals have f3 := h64.f 3
    all_goals have f4 := h64.f 4
    all_goals have f5 := h64.f 5
    all_goals have hne2 : ¬ w.heap.size = w3.heap.size := by omega
    all_goals refine Lib.hid ?_
    all_goals go_wp2
    all_goals (try simp only [Exit.inBlock, Exit.then])
    all_goals refine bodyPost_ret (v := .tuple #[.agg #[.int .i64 kd, .string x, .int .i64 n, .int .i64 t, .int .i64 0, .int .i64 (p : Int)], .int .i64 0]) ?_ rfl ?_
    all_goals first
      | (rw [results_cell_tmp rfl]; go_simp; done)
      | (go_light
         have hg0 := galloc ((World.grownBy_alloc w _ _).trans hg13) (.cells #[.int .i64 kd, .string ⟨#[]⟩, .int .i64 n, .int .i64 t, .int .i64 0, .int .i64 (p : Int)] 100)
         have hg5 := hg0.trans (hg4.but _)
         have hR4 := (hR3.alloc (.cells #[.int .i64 kd, .string ⟨#[]⟩, .int .i64 n, .int .i64 t, .int .i64 0, .int .i64 (p : Int)] 100)).kept hg4 (by simp)
         refine ⟨⟨rfl, hq, ?_⟩, ?_⟩
         · repeat (first | with_reducible exact hR4 | with_reducible refine Rd.other ?_ (by show ¬ b = w.heap.size; omega) _ | with_reducible refine Rd.other ?_ (by show ¬ b = w3.heap.size; omega) _)
         · repeat (first | with_reducible exact hg5 | with_reducible refine gset ?_ (.inl (Nat.le_refl _)) _ | with_reducible refine gset ?_ (.inl (Nat.le_of_lt hlt3)) _))

end Go.Proofs.YtachmiajldeakaaGreatDoor

/- The tokens of a text, on: how a list of tokens lies in memory; how the tokens behind those that are read come out; and the walk of gather. -/
namespace Go.Proofs.YtachmiajldeakaaGreatDoor
open Go.RowKit Go.Maps Go.WideMaps

namespace Lex
/-- a token's six cells -/
def cells (x : Tk) : List Value := [.int .i64 x.kind, .string ⟨x.text.toArray⟩, .int .i64 x.n, .int .i64 x.t, .int .i64 0, .int .i64 (x.at_ : Int)]
/-- the cells of a list of tokens -/
def row (l : List Tk) : List Value := l.flatMap cells
theorem row_snoc (l : List Tk) (x : Tk) : row (l ++ [x]) = row l ++ cells x := by simp [row]

def preL (acc : List Tk) (r : Res) : Res := acc.foldr Res.pre r
theorem preL_snoc (acc : List Tk) (x : Tk) (r : Res) : preL (acc ++ [x]) r = preL acc (r.pre x) := by simp [preL]
theorem preL_err (acc : List Tk) (a : Nat) (e : Int) : preL acc (.err a e) = .err a e := by
  induction acc with
  | nil => rfl
  | cons x r ih => simp only [preL, List.foldr_cons] at ih ⊢; rw [ih]; rfl
theorem preL_ok (acc l : List Tk) : preL acc (.ok l) = .ok (acc ++ l) := by
  induction acc with
  | nil => rfl
  | cons x r ih => simp only [preL, List.foldr_cons] at ih ⊢; rw [ih]; rfl

theorem signW_pos {c d : Nat} (h : ¬ signW c d = 0) : 0 < signW c d := by omega
theorem spn_pos {p : UInt8 → Bool} {c : UInt8} {r : List UInt8} (h : p c = true) : 0 < spn p (c :: r) := by
  unfold spn; rw [List.takeWhile_cons, if_pos h]; simp

/-- the end of a text is the one token without a byte -/
theorem tokAt_tok {l : List UInt8} {kd n t : Int} {len : Nat} (h : tokAt l = .tok kd n t len) : (l = [] ∧ kd = 5 ∧ n = 0 ∧ t = 0 ∧ len = 0) ∨ (l ≠ [] ∧ ¬ kd = 5 ∧ 0 < len) := by
  unfold tokAt at h
  split at h
  · injection h with h1 h2 h3 h4
    exact .inl ⟨rfl, h1.symm, h2.symm, h3.symm, h4.symm⟩
  · rename_i c r
    refine .inr ⟨by simp, ?_⟩
    split at h
    · rename_i hd
      have hp := spn_pos (r := r) hd
      unfold numTok at h
      dsimp only at h
      repeat' split at h
      all_goals first | (cases h; done) | (injection h with h1 h2 h3 h4; omega)
    · split at h
      · rename_i hd
        have hp := spn_pos (r := r) hd
        unfold nameTok at h
        dsimp only at h
        repeat' split at h
        all_goals first | (cases h; done) | (injection h with h1 h2 h3 h4; omega)
      · unfold signTok at h
        dsimp only at h
        split at h
        · cases h
        · injection h with h1 h2 h3 h4; omega

theorem toks_fuel : ∀ (f g : Nat) (l : List UInt8) (a room : Nat), l.length < f → l.length < g → toks f l a room = toks g l a room
  | 0, _, _, _, _, h, _ => by omega
  | _ + 1, 0, _, _, _, _, h => by omega
  | f + 1, g + 1, l, a, room, hf, hg => by
    rw [toks, toks]
    cases htk : tokAt (l.drop (skp false l)) with
    | bad e => rfl
    | tok kd n t len =>
      dsimp only
      by_cases h0 : room = 0
      · rw [if_pos h0, if_pos h0]
      · rw [if_neg h0, if_neg h0]
        by_cases h5 : kd = 5
        · rw [if_pos h5, if_pos h5]
        · rw [if_neg h5, if_neg h5]
          rcases tokAt_tok htk with hh | ⟨hne, _, hlen⟩
          · exact absurd hh.2.1 h5
          · have h2 : 0 < (l.drop (skp false l)).length := by
              cases h3 : l.drop (skp false l) with
              | nil => exact absurd h3 hne
              | cons c r => simp
            have h3 : ((l.drop (skp false l)).drop len).length < l.length := by
              simp only [List.length_drop] at h2 ⊢; omega
            rw [toks_fuel f g _ _ _ (by omega) (by omega)]

/-- what is behind a place -/
def tail (l : List UInt8) (i room : Nat) : Res := toks (l.length + 1) (l.drop i) i room

theorem tail_bad {l : List UInt8} {i room : Nat} {er : Int} (h : tokAt (l.drop (i + skp false (l.drop i))) = .bad er) : tail l i room = .err (i + skp false (l.drop i)) er := by
  unfold tail
  rw [toks, List.drop_drop, h]
theorem tail_full {l : List UInt8} {i : Nat} {kd n t : Int} {len : Nat} (h : tokAt (l.drop (i + skp false (l.drop i))) = .tok kd n t len) : tail l i 0 = .err (i + skp false (l.drop i)) 2 := by
  unfold tail
  rw [toks, List.drop_drop, h]
  rfl
theorem tail_end {l : List UInt8} {i room : Nat} {n t : Int} {len : Nat} (h : tokAt (l.drop (i + skp false (l.drop i))) = .tok 5 n t len) (hr : ¬ room = 0) : tail l i room = .ok [⟨5, [], 0, 0, i + skp false (l.drop i)⟩] := by
  unfold tail
  rw [toks, List.drop_drop, h]
  dsimp only
  rw [if_neg hr, if_pos rfl]
theorem tail_tok {l : List UInt8} {i room : Nat} {kd n t : Int} {len : Nat} (h : tokAt (l.drop (i + skp false (l.drop i))) = .tok kd n t len) (hr : ¬ room = 0) (h5 : ¬ kd = 5) :
    tail l i room = (tail l (i + skp false (l.drop i) + len) (room - 1)).pre ⟨kd, (l.drop (i + skp false (l.drop i))).take len, n, t, i + skp false (l.drop i)⟩ := by
  unfold tail
  rw [toks, List.drop_drop, h]
  dsimp only
  rw [if_neg hr, if_neg h5, List.drop_drop]
  congr 1
  have hlen := (tokAt_tok h).resolve_left (fun hh => h5 hh.2.1)
  have h2 : 0 < (l.drop (i + skp false (l.drop i))).length := by
    cases h3 : l.drop (i + skp false (l.drop i)) with
    | nil => exact absurd h3 hlen.1
    | cons c r => simp
  exact toks_fuel _ _ _ _ _ (by simp only [List.length_drop] at h2 ⊢; omega) (by simp only [List.length_drop]; omega)
end Lex

theorem ext_mk (s : ByteArray) (i j : Nat) : s.extract i (i + j) = ⟨((s.data.toList.drop i).take j).toArray⟩ := by
  rw [← ext_list]

theorem infoT : (Tryz.prog.info? 100).map (fun i => (i.zero, i.size, i.bytes)) = some (some (.agg #[.int .i64 0, .string ⟨#[]⟩, .int .i64 0, .int .i64 0, .int .i64 0, .int .i64 0]), 6, 56) := by kernel_rfl

theorem cell_six_new (w : World) (v0 v1 v2 v3 v4 v5 : Value) (t : TypeId) : ∀ j u, [v0, v1, v2, v3, v4, v5][j]? = some u → (w.alloc (.cells #[v0, v1, v2, v3, v4, v5] t)).cell? ((⟨w.heap.size, 0, none⟩ : Addr).add j) = some u := by
  intro j u hu
  have hadd : (⟨w.heap.size, 0, none⟩ : Addr).add j = ⟨w.heap.size, j, none⟩ := by unfold Addr.add; split <;> simp_all
  rw [hadd, cell_of_row _ _ j _ _ _ (heap_alloc_new w _)]
  simpa using hu

/-- what gather and Tokens answer -/
def tkPost (w : World) (r : Lex.Res) (e : Ending) (w' : World) : Prop :=
  match r with
  | .err a er => e = .returned (.tuple #[.slice none 0 0, .int .i64 (a : Int), .int .i64 er]) ∧ ¬ er = 0
  | .ok ts => ∃ v, e = .returned (.tuple #[v, .int .i64 0, .int .i64 0]) ∧ w'.ownsRow w.heap.size 100 6 v ts.length (Lex.row ts)

end Go.Proofs.YtachmiajldeakaaGreatDoor

/- The walk of gather: the tokens of the text from where the reader stands, or where and why it has none. -/
namespace Go.Proofs.YtachmiajldeakaaGreatDoor
open Go.RowKit Go.Maps Go.WideMaps

theorem six_one (a c d f g : Int) (x : ByteArray) : ∀ u ∈ [Value.int .i64 a, .string x, .int .i64 c, .int .i64 d, .int .i64 f, .int .i64 g], u.oneCell' = true := by
  intro u hu
  simp only [List.mem_cons, List.not_mem_nil, or_false] at hu
  rcases hu with rfl | rfl | rfl | rfl | rfl | rfl <;> rfl

theorem cell_six_new2 (w : World) (o : Obj) (v0 v1 v2 v3 v4 v5 : Value) (t : TypeId) : ∀ j u, [v0, v1, v2, v3, v4, v5][j]? = some u → ((w.alloc o).alloc (.cells #[v0, v1, v2, v3, v4, v5] t)).cell? ((⟨w.heap.size + 1, 0, none⟩ : Addr).add j) = some u := by
  have h := cell_six_new (w.alloc o) v0 v1 v2 v3 v4 v5 t
  rw [World.size_alloc] at h
  exact h

theorem len_own {w : World} {base : Nat} {v : Value} {n : Nat} {xs : List Value} (h : w.ownsRow base 100 6 v n xs) (ty : TypeId) (wx : World) :
    (Builtin.len_ #[63] ty #[v]).run Tryz.prog wx = .ok (.int .i64 (n : Int)) wx := by
  rcases h.2 with ⟨rfl, rfl⟩ | ⟨g, cap, cur, rfl, _⟩
  · simp [Builtin.len_, run_underlying Tryz.underlying63, goInt, Result.andThen]
  · simp [Builtin.len_, run_underlying Tryz.underlying63, goInt, Result.andThen]

theorem infoP {t : TypeId} {z : Value} {a b : Nat} (h : (Tryz.prog.info? t).map (fun i => (i.zero, i.size, i.bytes)) = some (some z, a, b)) : ∃ i, Tryz.prog.info? t = some i ∧ i.zero = some z ∧ i.size = a ∧ i.bytes = b := by
  cases hi : Tryz.prog.info? t with
  | none => rw [hi] at h; cases h
  | some i => rw [hi] at h; simp at h; exact ⟨i, rfl, h.1, h.2.1, h.2.2⟩

set_option maxHeartbeats 3200000 in
theorem gather_any (b : Nat) (s : ByteArray) (m : Nat) (hs : s.size ≤ 65536) (hbm : m ≠ b) (hb1 : b ≠ 4) (w : World) (h : Rd w b s 0 m) (hW : WMap w m) (hl : LaidR w) :
    Calls Tryz.prog 29 #[.func (.func 30) #[.pointer (some ⟨b, 0, none⟩)] #[]] w fun e w' => tkPost w (Lex.tail s.data.toList 0 20000) e w' ∧ w.grownBy w' (some b) := by
  obtain ⟨it, hit, hz, hsz, hby⟩ := infoP infoT
  have hbw := h.lt
  go_enter Tryz.func29, Tryz.ntmps29
  go_wp2
  go_loopw [5] (fun v wr => ∃ (acc : List Lex.Tk) (i : Nat), i ≤ s.size ∧ acc.length ≤ 20000 ∧ wr.ownsRow w.heap.size 100 6 v acc.length (Lex.row acc) ∧ Rd wr b s i m ∧ WMap wr m ∧ LaidR wr ∧ w.grownBy wr (some b) ∧ Hid (Lex.preL acc (Lex.tail s.data.toList i (20000 - acc.length)) = Lex.tail s.data.toList 0 20000)) (fun _ wr => s.size - (intOf ((wr.cell? ⟨b, 1, none⟩).getD .nilFunc)).toNat)
  case atStart => exact ⟨[], 0, Nat.zero_le _, Nat.zero_le _, World.ownsRow_nil _ _ _ _, h, hW, hl, World.grownBy.refl _ _, rfl⟩
  case round =>
    obtain ⟨acc, i, hi, hacc, hown, hR, hWr, hlr, hG, HT⟩ := hrel
    have hN := next_any b s i m hs hi hbm hb1 _ hR hWr hlr
    have hvb : u5.ownBlock = none ∨ u5.ownBlock ≠ some b := by
      refine .inr (fun e => ?_)
      have := hown.lt b e
      omega
    have hskp := Lex.skp_le false (s.data.toList.drop i)
    rw [List.length_drop] at hskp
    cases htk : Lex.tokAt (s.data.toList.drop (i + Lex.skp false (s.data.toList.drop i))) with
    | bad er =>
      have HE : Hid (Lex.tail s.data.toList 0 20000 = .err (i + Lex.skp false (s.data.toList.drop i)) er) := by
        show _ = _
        rw [← HT.out, Lex.tail_bad htk, Lex.preL_err]
      have hne := tokAt_bad htk
      have hne0 : (er == 0) = false := by rw [beq_eq_false_iff_ne]; exact bne_iff_ne.1 hne
      rw [htk] at hN
      clear htk HT
      generalize i + Lex.skp false (s.data.toList.drop i) = p at hN HE
      have hN2 : Calls Tryz.prog 30 #[.pointer (some ⟨b, 0, none⟩)] wr fun e w' => e = .returned (.tuple #[.agg #[.int .i64 0, .string ⟨#[]⟩, .int .i64 0, .int .i64 0, .int .i64 0, .int .i64 (p : Int)], .int .i64 er]) ∧ wr.grownBy w' (some b) :=
        hN.mono fun e w' hh => ⟨hh.1.1, hh.2⟩
      clear hN
      go_wp2_with (go_at_call 30; refine hN2.mono ?_; rintro e w1 ⟨rfl, hg1⟩)
      go_quiet (fail)
      go_wp2
      go_ret3
      refine ⟨?_, gdrewN (galloc (hG.trans hg1) _) _⟩
      rw [HE.out]
      exact ⟨rfl, bne_iff_ne.1 hne⟩
    | tok kd n t len =>
      rw [htk] at hN
      have hcase := Lex.tokAt_tok htk
      have HK : Hid (Lex.tokAt (s.data.toList.drop (i + Lex.skp false (s.data.toList.drop i))) = .tok kd n t len) := htk
      clear htk
      obtain ⟨p, hp⟩ : ∃ p, p = i + Lex.skp false (s.data.toList.drop i) := ⟨_, rfl⟩
      rw [← hp] at hN
      have HP : Hid (p = i + Lex.skp false (s.data.toList.drop i)) := hp
      clear hp
      obtain ⟨x, hx⟩ : ∃ x, x = s.extract p (p + len) := ⟨_, rfl⟩
      have hN2 : Calls Tryz.prog 30 #[.pointer (some ⟨b, 0, none⟩)] wr fun e w' => e = .returned (.tuple #[.agg #[.int .i64 kd, .string x, .int .i64 n, .int .i64 t, .int .i64 0, .int .i64 (p : Int)], .int .i64 0]) ∧ p + len ≤ s.size ∧ Rd w' b s (p + len) m ∧ wr.grownBy w' (some b) :=
        hN.mono fun e w' hh => ⟨by rw [hx]; exact hh.1.1, hh.1.2.1, hh.1.2.2, hh.2⟩
      clear hN
      have hlf := fun ty wx => len_own hown ty wx
      obtain ⟨tk, htk⟩ : ∃ tk : Lex.Tk, tk = ⟨kd, (s.data.toList.drop p).take len, n, t, p⟩ := ⟨_, rfl⟩
      have HX : Hid (Lex.cells tk = [.int .i64 kd, .string x, .int .i64 n, .int .i64 t, .int .i64 0, .int .i64 (p : Int)]) := by
        show _ = _
        rw [htk, hx, ext_mk]; rfl
      have HTK := Lib.hid htk
      clear hx htk
      by_cases hf : acc.length = 20000
      · have hf2 : ((acc.length : Int) == 20000) = true := by rw [beq_iff_eq]; omega
        have HE : Hid (Lex.tail s.data.toList 0 20000 = .err p 2) := by
          show _ = _
          rw [← HT.out, hf, HP.out, Lex.tail_full HK.out, Lex.preL_err]
        clear HT hf
        go_wp2_with (go_at_call 30; refine hN2.mono ?_; rintro e w1 ⟨rfl, hq, hR1, hg1⟩)
        go_quiet (fail)
        go_wp2
        go_ret3
        refine ⟨?_, gdrewN (galloc (hG.trans hg1) _) _⟩
        rw [HE.out]
        exact ⟨rfl, by decide⟩
      · have hf2 : ((acc.length : Int) == 20000) = false := by rw [beq_eq_false_iff_ne]; omega
        have hroom : ¬ 20000 - acc.length = 0 := by omega
        by_cases h5 : kd = 5
        · have HE : Hid (Lex.tail s.data.toList 0 20000 = .ok (acc ++ [tk])) := by
            show _ = _
            rcases hcase with ⟨hnil, _, hn, ht, hlen⟩ | hh
            · have hk := HK.out
              rw [h5] at hk
              rw [← HT.out, Lex.tail_end hk hroom, Lex.preL_ok, HTK.out, HP.out, hnil, h5, hn, ht, List.take_nil]
            · exact absurd h5 hh.2.1
          clear HT hcase HK
          have h52 : (kd == 5) = true := by rw [beq_iff_eq]; exact h5
          clear h5
          go_wp2_with (first | (go_at_call 30; refine hN2.mono ?_; rintro e w1 ⟨rfl, hq, hR1, hg1⟩; refine Hid.out ?_))
          have hown1 := hown.kept hg1 hvb
          have hsz1 := hg1.size
          have hszw := hG.size
          refine Lib.hid ?_
          go_wp2_with (at_builtin; refine wpList_append_own _ rfl _ _ 63 rfl w.heap.size 100 it _ 6 56 Tryz.underlying63 hit hz hsz hby rfl (by decide) _ acc.length (Lex.row acc) rfl ((hown1.alloc _).alloc _) ⟨w1.heap.size + 1, 0, none⟩ 1 1 [.int .i64 kd, .string x, .int .i64 n, .int .i64 t, .int .i64 0, .int .i64 (p : Int)] rfl rfl (cell_six_new2 _ _ _ _ _ _ _ _ _) (six_one _ _ _ _ _ _) ?_ ?_ ?_ ?_)
          · unfold maxLen; omega
          · omega
          · simp only [World.size_alloc]; omega
          intro v' w3 hown' hgrow3 _
          have hT3 : Tkb w3 w1.heap.size (.int .i64 kd) (.string x) (.int .i64 n) (.int .i64 t) (.int .i64 0) (.int .i64 (p : Int)) :=
            ((Tkb.new w1 _ _ _ _ _ _).kept (World.grownBy_alloc _ _ none) (by simp)).kept hgrow3 (fun e => by have := hown1.lt _ e.symm; omega)
          have t0 := hT3.c.1
          have hg3 : w.grownBy w3 (some b) := (galloc (galloc (hG.trans hg1) _) _).andThen hgrow3 (fun j e => .inl (hown1.lt j e).1)
          have hrow : Lex.row acc ++ [.int .i64 kd, .string x, .int .i64 n, .int .i64 t, .int .i64 0, .int .i64 (p : Int)] = Lex.row (acc ++ [tk]) := by rw [Lex.row_snoc, HX.out]
          have hlen2 : (acc ++ [tk]).length = acc.length + 1 := by simp
          rw [hrow, ← hlen2] at hown'
          have HO := Lib.hid hown'
          clear hown' hrow hT3
          go_wp2
          go_ret3
          refine ⟨?_, hg3⟩
          rw [HE.out]
          exact ⟨_, rfl, HO.out⟩
        · have HE : Hid (Lex.preL (acc ++ [tk]) (Lex.tail s.data.toList (p + len) (20000 - (acc ++ [tk]).length)) = Lex.tail s.data.toList 0 20000) := by
            show _ = _
            rw [← HT.out, Lex.tail_tok HK.out hroom h5, Lex.preL_snoc, HTK.out, HP.out]
            simp only [List.length_append, List.length_cons, List.length_nil, Nat.zero_add, Nat.sub_sub]
          have hlen : 0 < len := (hcase.resolve_left (fun hh => h5 hh.2.1)).2.2
          have hpi : i ≤ p := by rw [HP.out]; omega
          clear HT hcase HK
          have h52 : (kd == 5) = false := by rw [beq_eq_false_iff_ne]; exact h5
          clear h5
          have ci := hR.c1
          have HCI := Lib.hid ci
          clear ci
          go_wp2_with (first | (go_at_call 30; refine hN2.mono ?_; rintro e w1 ⟨rfl, hq, hR1, hg1⟩; refine Hid.out ?_))
          have hown1 := hown.kept hg1 hvb
          have hsz1 := hg1.size
          have hszw := hG.size
          refine Lib.hid ?_
          go_wp2_with (at_builtin; refine wpList_append_own _ rfl _ _ 63 rfl w.heap.size 100 it _ 6 56 Tryz.underlying63 hit hz hsz hby rfl (by decide) _ acc.length (Lex.row acc) rfl ((hown1.alloc _).alloc _) ⟨w1.heap.size + 1, 0, none⟩ 1 1 [.int .i64 kd, .string x, .int .i64 n, .int .i64 t, .int .i64 0, .int .i64 (p : Int)] rfl rfl (cell_six_new2 _ _ _ _ _ _ _ _ _) (six_one _ _ _ _ _ _) ?_ ?_ ?_ ?_)
          · unfold maxLen; omega
          · omega
          · simp only [World.size_alloc]; omega
          intro v' w3 hown' hgrow3 _
          have hT3 : Tkb w3 w1.heap.size (.int .i64 kd) (.string x) (.int .i64 n) (.int .i64 t) (.int .i64 0) (.int .i64 (p : Int)) :=
            ((Tkb.new w1 _ _ _ _ _ _).kept (World.grownBy_alloc _ _ none) (by simp)).kept hgrow3 (fun e => by have := hown1.lt _ e.symm; omega)
          have t0 := hT3.c.1
          have hg3 : w.grownBy w3 (some b) := (galloc (galloc (hG.trans hg1) _) _).andThen hgrow3 (fun j e => .inl (hown1.lt j e).1)
          have hrow : Lex.row acc ++ [.int .i64 kd, .string x, .int .i64 n, .int .i64 t, .int .i64 0, .int .i64 (p : Int)] = Lex.row (acc ++ [tk]) := by rw [Lex.row_snoc, HX.out]
          have hlen2 : (acc ++ [tk]).length = acc.length + 1 := by simp
          rw [hrow, ← hlen2] at hown'
          have HO := Lib.hid hown'
          clear hown' hrow hT3
          go_wp2
          go_light
          have hR3 : Rd w3 b s (p + len) m := ((hR1.alloc _).alloc _).kept hgrow3 (fun e => by have := hown1.lt b e.symm; omega)
          refine ⟨⟨acc ++ [tk], p + len, hq, by omega, HO.out, hR3, hW.kept hg3 (fun e => hbm (Option.some.inj e)), hl.on hg3 (fun e => hb1 (Option.some.inj e)), hg3, HE⟩, ?_⟩
          rw [hR3.c1, HCI.out]
          simp only [Option.getD_some, intOf, Int.toNat_natCast]
          omega

end Go.Proofs.YtachmiajldeakaaGreatDoor

/- lex.Tokens: the tokens of every text, or where and why it has none; of what was there nothing has turned. -/
namespace Go.Proofs.YtachmiajldeakaaGreatDoor
open Go.RowKit Go.Maps Go.WideMaps

/-- what Tokens answers: a list, a place and an error -/
def tkRel (B : Nat) (r : Lex.Res) (v : Value) (a er : Int) (w' : World) : Prop :=
  match r with
  | .err p x => v = .slice none 0 0 ∧ a = (p : Int) ∧ er = x ∧ ¬ x = 0
  | .ok ts => a = 0 ∧ er = 0 ∧ w'.ownsRow B 100 6 v ts.length (Lex.row ts)
theorem tkPost_form {w : World} {r : Lex.Res} {e : Ending} {w' : World} (h : tkPost w r e w') : ∃ v a er, e = .returned (.tuple #[v, .int .i64 a, .int .i64 er]) ∧ tkRel w.heap.size r v a er w' := by
  cases r with
  | err p x => exact ⟨_, _, _, h.1, rfl, rfl, rfl, h.2⟩
  | ok ts => obtain ⟨v, h1, h2⟩ := h; exact ⟨v, 0, 0, h1, rfl, rfl, h2⟩
theorem tkRel.mono {B B' : Nat} {r : Lex.Res} {v : Value} {a er : Int} {w' : World} (h : tkRel B r v a er w') (hB : B' ≤ B) : tkRel B' r v a er w' := by
  cases r with
  | err p x => exact h
  | ok ts => exact ⟨h.1, h.2.1, h.2.2.mono hB⟩

set_option maxHeartbeats 800000 in
theorem tokens_any (s : ByteArray) (w : World) (hl : LaidR w) :
    Calls Tryz.prog 15 #[.string s] w fun e w' => ∃ v a er, e = .returned (.tuple #[v, .int .i64 a, .int .i64 er]) ∧ tkRel w.heap.size (Lex.tokens s.data.toList) v a er w' ∧ w.grownBy w' none := by
  have hsz : s.data.toList.length = s.size := by simp
  by_cases hs : 65536 < s.size
  · have ht : Lex.tokens s.data.toList = .err 0 2 := by unfold Lex.tokens; rw [if_pos (by omega)]
    rw [ht]
    have hd : decide ((65536 : Int) < (s.size : Int)) = true := by rw [decide_eq_true_iff]; omega
    go_enter Tryz.func15, Tryz.ntmps15
    go_wp2
    go_ret3
    exact ⟨_, _, _, rfl, ⟨rfl, rfl, rfl, by decide⟩, World.grownBy.refl _ _⟩
  · have ht : Lex.tokens s.data.toList = Lex.tail s.data.toList 0 20000 := by unfold Lex.tokens; rw [if_neg (by omega)]; rfl
    rw [ht]
    have hd : decide ((65536 : Int) < (s.size : Int)) = false := by rw [decide_eq_false_iff_not]; omega
    go_enter Tryz.func15, Tryz.ntmps15
    go_wp2_with (go_at_call 28; refine (words_any _).mono ?_; rintro e w1 ⟨rfl, hW1, hg1⟩; refine Hid.out ?_)
    have hlt := hW1.lt
    have hl1 := hl.on hg1 (by simp)
    have h1 := hl1.lt
    have hR : Rd (w1.alloc (.cells #[.string s, .int .i64 0, .map (some w.heap.size)] 82)) w1.heap.size s 0 w.heap.size := heap_alloc_new w1 _
    have hG := gather_any w1.heap.size s w.heap.size (by omega) (by omega) (by omega) _ hR (hW1.kept (World.grownBy_alloc w1 _ none) (by simp)) (hl1.on (World.grownBy_alloc w1 _ none) (by simp))
    refine Lib.hid ?_
    go_wp2_with (go_at_call 29; refine hG.mono ?_; rintro e w2 ⟨hp, hg2⟩; obtain ⟨v, a, er, rfl, hrel⟩ := tkPost_form hp)
    go_ret3
    refine ⟨_, _, _, rfl, hrel.mono ?_, ?_⟩
    · have := hg1.size
      simp only [World.size_alloc]
      omega
    · exact (galloc hg1 _).andThen hg2 (fun j e => .inl (by cases e; exact hg1.size))

end Go.Proofs.YtachmiajldeakaaGreatDoor

/- How a token of a list lies in memory. -/
namespace Go.Proofs.YtachmiajldeakaaGreatDoor
open Go.RowKit

theorem row_len (l : List Lex.Tk) : (Lex.row l).length = 6 * l.length := by
  induction l with
  | nil => rfl
  | cons x r ih => simp only [Lex.row, List.flatMap_cons, List.length_append, List.length_cons] at ih ⊢; rw [ih]; simp [Lex.cells]; omega
theorem row_at (l : List Lex.Tk) (t : Nat) (h : t < l.length) (j : Nat) (hj : j < 6) : (Lex.row l)[t * 6 + j]? = (Lex.cells l[t])[j]? := by
  induction l generalizing t with
  | nil => simp at h
  | cons x r ih =>
    cases t with
    | zero =>
      simp only [Lex.row, List.flatMap_cons, Nat.zero_mul, Nat.zero_add, List.getElem_cons_zero]
      rw [List.getElem?_append_left (by simpa [Lex.cells] using hj)]
    | succ t =>
      simp only [Lex.row, List.flatMap_cons, List.getElem_cons_succ] at ih ⊢
      rw [List.getElem?_append_right (by simp [Lex.cells]; omega)]
      rw [← ih t (by simpa using h)]
      congr 1
      simp [Lex.cells]; omega

end Go.Proofs.YtachmiajldeakaaGreatDoor
