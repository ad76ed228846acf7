/- Contracts of the library at this program (made by the kit's tools: lay-shelf.mjs, lay-plain.mjs). | A journal's files in plain words: their names and numbers. | A journal's files: the library's variables in memory; nameOf, numberOf. | A journal: in memory; the bytes of its files; whether a log takes more. | A journal: steps in a row. | The document's own device: a row of its files in memory, and what stays of it while others write. -/
import Derived.Test.YtdpbnacabinlgaaGreatDoorM4
import Derived.Lib.Strings
import Derived.Shelf.SortM.Plain
import Derived.Shelf.SortM.SortNone
import Derived.Ground.SlgmProg
import Derived.Test.YtdpbnacabinlgaaGreatDoorProg
import Derived.Shelf.Strconv.Itoa0
import Derived.Shelf.Strconv.Itoa1
import Derived.Shelf.LaysM
import Derived.Shelf.Strconv.Itoa2
import Derived.Shelf.Strconv.Itoa3
import Derived.Shelf.Strconv.Itoa4
import Derived.Shelf.Strconv.ParseIntEmpty
import Derived.Shelf.Strconv.Clone
import Derived.Shelf.Strconv.SyntaxError
import Derived.Shelf.LaysC
import Derived.Shelf.Strconv.ToError
import Derived.Shelf.Strconv.Lower
import Derived.Shelf.Strconv.ParseUint10
import Derived.Shelf.Strconv.ParseUint10Empty
import Derived.Shelf.Strconv.ParseUint10Any
import Derived.Shelf.Strconv.ParseInt10
import Derived.Shelf.Strconv.RangeError
import Derived.Shelf.Strconv.ToErrorRange
import Derived.Shelf.Strconv.ParseUintEmpty
import Derived.Shelf.Strconv.ParseUint10b64
import Derived.Shelf.Strconv.ParseUint10b32
import Derived.Shelf.Strconv.ParseUint10b16
import Derived.Shelf.Strconv.ParseUint10b8
import Derived.Shelf.Strconv.ParseUint10At
import Derived.Shelf.Strconv.ParseInt10At64
import Derived.Shelf.Strconv.ParseInt10At32
import Derived.Shelf.Strconv.ParseInt10At16
import Derived.Shelf.Strconv.ParseInt10At8
import Derived.Shelf.Strconv.ParseInt10All
import Derived.Shelf.Strconv.ParseIntPublic10
import Derived.Shelf.Strconv.ErrVarParseInt
import Derived.Shelf.Strings.Prefix
import Derived.Shelf.Slices.Turned
import Derived.Lib.ItoaNum
import Derived.Lib.ParseIntBTie
import Derived.Lib.AppendIntMem
import Derived.Lib.ItoaLen
import Derived.Lib.LaidTab
import Derived.Shelf.Abstract
namespace Go.Proofs
open Go.Shelf
def Tryz.laysM173_ren : Go.Shelf.Ren := ⟨fun | 173 => 102 | 246 => 121 | 283 => 141 | 284 => 142 | 285 => 143 | 286 => 144 | 129 => 120 | 317 => 156 | 318 => 157 | 319 => 158 | 320 => 159 | 337 => 165 | 338 => 166 | n => n, fun | 2 => 2 | 3 => 3 | 9 => 9 | 4 => 4 | 171 => 179 | 0 => 0 | 53 => 164 | 37 => 49 | 5 => 5 | 173 => 181 | 212 => 196 | 51 => 162 | 20 => 20 | 213 => 197 | 46 => 137 | 232 => 206 | 233 => 207 | n => n, fun | 17 => 0 | 18 => 3 | 19 => 4 | n => n⟩
theorem Tryz.laysM173 : Go.Proofs.LaysM.n173 Tryz.prog Tryz.laysM173_ren := {
  mixed := by kernel_rfl
  f129 := Tryz.func120.trans (congrArg some (by kernel_rfl))
  f173 := Tryz.func102.trans (congrArg some (by kernel_rfl))
  f246 := Tryz.func121.trans (congrArg some (by kernel_rfl))
  f283 := Tryz.func141.trans (congrArg some (by kernel_rfl))
  f284 := Tryz.func142.trans (congrArg some (by kernel_rfl))
  f285 := Tryz.func143.trans (congrArg some (by kernel_rfl))
  f286 := Tryz.func144.trans (congrArg some (by kernel_rfl))
  f317 := Tryz.func156.trans (congrArg some (by kernel_rfl))
  f318 := Tryz.func157.trans (congrArg some (by kernel_rfl))
  f319 := Tryz.func158.trans (congrArg some (by kernel_rfl))
  f320 := Tryz.func159.trans (congrArg some (by kernel_rfl))
  f337 := Tryz.func165.trans (congrArg some (by kernel_rfl))
  f338 := Tryz.func166.trans (congrArg some (by kernel_rfl))
  t0 := Tryz.underlying0
  a0 := Tryz.isAgg0
  z0 := Tryz.sizeOf0
  v0 := Tryz.zeroValue0
  t2 := Tryz.underlying2
  a2 := Tryz.isAgg2
  z2 := Tryz.sizeOf2
  v2 := Tryz.zeroValue2
  t3 := Tryz.underlying3
  a3 := Tryz.isAgg3
  z3 := Tryz.sizeOf3
  v3 := Tryz.zeroValue3
  t4 := Tryz.underlying4
  a4 := Tryz.isAgg4
  z4 := Tryz.sizeOf4
  v4 := Tryz.zeroValue4
  t5 := Tryz.underlying5
  a5 := Tryz.isAgg5
  z5 := Tryz.sizeOf5
  v5 := Tryz.zeroValue5
  t9 := Tryz.underlying9
  a9 := Tryz.isAgg9
  z9 := Tryz.sizeOf9
  v9 := Tryz.zeroValue9
  t20 := Tryz.underlying20
  a20 := Tryz.isAgg20
  z20 := Tryz.sizeOf20
  v20 := Tryz.zeroValue20
  t37 := Tryz.underlying49
  a37 := Tryz.isAgg49
  z37 := Tryz.sizeOf49
  v37 := Tryz.zeroValue49
  t46 := Tryz.underlying137
  a46 := Tryz.isAgg137
  z46 := Tryz.sizeOf137
  v46 := Tryz.zeroValue137
  t51 := Tryz.underlying162
  a51 := Tryz.isAgg162
  z51 := Tryz.sizeOf162
  v51 := Tryz.zeroValue162
  t53 := Tryz.underlying164
  a53 := Tryz.isAgg164
  z53 := Tryz.sizeOf164
  v53 := Tryz.zeroValue164
  t171 := Tryz.underlying179
  a171 := Tryz.isAgg179
  z171 := Tryz.sizeOf179
  v171 := Tryz.zeroValue179
  t173 := Tryz.underlying181
  a173 := Tryz.isAgg181
  z173 := Tryz.sizeOf181
  v173 := Tryz.zeroValue181
  t212 := Tryz.underlying196
  a212 := Tryz.isAgg196
  z212 := Tryz.sizeOf196
  v212 := Tryz.zeroValue196
  t213 := Tryz.underlying197
  a213 := Tryz.isAgg197
  z213 := Tryz.sizeOf197
  t232 := Tryz.underlying206
  a232 := Tryz.isAgg206
  z232 := Tryz.sizeOf206
  v232 := Tryz.zeroValue206
  t233 := Tryz.underlying207
  a233 := Tryz.isAgg207
  z233 := Tryz.sizeOf207
  v233 := Tryz.zeroValue207
  g17 := by kernel_rfl
  g18 := by kernel_rfl
  g19 := by kernel_rfl
  i0 := by kernel_rfl
  i2 := by kernel_rfl
  i3 := by kernel_rfl
  i4 := by kernel_rfl
  i5 := by kernel_rfl
  i9 := by kernel_rfl
  i20 := by kernel_rfl
  i37 := by kernel_rfl
  i46 := by kernel_rfl
  i51 := by kernel_rfl
  i53 := by kernel_rfl
  i171 := by kernel_rfl
  i173 := by kernel_rfl
  i212 := by kernel_rfl
  i232 := by kernel_rfl
  i233 := by kernel_rfl
  m17 := by kernel_rfl
  m18 := by kernel_rfl
  m19 := by kernel_rfl }
def Tryz.laysC174_ren : Go.Shelf.Ren := ⟨fun | 174 => 108 | 247 => 132 | 245 => 133 | 287 => 149 | 279 => 150 | 280 => 151 | 281 => 152 | 282 => 153 | 321 => 161 | 322 => 162 | 316 => 96 | 171 => 164 | 205 => 163 | 243 => 167 | 246 => 121 | 283 => 141 | 284 => 142 | 285 => 143 | 286 => 144 | 129 => 120 | 317 => 156 | 318 => 157 | 319 => 158 | 320 => 159 | 337 => 165 | 338 => 166 | n => n, fun | 9 => 9 | 3 => 3 | 2 => 2 | 75 => 149 | 85 => 150 | 4 => 4 | 167 => 185 | 5 => 5 | 53 => 164 | 175 => 186 | 46 => 137 | 168 => 188 | 37 => 49 | 0 => 0 | 210 => 201 | 21 => 21 | 127 => 147 | 145 => 205 | 143 => 203 | 171 => 179 | 173 => 181 | 212 => 196 | 51 => 162 | 20 => 20 | 213 => 197 | 232 => 206 | 233 => 207 | 80 => 208 | n => n, fun | 15 => 1 | 16 => 2 | 17 => 0 | 18 => 3 | 19 => 4 | n => n⟩
theorem Tryz.laysC174 : Go.Proofs.LaysC.n174 Tryz.prog Tryz.laysC174_ren := {
  mixed := by kernel_rfl
  f129 := Tryz.func120.trans (congrArg some (by kernel_rfl))
  f171 := Tryz.func164.trans (congrArg some (by kernel_rfl))
  f174 := Tryz.func108.trans (congrArg some (by kernel_rfl))
  f205 := Tryz.func163.trans (congrArg some (by kernel_rfl))
  f243 := Tryz.func167.trans (congrArg some (by kernel_rfl))
  f245 := Tryz.func133.trans (congrArg some (by kernel_rfl))
  f246 := Tryz.func121.trans (congrArg some (by kernel_rfl))
  f247 := Tryz.func132.trans (congrArg some (by kernel_rfl))
  f279 := Tryz.func150.trans (congrArg some (by kernel_rfl))
  f280 := Tryz.func151.trans (congrArg some (by kernel_rfl))
  f281 := Tryz.func152.trans (congrArg some (by kernel_rfl))
  f282 := Tryz.func153.trans (congrArg some (by kernel_rfl))
  f283 := Tryz.func141.trans (congrArg some (by kernel_rfl))
  f284 := Tryz.func142.trans (congrArg some (by kernel_rfl))
  f285 := Tryz.func143.trans (congrArg some (by kernel_rfl))
  f286 := Tryz.func144.trans (congrArg some (by kernel_rfl))
  f287 := Tryz.func149.trans (congrArg some (by kernel_rfl))
  f316 := Tryz.func96.trans (congrArg some (by kernel_rfl))
  f317 := Tryz.func156.trans (congrArg some (by kernel_rfl))
  f318 := Tryz.func157.trans (congrArg some (by kernel_rfl))
  f319 := Tryz.func158.trans (congrArg some (by kernel_rfl))
  f320 := Tryz.func159.trans (congrArg some (by kernel_rfl))
  f321 := Tryz.func161.trans (congrArg some (by kernel_rfl))
  f322 := Tryz.func162.trans (congrArg some (by kernel_rfl))
  f337 := Tryz.func165.trans (congrArg some (by kernel_rfl))
  f338 := Tryz.func166.trans (congrArg some (by kernel_rfl))
  t0 := Tryz.underlying0
  a0 := Tryz.isAgg0
  z0 := Tryz.sizeOf0
  v0 := Tryz.zeroValue0
  t2 := Tryz.underlying2
  a2 := Tryz.isAgg2
  z2 := Tryz.sizeOf2
  v2 := Tryz.zeroValue2
  t3 := Tryz.underlying3
  a3 := Tryz.isAgg3
  z3 := Tryz.sizeOf3
  v3 := Tryz.zeroValue3
  t4 := Tryz.underlying4
  a4 := Tryz.isAgg4
  z4 := Tryz.sizeOf4
  v4 := Tryz.zeroValue4
  t5 := Tryz.underlying5
  a5 := Tryz.isAgg5
  z5 := Tryz.sizeOf5
  v5 := Tryz.zeroValue5
  t9 := Tryz.underlying9
  a9 := Tryz.isAgg9
  z9 := Tryz.sizeOf9
  v9 := Tryz.zeroValue9
  t20 := Tryz.underlying20
  a20 := Tryz.isAgg20
  z20 := Tryz.sizeOf20
  v20 := Tryz.zeroValue20
  t21 := Tryz.underlying21
  a21 := Tryz.isAgg21
  z21 := Tryz.sizeOf21
  v21 := Tryz.zeroValue21
  t37 := Tryz.underlying49
  a37 := Tryz.isAgg49
  z37 := Tryz.sizeOf49
  v37 := Tryz.zeroValue49
  t46 := Tryz.underlying137
  a46 := Tryz.isAgg137
  z46 := Tryz.sizeOf137
  v46 := Tryz.zeroValue137
  t51 := Tryz.underlying162
  a51 := Tryz.isAgg162
  z51 := Tryz.sizeOf162
  v51 := Tryz.zeroValue162
  t53 := Tryz.underlying164
  a53 := Tryz.isAgg164
  z53 := Tryz.sizeOf164
  v53 := Tryz.zeroValue164
  t75 := Tryz.underlying149
  a75 := Tryz.isAgg149
  z75 := Tryz.sizeOf149
  v75 := Tryz.zeroValue149
  t85 := Tryz.underlying150
  a85 := Tryz.isAgg150
  z85 := Tryz.sizeOf150
  v85 := Tryz.zeroValue150
  t127 := Tryz.underlying147
  a127 := Tryz.isAgg147
  z127 := Tryz.sizeOf147
  v127 := Tryz.zeroValue147
  t143 := Tryz.underlying203
  a143 := Tryz.isAgg203
  z143 := Tryz.sizeOf203
  v143 := Tryz.zeroValue203
  t145 := Tryz.underlying205
  a145 := Tryz.isAgg205
  z145 := Tryz.sizeOf205
  v145 := Tryz.zeroValue205
  t167 := Tryz.underlying185
  a167 := Tryz.isAgg185
  z167 := Tryz.sizeOf185
  v167 := Tryz.zeroValue185
  t168 := Tryz.underlying188
  a168 := Tryz.isAgg188
  z168 := Tryz.sizeOf188
  v168 := Tryz.zeroValue188
  t171 := Tryz.underlying179
  a171 := Tryz.isAgg179
  z171 := Tryz.sizeOf179
  v171 := Tryz.zeroValue179
  t173 := Tryz.underlying181
  a173 := Tryz.isAgg181
  z173 := Tryz.sizeOf181
  v173 := Tryz.zeroValue181
  t175 := Tryz.underlying186
  a175 := Tryz.isAgg186
  z175 := Tryz.sizeOf186
  v175 := Tryz.zeroValue186
  t210 := Tryz.underlying201
  a210 := Tryz.isAgg201
  z210 := Tryz.sizeOf201
  v210 := Tryz.zeroValue201
  t212 := Tryz.underlying196
  a212 := Tryz.isAgg196
  z212 := Tryz.sizeOf196
  v212 := Tryz.zeroValue196
  t213 := Tryz.underlying197
  a213 := Tryz.isAgg197
  z213 := Tryz.sizeOf197
  t232 := Tryz.underlying206
  a232 := Tryz.isAgg206
  z232 := Tryz.sizeOf206
  v232 := Tryz.zeroValue206
  t233 := Tryz.underlying207
  a233 := Tryz.isAgg207
  z233 := Tryz.sizeOf207
  v233 := Tryz.zeroValue207
  g15 := by kernel_rfl
  g16 := by kernel_rfl
  g17 := by kernel_rfl
  g18 := by kernel_rfl
  g19 := by kernel_rfl
  t80 := Tryz.underlying208
  a80 := Tryz.isAgg208
  z80 := Tryz.sizeOf208
  v80 := Tryz.zeroValue208
  i0 := by kernel_rfl
  i2 := by kernel_rfl
  i3 := by kernel_rfl
  i4 := by kernel_rfl
  i5 := by kernel_rfl
  i9 := by kernel_rfl
  i20 := by kernel_rfl
  i21 := by kernel_rfl
  i37 := by kernel_rfl
  i46 := by kernel_rfl
  i51 := by kernel_rfl
  i53 := by kernel_rfl
  i75 := by kernel_rfl
  i80 := by kernel_rfl
  i85 := by kernel_rfl
  i127 := by kernel_rfl
  i143 := by kernel_rfl
  i145 := by kernel_rfl
  i167 := by kernel_rfl
  i168 := by kernel_rfl
  i171 := by kernel_rfl
  i173 := by kernel_rfl
  i175 := by kernel_rfl
  i210 := by kernel_rfl
  i212 := by kernel_rfl
  i232 := by kernel_rfl
  i233 := by kernel_rfl
  m15 := by kernel_rfl
  m16 := by kernel_rfl
  m17 := by kernel_rfl
  m18 := by kernel_rfl
  m19 := by kernel_rfl
  c0 := by kernel_rfl
  c2 := by kernel_rfl
  c3 := by kernel_rfl
  c4 := by kernel_rfl
  c5 := by kernel_rfl
  c9 := by kernel_rfl
  c20 := by kernel_rfl
  c21 := by kernel_rfl
  c37 := by kernel_rfl
  c46 := by kernel_rfl
  c51 := by kernel_rfl
  c53 := by kernel_rfl
  c75 := by kernel_rfl
  c80 := by kernel_rfl
  c85 := by kernel_rfl
  c127 := by kernel_rfl
  c143 := by kernel_rfl
  c145 := by kernel_rfl
  c167 := by kernel_rfl
  c168 := by kernel_rfl
  c171 := by kernel_rfl
  c173 := by kernel_rfl
  c175 := by kernel_rfl
  c210 := by kernel_rfl
  c212 := by kernel_rfl
  c213 := by kernel_rfl
  c232 := by kernel_rfl
  c233 := by kernel_rfl }
def Tryz.lays101_ren : Go.Shelf.Ren := ⟨fun | 101 => 109 | 208 => 134 | 206 => 154 | n => n, fun | 9 => 9 | 4 => 4 | 3 => 3 | n => n, fun | n => n⟩
theorem Tryz.lays101 : Go.Proofs.Lays.n101 Tryz.prog Tryz.lays101_ren := {
  mixed := by kernel_rfl
  f101 := Tryz.func109.trans (congrArg some (by kernel_rfl))
  f206 := Tryz.func154.trans (congrArg some (by kernel_rfl))
  f208 := Tryz.func134.trans (congrArg some (by kernel_rfl))
  t3 := Tryz.underlying3
  a3 := Tryz.isAgg3
  z3 := Tryz.sizeOf3
  v3 := Tryz.zeroValue3
  t4 := Tryz.underlying4
  a4 := Tryz.isAgg4
  z4 := Tryz.sizeOf4
  v4 := Tryz.zeroValue4
  t9 := Tryz.underlying9
  a9 := Tryz.isAgg9
  z9 := Tryz.sizeOf9
  v9 := Tryz.zeroValue9 }
def Tryz.lays110_ren : Go.Shelf.Ren := ⟨fun | 110 => 77 | 109 => 101 | n => n, fun | 31 => 32 | 9 => 9 | 4 => 4 | 3 => 3 | 0 => 0 | n => n, fun | n => n⟩
theorem Tryz.lays110 : Go.Proofs.Lays.n110 Tryz.prog Tryz.lays110_ren := {
  mixed := by kernel_rfl
  f109 := Tryz.func101.trans (congrArg some (by kernel_rfl))
  f110 := Tryz.func77.trans (congrArg some (by kernel_rfl))
  t0 := Tryz.underlying0
  a0 := Tryz.isAgg0
  z0 := Tryz.sizeOf0
  v0 := Tryz.zeroValue0
  t3 := Tryz.underlying3
  a3 := Tryz.isAgg3
  z3 := Tryz.sizeOf3
  v3 := Tryz.zeroValue3
  t4 := Tryz.underlying4
  a4 := Tryz.isAgg4
  z4 := Tryz.sizeOf4
  v4 := Tryz.zeroValue4
  t9 := Tryz.underlying9
  a9 := Tryz.isAgg9
  z9 := Tryz.sizeOf9
  v9 := Tryz.zeroValue9
  t31 := Tryz.underlying32
  a31 := Tryz.isAgg32
  z31 := Tryz.sizeOf32
  v31 := Tryz.zeroValue32 }
def Tryz.laysSlM5_f75_ren : Go.Shelf.Ren := ⟨fun | 5 => 75 | 8 => 100 | 7 => 99 | 19 => 119 | 20 => 120 | 10 => 110 | 11 => 111 | 12 => 112 | 13 => 113 | 14 => 114 | 15 => 115 | 16 => 116 | 17 => 117 | 18 => 118 | 30 => 135 | 31 => 136 | 32 => 137 | 33 => 138 | 34 => 139 | 35 => 140 | 40 => 155 | n => n, fun | 23 => 90 | 25 => 2 | 3 => 3 | 32 => 137 | 22 => 90 | 0 => 0 | 44 => 162 | 46 => 164 | 4 => 4 | 36 => 155 | 35 => 154 | 41 => 108 | 5 => 5 | 9 => 9 | 53 => 173 | 57 => 177 | 63 => 191 | 64 => 192 | n => n, fun | n => n⟩
theorem Tryz.laysSlM5_f75 : Go.Proofs.SlLaysM.n5 Tryz.prog Tryz.laysSlM5_f75_ren := {
  mixed := by kernel_rfl
  f5 := ⟨Tryz.f75.name, by decide, Tryz.func75.trans (congrArg some (by kernel_rfl))⟩
  f7 := ⟨Tryz.f99.name, by decide, Tryz.func99.trans (congrArg some (by kernel_rfl))⟩
  f8 := Tryz.func100.trans (congrArg some (by kernel_rfl))
  f10 := ⟨Tryz.f110.name, by decide, Tryz.func110.trans (congrArg some (by kernel_rfl))⟩
  f11 := ⟨Tryz.f111.name, by decide, Tryz.func111.trans (congrArg some (by kernel_rfl))⟩
  f12 := ⟨Tryz.f112.name, by decide, Tryz.func112.trans (congrArg some (by kernel_rfl))⟩
  f13 := ⟨Tryz.f113.name, by decide, Tryz.func113.trans (congrArg some (by kernel_rfl))⟩
  f14 := ⟨Tryz.f114.name, by decide, Tryz.func114.trans (congrArg some (by kernel_rfl))⟩
  f15 := ⟨Tryz.f115.name, by decide, Tryz.func115.trans (congrArg some (by kernel_rfl))⟩
  f16 := ⟨Tryz.f116.name, by decide, Tryz.func116.trans (congrArg some (by kernel_rfl))⟩
  f17 := ⟨Tryz.f117.name, by decide, Tryz.func117.trans (congrArg some (by kernel_rfl))⟩
  f18 := ⟨Tryz.f118.name, by decide, Tryz.func118.trans (congrArg some (by kernel_rfl))⟩
  f19 := Tryz.func119.trans (congrArg some (by kernel_rfl))
  f20 := Tryz.func120.trans (congrArg some (by kernel_rfl))
  f30 := ⟨Tryz.f135.name, by decide, Tryz.func135.trans (congrArg some (by kernel_rfl))⟩
  f31 := Tryz.func136.trans (congrArg some (by kernel_rfl))
  f32 := Tryz.func137.trans (congrArg some (by kernel_rfl))
  f33 := ⟨Tryz.f138.name, by decide, Tryz.func138.trans (congrArg some (by kernel_rfl))⟩
  f34 := ⟨Tryz.f139.name, by decide, Tryz.func139.trans (congrArg some (by kernel_rfl))⟩
  f35 := ⟨Tryz.f140.name, by decide, Tryz.func140.trans (congrArg some (by kernel_rfl))⟩
  f40 := ⟨Tryz.f155.name, by decide, Tryz.func155.trans (congrArg some (by kernel_rfl))⟩
  t0 := Tryz.underlying0
  a0 := Tryz.isAgg0
  z0 := Tryz.sizeOf0
  v0 := Tryz.zeroValue0
  t3 := Tryz.underlying3
  a3 := Tryz.isAgg3
  z3 := Tryz.sizeOf3
  v3 := Tryz.zeroValue3
  t4 := Tryz.underlying4
  a4 := Tryz.isAgg4
  z4 := Tryz.sizeOf4
  v4 := Tryz.zeroValue4
  t5 := Tryz.underlying5
  a5 := Tryz.isAgg5
  z5 := Tryz.sizeOf5
  v5 := Tryz.zeroValue5
  t9 := Tryz.underlying9
  a9 := Tryz.isAgg9
  z9 := Tryz.sizeOf9
  v9 := Tryz.zeroValue9
  t22 := Tryz.underlying90
  a22 := Tryz.isAgg90
  z22 := Tryz.sizeOf90
  v22 := Tryz.zeroValue90
  t23 := Tryz.underlying90
  a23 := Tryz.isAgg90
  z23 := Tryz.sizeOf90
  v23 := Tryz.zeroValue90
  t25 := Tryz.underlying2
  a25 := Tryz.isAgg2
  z25 := Tryz.sizeOf2
  v25 := Tryz.zeroValue2
  t32 := Tryz.underlying137
  a32 := Tryz.isAgg137
  z32 := Tryz.sizeOf137
  v32 := Tryz.zeroValue137
  t35 := Tryz.underlying154
  a35 := Tryz.isAgg154
  z35 := Tryz.sizeOf154
  v35 := Tryz.zeroValue154
  t36 := Tryz.underlying155
  a36 := Tryz.isAgg155
  z36 := Tryz.sizeOf155
  v36 := Tryz.zeroValue155
  t41 := Tryz.underlying108
  a41 := Tryz.isAgg108
  z41 := Tryz.sizeOf108
  v41 := Tryz.zeroValue108
  t44 := Tryz.underlying162
  a44 := Tryz.isAgg162
  z44 := Tryz.sizeOf162
  v44 := Tryz.zeroValue162
  t46 := Tryz.underlying164
  a46 := Tryz.isAgg164
  z46 := Tryz.sizeOf164
  v46 := Tryz.zeroValue164
  t53 := Tryz.underlying173
  a53 := Tryz.isAgg173
  z53 := Tryz.sizeOf173
  v53 := Tryz.zeroValue173
  t57 := Tryz.underlying177
  a57 := Tryz.isAgg177
  z57 := Tryz.sizeOf177
  v57 := Tryz.zeroValue177
  t63 := Tryz.underlying191
  a63 := Tryz.isAgg191
  z63 := Tryz.sizeOf191
  v63 := Tryz.zeroValue191
  t64 := Tryz.underlying192
  a64 := Tryz.isAgg192
  z64 := Tryz.sizeOf192
  v64 := Tryz.zeroValue192 }
open Go.RowKit Go.Sort Go.Lib in
/-- strconv.FormatInt: "FormatInt returns the string representation of i in the given base": AT BASE 10: i's decimal numeral, for every int64. (LAID: no walk: one application.) -/
theorem Tryz.strconv_FormatInt_10 (n : Int) (h0 : -9223372036854775808 ≤ n) (h1 : n ≤ 9223372036854775807) (w : World) (htab : Lib.TabIs Tryz.prog w "internal/strconv.uint64pow10" .u64 Lib.pow10Tab) :
    Calls Tryz.prog 102 #[.int .i64 n, .int .i64 10] w fun e w' => e = .returned (.string ⟨(Lib.itoa n).toArray⟩) ∧ ∃ k os, w' = grow (w.drewN k) os := Any.strconv_FormatInt_10 Tryz.laysM173 n h0 h1 w htab
open Go.RowKit in
/-- strconv.ParseInt(s, 10, 64), AT EVERY STRING THAT SPELLS AN int64 ('Lib.parseIntB 64 s.data.toList = .ok v'): v, AND NO ERROR. (LAID: no walk: one application.) -/
theorem Tryz.strconv_ParseInt_10_at64_ok (s : ByteArray) (hmax : s.size ≤ 9223372036854775806) (v : Int) (h : Lib.parseIntB 64 s.data.toList = .ok v) (w : World) :
    Calls Tryz.prog 108 #[.string s, .int .i64 10, .int .i64 64] w fun e w' => e = .returned (.tuple #[.int .i64 v, .nilIface]) ∧ (w' = w ∨ ∃ t, w' = Lib.bytesWorld w 5 t) := Any.strconv_ParseInt_10_at64_ok Tryz.laysC174 s hmax v h w
open Go.RowKit in
theorem Tryz.strconv_ParseInt_10_at64_no (s : ByteArray) (hlim : s.size ≤ 281474976710656) (h1 : ∀ v, Lib.parseIntB 64 s.data.toList ≠ .ok v) (h2 : Lib.parseIntB 64 s.data.toList ≠ .range) (tp : TypeId) (p : Value) (w : World) (hvar : w.var? Tryz.prog "strconv.ErrSyntax" = some #[.iface tp p]) :
    Calls Tryz.prog 108 #[.string s, .int .i64 10, .int .i64 64] w fun e w' => ∃ N, e = .returned (.tuple #[.int .i64 (0), .iface 188 (.pointer (some ⟨N, 0, none⟩))]) ∧ w.heap.size ≤ N ∧ w'.heap[N]? = some (.cells #[.string ⟨#[80, 97, 114, 115, 101, 73, 110, 116]⟩, .string s, .iface tp p] 201 (0, 0)) ∧ Below w.heap.size w w' := by
  cases h : Lib.parseIntB 64 s.data.toList with
  | ok v => exact absurd h (h1 v)
  | range => exact absurd h h2
  | _ => exact Any.strconv_ParseInt_10_at64_syntax_var Tryz.laysC174 s hlim h tp p w hvar
open Go.RowKit in
theorem Tryz.strconv_ParseInt_10_at64_range_var (s : ByteArray) (hlim : s.size ≤ 281474976710656) (h : Lib.parseIntB 64 s.data.toList = .range) (tp : TypeId) (p : Value) (w : World) (hvar : w.var? Tryz.prog "strconv.ErrRange" = some #[.iface tp p]) :
    Calls Tryz.prog 108 #[.string s, .int .i64 10, .int .i64 64] w fun e w' => ∃ N, e = .returned (.tuple #[.int .i64 (Lib.intSat 64 s.data.toList), .iface 188 (.pointer (some ⟨N, 0, none⟩))]) ∧ w.heap.size ≤ N ∧ w'.heap[N]? = some (.cells #[.string ⟨#[80, 97, 114, 115, 101, 73, 110, 116]⟩, .string s, .iface tp p] 201 (0, 0)) ∧ Below w.heap.size w w' := Any.strconv_ParseInt_10_at64_range_var Tryz.laysC174 s hlim h tp p w hvar
open Go.RowKit Go.Lib in
/-- strings.TrimPrefix: "TrimPrefix returns s without the provided leading prefix string. If s doesn't start with prefix, s is returned unchanged.": IT RETURNS 'Lib.trimPrefix s prefix'; the world is as it was. (LAID: no walk: one application.) -/
theorem Tryz.strings_TrimPrefix (s p : ByteArray) (w : World) :
    Calls Tryz.prog 109 #[.string s, .string p] w fun e w' => e = .returned (.string ⟨(Lib.trimPrefix s.data.toList p.data.toList).toArray⟩) ∧ w' = w := Any.strings_TrimPrefix Tryz.lays101 s p w
open Go.Lib in
/-- slices.Contains at []string: "Contains reports whether v is present in s.": IT RETURNS 'Lib.containsS (the elements) v', which is true just where v is among them ('Lib.containsS_iff'); the world is as it was. ITS CALLEE slices.Index IS MET BY ITS OWN CONTRACT OFF THE SHELF (lay that first): no loop is walked here. (LAID: no walk: one application.) -/
theorem Tryz.slices_Contains_string (b off n c : Nat) (zs : List ByteArray) (x : ByteArray) (w : World) (hz : n ≤ zs.length) (hbig : n ≤ 9223372036854775807) (hc : ∀ j, j < zs.length → w.cell? ⟨b, off + j, none⟩ = some (.string (zs.getD j ByteArray.empty))) :
    Calls Tryz.prog 77 #[.slice (some ⟨b, off, none⟩) n c, .string x] w fun e w' => e = .returned (.bool (Lib.containsS (zs.take n) x)) ∧ w' = w := Any.slices_Contains_string Tryz.lays110 b off n c zs x w hz hbig hc
open Go.Lib in
/-- The same at a slice of length 0, a nil one too. (LAID: no walk: one application.) -/
theorem Tryz.slices_Contains_string_empty (a : Option Addr) (c : Nat) (x : ByteArray) (w : World) :
    Calls Tryz.prog 77 #[.slice a 0 c, .string x] w fun e w' => e = .returned (.bool false) ∧ w' = w := Any.slices_Contains_string_empty Tryz.lays110 a c x w
open Go.Sort Go.RowKit in
theorem Tryz.slices_Sort_int (blk off cap : Nat) (zs : List Int) (w : World) (hH : Holds (Value.int .i64) w blk off zs.toArray) (hblk : blk < w.heap.size) (hsz : zs.length < 4611686018427387904) :
    Calls Tryz.prog 75 #[.slice (some ⟨blk, off, none⟩) zs.length cap] w fun e w' =>
      e = .returned (.tuple #[]) ∧ ∃ n os, w' = grow (putRow (Value.int .i64) (Sort.ahead w n) blk off (zs.mergeSort fun x y => decide (x ≤ y)).toArray) os := AnyM.slices_Sort_int Tryz.laysSlM5_f75 blk off cap zs w hH hblk hsz
open Go.RowKit Go.Sort in
/-- .. and plain. (LAID AT THE INSTANCE 'slices.Sort[[]int64,int64]': no walk: one application.) -/
theorem Tryz.slices_Sort_int_none (p : Option Addr) (cap : Nat) (w : World) :
    Calls Tryz.prog 75 #[.slice p 0 cap] w fun e w' => e = .returned (.tuple #[]) ∧ w' = w := AnyM.slices_Sort_int_none Tryz.laysSlM5_f75 p cap w
end Go.Proofs
namespace Go.Proofs.YtdpbnacabinlgaaGreatDoor
open Go.Lib

theorem dec_ne (u : Nat) : decDigits u ≠ [] := fun e => by
  have h := decDigits_length u
  have := nDigits_pos u
  rw [e] at h
  simp at h
  omega

theorem digit_toNat {d : Nat} (h : d < 10) : (UInt8.ofNat (48 + d)).toNat = 48 + d := by simp; omega

theorem dec_digits : ∀ (u : Nat), ∀ c ∈ decDigits u, 48 ≤ c.toNat ∧ c.toNat ≤ 57 := by
  intro u
  induction u using Nat.strongRecOn with
  | ind u ih =>
    intro c hc
    rw [decDigits] at hc
    split at hc
    · rename_i h
      simp only [List.mem_singleton] at hc
      subst hc
      rw [digit_toNat h]
      omega
    · rename_i h
      rcases List.mem_append.1 hc with hc | hc
      · exact ih (u / 10) (by omega) c hc
      · simp only [List.mem_singleton] at hc
        subst hc
        rw [digit_toNat (Nat.mod_lt _ (by omega))]
        have := Nat.mod_lt u (y := 10) (by omega)
        omega

/-- What is parsed of a number's digits, and of more behind them. -/
theorem parse_dec (u : Nat) (hu : u < 9223372036854775808) (r : List UInt8) : parseUint10 0 (decDigits u ++ r) = parseUint10 u r := by
  induction u using Nat.strongRecOn generalizing r with
  | ind u ih =>
    rw [decDigits]
    split
    · rename_i h
      rw [List.singleton_append, parseUint10]
      rw [digit_toNat h, if_pos (by omega), if_neg (by omega), if_neg (by omega)]
      congr 1
      omega
    · rename_i h
      rw [List.append_assoc, ih (u / 10) (by omega) (by omega), List.singleton_append, parseUint10]
      have := Nat.mod_lt u (y := 10) (by omega)
      rw [digit_toNat this, if_pos (by omega), if_neg (by omega), if_neg (by omega)]
      congr 1
      omega

theorem parse_itoa {n : Nat} (h : n < 9223372036854775808) : parseIntB 64 (decDigits n) = .ok (n : Int) := by
  have h1 := parse_dec n h []
  rw [List.append_nil] at h1
  rw [parseIntB_64]
  cases hd : decDigits n with
  | nil => exact absurd hd (dec_ne n)
  | cons c r =>
    have hc := dec_digits n c (by rw [hd]; simp)
    unfold atoiAll
    dsimp only
    have h43 : ¬ (c.toNat = 43 ∨ c.toNat = 45) := by omega
    have h45 : ¬ c.toNat = 45 := by omega
    rw [if_neg h43]
    rw [hd] at h1
    have h2 : parseMag (c :: r) = .ok n := by
      unfold parseMag
      rw [if_neg (by simp), h1]
      rfl
    rw [h2]
    dsimp only
    rw [if_neg (by omega), if_neg (by simp [h45]), if_neg h45]

/-- The name of a number's file. -/
def numName (mark : List UInt8) (n : Nat) : List UInt8 := mark ++ decDigits n
/-- The number of a file's name, as the program reckons it. -/
def numOf (mark nm : List UInt8) : Int :=
  match parseIntB 64 (trimPrefix nm mark) with
  | .ok v => if 1 ≤ v ∧ mark ++ itoa v = nm then v else 0
  | _ => 0

theorem itoa_nat (n : Nat) : itoa (n : Int) = decDigits n := by unfold itoa; rw [if_neg (by omega)]; simp

theorem trim_name (mark x : List UInt8) : trimPrefix (mark ++ x) mark = x := by
  unfold trimPrefix hasPrefix
  rw [if_pos (by simp)]
  simp

theorem numOf_name {mark : List UInt8} {n : Nat} (h1 : 1 ≤ n) (h2 : n < 9223372036854775808) : numOf mark (numName mark n) = n := by
  unfold numOf numName
  rw [trim_name, parse_itoa h2]
  dsimp only
  rw [if_pos ⟨by omega, by rw [itoa_nat]⟩]

theorem numOf_cases (mark nm : List UInt8) : numOf mark nm = 0 ∨ ∃ n : Nat, 1 ≤ n ∧ n < 9223372036854775808 ∧ numOf mark nm = n ∧ nm = numName mark n := by
  unfold numOf
  cases hp : parseIntB 64 (trimPrefix nm mark) with
  | ok v =>
    dsimp only
    by_cases h : 1 ≤ v ∧ mark ++ itoa v = nm
    · rw [if_pos h]
      have hb := parseIntB_bounds hp
      obtain ⟨n, rfl⟩ : ∃ n : Nat, v = n := ⟨v.toNat, by omega⟩
      refine Or.inr ⟨n, by omega, by have := hb.2; simp at this; omega, rfl, ?_⟩
      rw [← h.2, itoa_nat]
      rfl
    · rw [if_neg h]
      exact Or.inl rfl
  | _ => exact Or.inl rfl

theorem dec_inj : ∀ {a b : Nat}, decDigits a = decDigits b → a = b := by
  intro a
  induction a using Nat.strongRecOn with
  | ind a ih =>
    intro b h
    rw [decDigits, decDigits.eq_def b] at h
    by_cases ha : a < 10
    · rw [dif_pos ha] at h
      by_cases hb : b < 10
      · rw [dif_pos hb] at h
        injection h with h
        have h2 := congrArg UInt8.toNat h
        rw [digit_toNat ha, digit_toNat hb] at h2
        omega
      · rw [dif_neg hb] at h
        have h2 := congrArg List.length h
        simp at h2
        exact absurd h2 (dec_ne _)
    · rw [dif_neg ha] at h
      by_cases hb : b < 10
      · rw [dif_pos hb] at h
        have h2 := congrArg List.length h
        simp at h2
        exact absurd h2 (dec_ne _)
      · rw [dif_neg hb] at h
        obtain ⟨h1, h2⟩ := List.append_inj' h rfl
        have h3 := ih (a / 10) (by omega) h1
        injection h2 with h2
        have h4 := congrArg UInt8.toNat h2
        have := Nat.mod_lt a (y := 10) (by omega)
        have := Nat.mod_lt b (y := 10) (by omega)
        rw [digit_toNat (by omega), digit_toNat (by omega)] at h4
        omega

theorem numName_inj {mark : List UInt8} {a b : Nat} (h : numName mark a = numName mark b) : a = b := dec_inj (List.append_cancel_left h)

end Go.Proofs.YtdpbnacabinlgaaGreatDoor
namespace Go.Proofs.YtdpbnacabinlgaaGreatDoor
open Go.RowKit Go.Lib Go.Maps Go.ChangeMaps Go.Sort

theorem toLj (a : ByteArray) : a.toList = a.data.toList := ByteArray.toList_eq a

/-- The library's variables that names are reckoned with, in memory that nobody owns. -/
structure Vars (w : World) (own : Owner) : Prop where
  tab : TabIs Tryz.prog w "internal/strconv.uint64pow10" .u64 pow10Tab
  esyn : ∃ tp p, w.var? Tryz.prog "strconv.ErrSyntax" = some #[.iface tp p]
  eran : ∃ tp p, w.var? Tryz.prog "strconv.ErrRange" = some #[.iface tp p]
  free : own 0 = none ∧ own 1 = none ∧ own 2 = none
  lt : 2 < w.heap.size

theorem gTab : Tryz.prog.globalNamed "internal/strconv.uint64pow10" = some 0 := by kernel_rfl
theorem gSyn : Tryz.prog.globalNamed "strconv.ErrSyntax" = some 1 := by kernel_rfl
theorem gRan : Tryz.prog.globalNamed "strconv.ErrRange" = some 2 := by kernel_rfl

theorem var_same {w w' : World} {n : String} {g : Nat} (hg : Tryz.prog.globalNamed n = some g) (h : w'.heap[g]? = w.heap[g]?) : w'.var? Tryz.prog n = w.var? Tryz.prog n := by
  simp only [World.var?, hg, Option.bind_some, h]

theorem Vars.step {w w' : World} {own own' : Owner} (h : Vars w own) (hs : Step own own' w w') : Vars w' own' := by
  have hl := h.lt
  have k : ∀ b, b ≤ 2 → own b = none → w'.heap[b]? = w.heap[b]? := fun b hb ho => hs.fr.block b (by omega) (by simp [ho])
  obtain ⟨h0, h1, h2⟩ := h.free
  refine ⟨?_, ?_, ?_, ⟨hs.own 0 (by omega) h0, hs.own 1 (by omega) h1, hs.own 2 (by omega) h2⟩, Nat.lt_of_lt_of_le hl hs.fr.size⟩
  · unfold TabIs
    rw [var_same gTab (k 0 (by omega) h0)]
    exact h.tab
  · rw [var_same gSyn (k 1 (by omega) h1)]
    exact h.esyn
  · rw [var_same gRan (k 2 (by omega) h2)]
    exact h.eran
theorem Vars.below {w w' : World} {own : Owner} (h : Vars w own) (hb : Below w.heap.size w w') : Vars w' own := h.step (below_step own hb)

/-- A file's name as a text. -/
def nameB (mark : List UInt8) (n : Nat) : ByteArray := ⟨(numName mark n).toArray⟩
theorem nameB_list (mark : List UInt8) (n : Nat) : (nameB mark n).data.toList = numName mark n := by simp [nameB]

theorem grow_below {w w' : World} (h : ∃ k os, w' = grow (w.drewN k) os) : Below w.heap.size w w' := by
  obtain ⟨k, os, rfl⟩ := h
  exact below_grow _ w (Nat.le_refl _) k os

set_option maxRecDepth 100000 in
theorem nameOf_calls {w : World} {own : Owner} (hv : Vars w own) (s : ByteArray) (n : Nat) (hs : s.size ≤ 1000) (hn : n ≤ 9223372036854775807) :
    Calls Tryz.prog 80 #[.string s, .int .i64 n] w fun e w' => e = .returned (.string (nameB s.data.toList n)) ∧ Below w.heap.size w w' := by
  have hf := Tryz.strconv_FormatInt_10 (n : Int) (by omega) (by omega) w hv.tab
  rw [itoa_nat] at hf
  have hlen : (decDigits n).length ≤ 1000 := by
    rw [decDigits_length]
    have := nDigits_le20 n (by omega)
    omega
  have HF := Lib.hid hf
  have hsum : s.size + (decDigits n).length ≤ 2000 := by omega
  clear hf hv
  go_enter Tryz.func80, Tryz.ntmps80
  go_wp2_with fail
  refine HF.out.mono ?_
  rintro e w1 ⟨rfl, hb⟩
  have HB := Lib.hid (grow_below hb)
  clear hb
  go_wp2_with fail
  go_ret
  refine ⟨?_, HB.out⟩
  have e1 : s ++ (⟨(decDigits n).toArray⟩ : ByteArray) = nameB s.data.toList n := by
    apply ByteArray.ext
    apply Array.ext'
    simp [nameB, numName]
  rw [← e1]
  rfl

theorem bytesWorld_below2 {w w' : World} {t : TypeId} (h : w' = w ∨ ∃ s, w' = bytesWorld w t s) : Below w.heap.size w w' := by
  rcases h with rfl | ⟨s, rfl⟩
  · exact Below.refl _ _
  · exact ⟨rfl, rfl, rfl, by rw [bytesWorld_size]; omega, fun k hk => bytesWorld_at_old w t s k hk⟩

set_option maxHeartbeats 1000000 in
set_option maxRecDepth 100000 in
theorem numberOf_calls {w : World} {own : Owner} (hv : Vars w own) (s name : ByteArray) (hs : s.size ≤ 1000) (hn : name.size ≤ 1000) :
    Calls Tryz.prog 98 #[.string s, .string name] w fun e w' => e = .returned (.int .i64 (numOf s.data.toList name.data.toList)) ∧ Below w.heap.size w w' := by
  have ht := Tryz.strings_TrimPrefix name s w
  have hl : (trimPrefix name.data.toList s.data.toList).length ≤ 1000 := by
    have h0 : name.data.toList.length ≤ 1000 := by simpa using hn
    unfold trimPrefix
    split
    · rw [List.length_drop]; omega
    · exact h0
  obtain ⟨x, hx⟩ : ∃ x : ByteArray, x = ⟨(trimPrefix name.data.toList s.data.toList).toArray⟩ := ⟨_, rfl⟩
  have hxl : x.data.toList = trimPrefix name.data.toList s.data.toList := by rw [hx]
  have hxs : x.size ≤ 1000 := by rw [hx]; show (trimPrefix name.data.toList s.data.toList).toArray.size ≤ 1000; simpa using hl
  rw [← hx] at ht
  have HT := Lib.hid ht
  have HV := Lib.hid hv
  obtain ⟨z, hz⟩ : ∃ z, numOf s.data.toList name.data.toList = z := ⟨_, rfl⟩
  rw [hz]
  unfold numOf at hz
  rw [← hxl] at hz
  cases hp : parseIntB 64 x.data.toList with
  | range =>
    rw [hp] at hz
    obtain ⟨tp, p, hvar⟩ := hv.eran
    have HP := Lib.hid (Tryz.strconv_ParseInt_10_at64_range_var x (by omega) hp tp p w hvar)
    have hz0 : z = 0 := hz.symm
    subst hz0
    clear ht hv hz hp hvar hx hxl
    go_enter Tryz.func98, Tryz.ntmps98
    go_wp2_with fail
    refine HT.out.mono ?_
    rintro e w1 ⟨rfl, rfl⟩
    go_wp2_with fail
    refine HP.out.mono ?_
    rintro e w2 ⟨N, rfl, _, _, hb⟩
    have HB := Lib.hid hb
    clear hb
    go_wp2_with fail
    go_ret
    exact ⟨rfl, HB.out⟩
  | ok v =>
    rw [hp] at hz
    dsimp only at hz
    have hbd := parseIntB_bounds hp
    have hv1 : v ≤ 9223372036854775807 := by have := hbd.2; simp at this; omega
    have HP := Lib.hid (Tryz.strconv_ParseInt_10_at64_ok x (by omega) v hp w)
    by_cases h1 : 1 ≤ v
    rotate_left
    · rw [if_neg (fun h => h1 h.1)] at hz
      subst hz
      have hd : decide (v < 1) = true := by simp; omega
      clear ht hv hp hbd hx hxl
      go_enter Tryz.func98, Tryz.ntmps98
      go_wp2_with fail
      refine HT.out.mono ?_
      rintro e w1 ⟨rfl, rfl⟩
      go_wp2_with fail
      refine HP.out.mono ?_
      rintro e w2 ⟨rfl, hb⟩
      have HB := Lib.hid (bytesWorld_below2 hb)
      clear hb
      go_wp2_with fail
      go_ret
      exact ⟨rfl, HB.out⟩
    obtain ⟨n, rfl⟩ : ∃ n : Nat, v = n := ⟨v.toNat, by omega⟩
    have hd : decide ((n : Int) < 1) = false := by simp; omega
    have hd2 : decide (n < 1) = false := by simp; omega
    have HN : Hid (∀ W, Below w.heap.size w W → Calls Tryz.prog 80 #[.string s, .int .i64 n] W fun e w' => e = .returned (.string (nameB s.data.toList n)) ∧ Below W.heap.size W w') := fun W hW => nameOf_calls (hv.below hW) s n hs (by omega)
    rw [itoa_nat] at hz
    obtain ⟨nm, hnm⟩ : ∃ nm, nameB s.data.toList n = nm := ⟨_, rfl⟩
    rw [hnm] at HN
    have hnl : nm.data.toList = s.data.toList ++ decDigits n := by rw [← hnm, nameB_list]; rfl
    by_cases h2 : s.data.toList ++ decDigits n = name.data.toList
    · rw [if_pos ⟨h1, h2⟩] at hz
      subst hz
      have ht2 : (nm.toList == name.toList) = true := by rw [beq_iff_eq, toLj, toLj, hnl, h2]
      clear ht hv hp hbd hx hxl hnl hnm h2 h1
      go_enter Tryz.func98, Tryz.ntmps98
      go_wp2_with fail
      refine HT.out.mono ?_
      rintro e w1 ⟨rfl, rfl⟩
      go_wp2_with fail
      refine HP.out.mono ?_
      rintro e w2 ⟨rfl, hb⟩
      have HB := Lib.hid (bytesWorld_below2 hb)
      clear hb
      go_wp2_with fail
      refine (HN.out _ HB.out).mono ?_
      rintro e w3 ⟨rfl, hb3⟩
      have HB3 := Lib.hid (HB.out.trans (hb3.mono HB.out.size))
      clear hb3
      go_wp2_with fail
      go_ret
      exact ⟨rfl, HB3.out⟩
    · rw [if_neg (fun h => h2 h.2)] at hz
      subst hz
      have ht2 : (nm.toList == name.toList) = false := by rw [beq_eq_false_iff_ne, toLj, toLj, hnl]; exact h2
      clear ht hv hp hbd hx hxl hnl hnm h2 h1
      go_enter Tryz.func98, Tryz.ntmps98
      go_wp2_with fail
      refine HT.out.mono ?_
      rintro e w1 ⟨rfl, rfl⟩
      go_wp2_with fail
      refine HP.out.mono ?_
      rintro e w2 ⟨rfl, hb⟩
      have HB := Lib.hid (bytesWorld_below2 hb)
      clear hb
      go_wp2_with fail
      refine (HN.out _ HB.out).mono ?_
      rintro e w3 ⟨rfl, hb3⟩
      have HB3 := Lib.hid (HB.out.trans (hb3.mono HB.out.size))
      clear hb3
      go_wp2_with fail
      go_ret
      exact ⟨rfl, HB3.out⟩
  | _ =>
    rw [hp] at hz
    obtain ⟨tp, p, hvar⟩ := hv.esyn
    have HP := Lib.hid (Tryz.strconv_ParseInt_10_at64_no x (by omega) (fun v e => by rw [hp] at e; cases e) (fun e => by rw [hp] at e; cases e) tp p w hvar)
    have hz0 : z = 0 := hz.symm
    subst hz0
    clear ht hv hz hp hvar hx hxl
    go_enter Tryz.func98, Tryz.ntmps98
    go_wp2_with fail
    refine HT.out.mono ?_
    rintro e w1 ⟨rfl, rfl⟩
    go_wp2_with fail
    refine HP.out.mono ?_
    rintro e w2 ⟨N, rfl, _, _, hb⟩
    have HB := Lib.hid hb
    clear hb
    go_wp2_with fail
    go_ret
    exact ⟨rfl, HB.out⟩

end Go.Proofs.YtdpbnacabinlgaaGreatDoor
namespace Go.Proofs.YtdpbnacabinlgaaGreatDoor
open Go.RowKit Go.Lib Go.Maps Go.ChangeMaps Go.Sort

def logM : List UInt8 := [108, 111, 103, 45]
def snapM : List UInt8 := [115, 110, 97, 112, 45]

theorem read_le {S : Prop} {w : World} {own : Owner} {db fb rb : Nat} {D E : DataW Unit} {n : Nat} {m : DevM} (h : Dev S w own db fb rb D E n m) (k : List UInt8) : (readM m k).1.length ≤ 262144 := by
  unfold readM
  split
  · exact Nat.zero_le _
  · split
    · split
      · exact Nat.zero_le _
      · rename_i f hf
        obtain ⟨p, dv, _, hfa, _⟩ := h.fil _ f hf
        exact hfa.2.2.2
    · exact Nat.zero_le _

section
variable {S : Prop} {w w' : World} {own own' : Owner} {db fb rb : Nat} {D D' E E' : DataW Unit} {n n' : Nat} {m : DevM}

/-- What bytesOf leaves. -/
def BytesPost (w : World) (bs : List UInt8) (e : Ending) (w' : World) : Prop := ∃ (a : Option Addr) (c : Nat), e = .returned (.slice a bs.length c) ∧ w'.ownsRow w.heap.size 5 1 (.slice a bs.length c) bs.length (byteCells bs) ∧ Below w.heap.size w w'

set_option maxHeartbeats 1000000 in
set_option maxRecDepth 100000 in
theorem Dev.bytesOf (h : Dev S w own db fb rb D E n m) (hv : Vars w own) (s : ByteArray) (k : Nat) (hs : s.size ≤ 1000) (hk : k ≤ 9223372036854775807) :
    Calls Tryz.prog 51 #[.pointer (some ⟨db, 0, none⟩), .string s, .int .i64 k] w (BytesPost w (readM m (numName s.data.toList k)).1) := by
  have hnb : (nameB s.data.toList k).size ≤ maxLen := by
    have h1 : (nameB s.data.toList k).size = (numName s.data.toList k).length := by show (numName s.data.toList k).toArray.size = _; simp
    have h2 : s.data.toList.length ≤ 1000 := by simpa using hs
    have h3 := nDigits_le20 k (by omega)
    rw [h1]
    unfold numName maxLen
    rw [List.length_append, decDigits_length]
    omega
  have HN := Lib.hid (nameOf_calls hv s k hs hk)
  have HR : Hid (∀ W, Below w.heap.size w W → _) := fun W (hW : Below w.heap.size w W) => (h.below hW).read hnb
  rw [nameB_list] at HR
  clear h hv hnb
  go_enter Tryz.func51, Tryz.ntmps51
  go_wp2_with fail
  refine HN.out.mono ?_
  rintro e w1 ⟨rfl, hb1⟩
  have HB1 := Lib.hid hb1
  clear hb1
  go_wp2_with fail
  refine (HR.out _ HB1.out).mono ?_
  rintro e w2 ⟨v, rfl, hrow, hb2⟩
  obtain ⟨a, c, rfl⟩ := row_slice hrow
  have HB2 := Lib.hid (HB1.out.trans (hb2.mono HB1.out.size))
  have HROW := Lib.hid (ownsRow_base hrow HB1.out.size)
  clear hrow hb2
  go_wp2_with fail
  go_ret
  exact ⟨a, c, rfl, HROW.out, HB2.out⟩
end

/-- A journal in memory: its device, its last number, whether a log is written. -/
def JAt (w : World) (jb db last : Nat) (wr : Bool) : Prop := w.heap[jb]? = some (.cells #[.pointer (some ⟨db, 0, none⟩), .int .i64 last, .bool wr] 96 (0, 0))

section
variable {w w' : World} {jb db last : Nat} {wr : Bool}
theorem JAt.c0 (h : JAt w jb db last wr) : w.cell? ⟨jb, 0, none⟩ = some (.pointer (some ⟨db, 0, none⟩)) := cell_of_blk h rfl
theorem JAt.c1 (h : JAt w jb db last wr) : w.cell? ⟨jb, 1, none⟩ = some (.int .i64 last) := cell_of_blk h rfl
theorem JAt.c2 (h : JAt w jb db last wr) : w.cell? ⟨jb, 2, none⟩ = some (.bool wr) := cell_of_blk h rfl
theorem JAt.f (h : JAt w jb db last wr) (k : Nat) : w.frozen? ⟨jb, k, none⟩ = false := frozen_of_blk h
theorem JAt.lt (h : JAt w jb db last wr) : jb < w.heap.size := (Array.getElem?_eq_some_iff.1 h).1
theorem JAt.below (h : JAt w jb db last wr) (hb : Below w.heap.size w w') : JAt w' jb db last wr := (hb.block jb h.lt).trans h
theorem JAt.step {own own' : Owner} (h : JAt w jb db last wr) (hs : Step own own' w w') (ho : own jb = none) : JAt w' jb db last wr := (hs.fr.block jb h.lt (by simp [ho])).trans h
end

section
variable {S : Prop} {w w' : World} {own own' : Owner} {db fb rb jb last : Nat} {D D' E E' : DataW Unit} {n n' : Nat} {m : DevM}

set_option maxHeartbeats 2000000 in
set_option maxRecDepth 100000 in
theorem Dev.takes (h : Dev S w own db fb rb D E n m) (hv : Vars w own) {wr : Bool} (hj : JAt w jb db last wr) (hl : last ≤ 9223372036854775807) (k : Nat) (hk : k ≤ 1000000) :
    Calls Tryz.prog 63 #[.pointer (some ⟨jb, 0, none⟩), .int .i64 k] w fun e w' => e = .returned (.bool (wr && decide ((readM m (numName logM last)).1.length + k ≤ 1024))) ∧ Below w.heap.size w w' := by
  have c0 := hj.c0
  have c1 := hj.c1
  have c2 := hj.c2
  cases wr with
  | false =>
    clear h hv hj
    go_enter Tryz.func63, Tryz.ntmps63
    go_wp2_with fail
    go_quiet (fail)
    go_wp2_with fail
    go_ret
    exact ⟨rfl, below_drewN (Below.refl _ _) _⟩
  | true =>
    have hle := read_le h (numName logM last)
    obtain ⟨bs, hbs⟩ : ∃ bs, (readM m (numName logM last)).1 = bs := ⟨_, rfl⟩
    rw [hbs] at hle ⊢
    have HX : Hid (∀ W, Below w.heap.size w W → Calls Tryz.prog 51 #[.pointer (some ⟨db, 0, none⟩), .string ⟨#[108, 111, 103, 45]⟩, .int .i64 last] W (BytesPost W bs)) := fun W hW => by
      have h1 := (h.below hW).bytesOf (hv.below hW) ⟨#[108, 111, 103, 45]⟩ last (by decide) hl
      rw [← hbs]
      exact h1
    obtain ⟨bl, hbl⟩ : ∃ bl, bs.length = bl := ⟨_, rfl⟩
    have HBL := Lib.hid hbl
    rw [hbl] at hle ⊢
    have HJ := Lib.hid hj
    have hb0 : Below w.heap.size w w.drew := (Below.refl _ _).drew
    clear h hv hj hbs hbl
    have hwr : IntKind.i64.wrap ((bl : Int) + (k : Int)) = (bl : Int) + (k : Int) := IntWalk.i64_in _ ⟨by omega, by omega⟩
    by_cases hfit : bl + k ≤ 1024
    all_goals
      obtain ⟨t, ht⟩ : ∃ t, decide (bl + k ≤ 1024) = t := ⟨_, rfl⟩
      have e2 : decide ((bl : Int) + (k : Int) ≤ 1024) = t := by rw [← ht]; congr 1; exact propext ⟨fun h => by omega, fun h => by omega⟩
      have e3 : t = decide (bl + k ≤ 1024) := ht.symm
      rw [ht]
      simp only [hfit, decide_true, decide_false] at e3
      subst e3
      clear ht
      go_enter Tryz.func63, Tryz.ntmps63
      go_wp2_with fail
      go_region_held3 (fun W => W.cell? ⟨jb, 0, none⟩ = some (.pointer (some ⟨db, 0, none⟩)) ∧ W.cell? ⟨jb, 1, none⟩ = some (.int .i64 last) ∧ W.cell? ⟨jb, 2, none⟩ = some (.bool true))
        ((refine ⟨?_, ?_, ?_⟩ <;> assumption))
        (first
          | (go_at_call 51; refine (HX.out _ hb0).mono ?_; rintro e w1 ⟨a, c, rfl, hrow, hb1⟩; have hj1 := HJ.out.below (hb0.trans (hb1.mono hb0.size)); have y0 := hj1.c0; have y1 := hj1.c1; have y2 := hj1.c2; rw [HBL.out]))
      go_wp2_with fail
      go_ret
      exact ⟨rfl, hb0.trans (hb1.mono hb0.size)⟩
end

end Go.Proofs.YtdpbnacabinlgaaGreatDoor
namespace Go.Proofs.YtdpbnacabinlgaaGreatDoor
open Go.RowKit Go.Lib Go.Maps Go.ChangeMaps Go.Sort Go.Shelf

/-- A step: a function, what is bound to it, and what it has caught. -/
structure StepV where
  f : Nat
  b : Array Value
  c : Array Value

def StepV.val (p : StepV) : Value := .func (.func p.f) p.b p.c
def StepV.args (p : StepV) : Array Value := p.b ++ p.c

/-- What a row of steps leaves. -/
def RowPost (n : Nat) (I : Nat → World → Prop) (R : Int → World → Prop) (e : Ending) (w' : World) : Prop := ∃ c : Int, e = .returned (.int .i64 c) ∧ ((c = 0 ∧ I n w') ∨ (c ≠ 0 ∧ R c w'))

set_option maxHeartbeats 2000000 in
set_option maxRecDepth 100000 in
theorem inRow_calls (w : World) (A : Addr) (n c : Nat) (ps : List StepV) (hn : ps.length = n) (hn2 : n ≤ 1000000) (I : Nat → World → Prop) (R : Int → World → Prop) (h0 : I 0 w)
    (hrow : ∀ k W, I k W → ∀ j p, ps[j]? = some p → W.cell? (A.add j) = some p.val) (hent : ∀ p ∈ ps, Enters Tryz.prog p.f)
    (hstep : ∀ k p W, ps[k]? = some p → I k W → Calls Tryz.prog p.f p.args W fun e W' => ∃ x : Int, e = .returned (.int .i64 x) ∧ ((x = 0 ∧ I (k + 1) W') ∨ (x ≠ 0 ∧ R x W'))) :
    Calls Tryz.prog 46 #[.slice (some A) n c] w (RowPost n I R) := by
  have Hrow := Lib.hid hrow
  have Hent := Lib.hid hent
  have Hstep := Lib.hid hstep
  have Hn := Lib.hid hn
  have H0 : Hid (I 0 w) := h0
  clear hrow hent hstep hn h0
  go_enter Tryz.func46, Tryz.ntmps46
  go_wp2_with fail
  go_loopw [8] (fun i wr => ∃ k : Nat, k ≤ n ∧ i = .int .i64 k ∧ Hid (I k wr)) (fun i _ => n - (intOf i).toNat)
  case atStart => exact ⟨0, Nat.zero_le _, rfl, H0⟩
  case round =>
    obtain ⟨k, hk, rfl, HI⟩ := hrel
    by_cases hlt : k < n
    · obtain ⟨p, hp⟩ : ∃ p, ps[k]? = some p := ⟨_, List.getElem?_eq_getElem (by rw [Hn.out]; exact hlt)⟩
      have c0 := Hrow.out k wr HI.out k p hp
      have he : ∀ args w, (callFunc p.f args).run Tryz.prog w = .ok (.enter p.f args) w := Hent.out p (List.mem_of_getElem? hp)
      have HS := Lib.hid (Hstep.out k p wr hp HI.out)
      obtain ⟨f, b, cc⟩ := p
      unfold StepV.val at c0
      dsimp only at c0 he HS
      have hk0 : (0 : Int) ≤ (k : Int) := by omega
      have hk1 : (k : Int) < (n : Int) := by omega
      clear hp
      go_wp2_with fail
      refine HS.out.mono ?_
      rintro e w2 ⟨x, rfl, hx⟩
      rcases hx with ⟨rfl, hi⟩ | ⟨hx, hr⟩
      · have HI2 := Lib.hid hi
        clear hi c0 he HS
        go_wp2_with fail
        go_roundw
        case rel => exact ⟨k + 1, by omega, by go_num, HI2⟩
        case measure => simp [intOf]; omega
      · have t1 : (x != 0) = true := by rw [bne_iff_ne]; exact hx
        have HR2 := Lib.hid hr
        have HX := Lib.hid hx
        clear hr hx c0 he HS
        go_wp2_with fail
        go_ret
        exact ⟨x, rfl, Or.inr ⟨HX.out, HR2.out⟩⟩
    · obtain rfl : k = n := by omega
      go_wp2_with fail
      go_ret
      exact ⟨0, rfl, Or.inl ⟨rfl, HI.out⟩⟩

end Go.Proofs.YtdpbnacabinlgaaGreatDoor
namespace Go.Proofs.YtdpbnacabinlgaaGreatDoor
open Go.RowKit Go.Lib Go.Maps Go.ChangeMaps Go.Sort

theorem toL_eq' (a : ByteArray) : a.toList = a.data.toList := ByteArray.toList_eq a

theorem infoRF : (Tryz.prog.info? 87).map (fun i => (i.zero, i.size, i.bytes)) = some (some (.agg #[.string .empty, .slice none 0 0, .int .i64 0, .bool false]), 4, 56) := by kernel_rfl

/-- A file of the document's. -/
structure RF where
  name : ByteArray
  da : Option Addr
  dc : Nat
  data : List UInt8
  done : Nat
  there : Bool

def RF.nm (f : RF) : List UInt8 := f.name.data.toList
def RF.cells (f : RF) : List Value := [.string f.name, .slice f.da f.data.length f.dc, .int .i64 f.done, .bool f.there]

structure FAt (w : World) (own : Owner) (A : Addr) (j : Nat) (f : RF) : Prop where
  c0 : w.cell? (A.add (j * 4)) = some (.string f.name)
  c1 : w.cell? (fld A 4 j 1) = some (.slice f.da f.data.length f.dc)
  c2 : w.cell? (fld A 4 j 2) = some (.int .i64 f.done)
  c3 : w.cell? (fld A 4 j 3) = some (.bool f.there)
  hname : f.name.size ≤ maxLen
  hb : BArg w own (.slice f.da f.data.length f.dc) f.data
  hcap : f.data.length ≤ f.dc
  hl : f.data.length ≤ 262144
  hdone : f.done ≤ f.data.length

/-- Files that can be read, in memory that none of the two owns. -/
def FRow (w : World) (own : Owner) (a : Option Addr) (fs : List RF) : Prop := ∀ j f, fs[j]? = some f → ∃ A, a = some A ∧ own A.block = none ∧ FAt w own A j f

theorem fld_block (A : Addr) (s j f : Nat) : (fld A s j f).block = A.block := add_block A (j * s)

theorem FAt.step {w w' : World} {own own' : Owner} {A : Addr} {j : Nat} {f : RF} (h : FAt w own A j f) (hA : own A.block = none) (hs : Step own own' w w') : FAt w' own' A j f where
  c0 := hs.fr.cell h.c0 (by rw [add_block]; simp [hA])
  c1 := hs.fr.cell h.c1 (by rw [fld_block]; simp [hA])
  c2 := hs.fr.cell h.c2 (by rw [fld_block]; simp [hA])
  c3 := hs.fr.cell h.c3 (by rw [fld_block]; simp [hA])
  hname := h.hname
  hb := h.hb.step hs
  hcap := h.hcap
  hl := h.hl
  hdone := h.hdone

theorem FRow.step {w w' : World} {own own' : Owner} {a : Option Addr} {fs : List RF} (h : FRow w own a fs) (hs : Step own own' w w') : FRow w' own' a fs := fun j f hj => by
  obtain ⟨A, h1, h2, h3⟩ := h j f hj
  have hlt := World.block_lt_of_cell? _ _ h3.c0
  rw [add_block] at hlt
  exact ⟨A, h1, hs.own _ hlt h2, h3.step h2 hs⟩

theorem FRow.below {w w' : World} {own : Owner} {a : Option Addr} {fs : List RF} (h : FRow w own a fs) (hb : Below w.heap.size w w') : FRow w' own a fs := h.step (below_step own hb)

def rfCells (fs : List RF) : List Value := (fs.map RF.cells).flatten

theorem rfCells_length (fs : List RF) : (rfCells fs).length = fs.length * 4 := by
  induction fs with
  | nil => rfl
  | cons f fs ih => simp only [rfCells, List.map_cons, List.flatten_cons, List.length_append, List.length_cons] at *; simp [RF.cells] at *; omega

theorem rfCells_append (a b : List RF) : rfCells (a ++ b) = rfCells a ++ rfCells b := by simp [rfCells]
theorem rfCells_one (f : RF) : rfCells [f] = f.cells := by simp [rfCells]

theorem rfCells_at : ∀ (fs : List RF) (j : Nat) (f : RF), fs[j]? = some f → ∀ i, i < 4 → (rfCells fs)[j * 4 + i]? = f.cells[i]?
  | g :: fs, 0, f, h, i, hi => by
    simp at h
    subst h
    have : (rfCells (g :: fs)) = g.cells ++ rfCells fs := by simp [rfCells]
    rw [this, Nat.zero_mul, Nat.zero_add, List.getElem?_append_left (by simp [RF.cells]; omega)]
  | g :: fs, j + 1, f, h, i, hi => by
    have h1 : fs[j]? = some f := by simpa using h
    have ih := rfCells_at fs j f h1 i hi
    have : (rfCells (g :: fs)) = g.cells ++ rfCells fs := by simp [rfCells]
    rw [this, List.getElem?_append_right (by simp [RF.cells]; omega)]
    rw [← ih]
    congr 1
    simp [RF.cells]
    omega

theorem rf_oneCell (f : RF) : ∀ u ∈ f.cells, u.oneCell' = true := by
  intro u hu
  simp [RF.cells] at hu
  rcases hu with rfl | rfl | rfl | rfl <;> rfl

/-- What is good of a file, wherever it stands. -/
structure FGood (w : World) (own : Owner) (f : RF) : Prop where
  hname : f.name.size ≤ maxLen
  hb : BArg w own (.slice f.da f.data.length f.dc) f.data
  hcap : f.data.length ≤ f.dc
  hl : f.data.length ≤ 262144
  hdone : f.done ≤ f.data.length

theorem FAt.good {w : World} {own : Owner} {A : Addr} {j : Nat} {f : RF} (h : FAt w own A j f) : FGood w own f := ⟨h.hname, h.hb, h.hcap, h.hl, h.hdone⟩
theorem FGood.step {w w' : World} {own own' : Owner} {f : RF} (h : FGood w own f) (hs : Step own own' w w') : FGood w' own' f := ⟨h.hname, h.hb.step hs, h.hcap, h.hl, h.hdone⟩

theorem FRow.good {w : World} {own : Owner} {a : Option Addr} {fs : List RF} (h : FRow w own a fs) : ∀ f ∈ fs, FGood w own f := fun f hf => by
  obtain ⟨j, hj, rfl⟩ := List.mem_iff_getElem.1 hf
  obtain ⟨A, _, _, h3⟩ := h j _ (List.getElem?_eq_getElem hj)
  exact h3.good

theorem FRow.of_owns {w : World} {own : Owner} {B : Nat} {v : Value} {n : Nat} {fs : List RF} (h : w.ownsRow B 87 4 v n (rfCells fs)) (ho : ∀ b, B ≤ b → own b = none) (hg : ∀ f ∈ fs, FGood w own f) : ∃ a c, v = .slice a fs.length c ∧ FRow w own a fs ∧ n = fs.length := by
  have hn : n = fs.length := by have := h.1; rw [rfCells_length] at this; omega
  subst hn
  have hc := fun g hg => h.cells (g := g) hg
  rcases h.2 with ⟨rfl, h0⟩ | ⟨g, cap, cur, rfl, hB, _⟩
  · obtain rfl : fs = [] := List.eq_nil_of_length_eq_zero h0
    exact ⟨none, 0, rfl, fun j s hj => by simp at hj, rfl⟩
  · refine ⟨_, cap, rfl, fun j f hj => ⟨_, rfl, ho g hB, ?_⟩, rfl⟩
    have hf := hg f (List.mem_of_getElem? hj)
    have hcell : ∀ i, i < 4 → ∀ u, f.cells[i]? = some u → w.cell? ((⟨g, 0, none⟩ : Addr).add (j * 4 + i)) = some u := fun i hi u hu => hc g rfl _ u (by rw [rfCells_at fs j f hj i hi]; exact hu)
    have hadd : ∀ i, (⟨g, 0, none⟩ : Addr).add i = ⟨g, i, none⟩ := fun i => by unfold Addr.add; split <;> simp_all
    have hfld : ∀ i, fld (⟨g, 0, none⟩ : Addr) 4 j i = (⟨g, 0, none⟩ : Addr).add (j * 4 + i) := fun i => by
      unfold fld
      rw [hadd, hadd]
    exact ⟨hcell 0 (by omega) _ rfl, by rw [hfld]; exact hcell 1 (by omega) _ rfl, by rw [hfld]; exact hcell 2 (by omega) _ rfl, by rw [hfld]; exact hcell 3 (by omega) _ rfl, hf.hname, hf.hb, hf.hcap, hf.hl, hf.hdone⟩

/-- Where a name stands; below 0: nowhere. -/
def findI (fs : List RF) (nm : List UInt8) : Int := match fs.findIdx? (fun f => f.nm == nm) with | some i => i | none => -1

theorem findI_here {fs : List RF} {nm : List UInt8} {k : Nat} {f : RF} (h : fs[k]? = some f) (he : f.nm = nm) (hall : ∀ (j : Nat) (g : RF), j < k → fs[j]? = some g → g.nm ≠ nm) : findI fs nm = k := by
  have h1 : fs.findIdx? (fun f => f.nm == nm) = some k := by
    rw [List.findIdx?_eq_some_iff_getElem]
    obtain ⟨hk, e⟩ := List.getElem?_eq_some_iff.1 h
    refine ⟨hk, by rw [e]; simpa using he, fun j hj => ?_⟩
    have := hall j fs[j] hj (List.getElem?_eq_getElem (by omega))
    simpa using this
  unfold findI
  rw [h1]
theorem findI_none {fs : List RF} {nm : List UInt8} (hall : ∀ (j : Nat) (g : RF), fs[j]? = some g → g.nm ≠ nm) : findI fs nm = -1 := by
  have h1 : fs.findIdx? (fun f => f.nm == nm) = none := by
    rw [List.findIdx?_eq_none_iff]
    intro f hf
    obtain ⟨j, hj⟩ := List.getElem?_of_mem hf
    simpa using hall j f hj
  unfold findI
  rw [h1]

set_option maxHeartbeats 1000000 in
set_option maxRecDepth 100000 in
theorem rfind_calls (w : World) (own : Owner) (a : Option Addr) (c : Nat) (fs : List RF) (name : ByteArray) (h : FRow w own a fs) (hl : fs.length ≤ 1000000) :
    Calls Tryz.prog 41 #[.slice a fs.length c, .string name] w fun e w' => e = .returned (.int .i64 (findI fs name.data.toList)) ∧ w = w' := by
  have H := Lib.hid h
  obtain ⟨z, hz⟩ : ∃ z, findI fs name.data.toList = z := ⟨_, rfl⟩
  rw [hz]
  have Hz := Lib.hid hz
  obtain ⟨l, hll⟩ : ∃ l, fs.length = l := ⟨_, rfl⟩
  rw [hll] at hl ⊢
  have Hl := Lib.hid hll
  clear h hz hll
  go_enter Tryz.func41, Tryz.ntmps41
  go_wp2
  go_loop [5] (fun i => ∃ k : Nat, k ≤ l ∧ i = .int .i64 k ∧ Hid (∀ (j : Nat) (g : RF), j < k → fs[j]? = some g → g.nm ≠ name.data.toList)) (fun i => l - (intOf i).toNat)
  case atStart => exact ⟨0, Nat.zero_le _, rfl, fun j g hj => absurd hj (Nat.not_lt_zero j)⟩
  case round =>
    obtain ⟨k, hk, rfl, Hall⟩ := hrel
    by_cases hlt : k < l
    · obtain ⟨f, hf⟩ : ∃ f, fs[k]? = some f := ⟨_, List.getElem?_eq_getElem (by rw [Hl.out]; exact hlt)⟩
      obtain ⟨A, rfl, _, hat⟩ := H.out k f hf
      have c0 := hat.c0
      by_cases he : f.nm = name.data.toList
      · have ht : (f.name.toList == name.toList) = true := by rw [toL_eq', toL_eq']; exact beq_iff_eq.2 he
        obtain rfl : z = k := Hz.out.symm.trans (findI_here hf he Hall.out)
        clear hf hat he
        go_wp2
        go_ret
        exact ⟨rfl, rfl⟩
      · have ht : (f.name.toList == name.toList) = false := by rw [toL_eq', toL_eq']; exact beq_eq_false_iff_ne.2 he
        have Hall' : Hid (∀ (j : Nat) (g : RF), j < k + 1 → fs[j]? = some g → g.nm ≠ name.data.toList) := fun j g hj hg => by
          rcases Nat.lt_succ_iff_lt_or_eq.1 hj with h | h
          · exact Hall.out j g h hg
          · subst h; rw [hf] at hg; injection hg with hg; rw [← hg]; exact he
        clear hf hat he
        go_wp2
        go_round
        case rel => exact ⟨k + 1, by omega, by go_num, Hall'⟩
        case measure => simp [intOf]; omega
    · obtain rfl : z = -1 := Hz.out.symm.trans (findI_none (fun j g hg => Hall.out j g (by have := (List.getElem?_eq_some_iff.1 hg).1; rw [Hl.out] at this; omega) hg))
      go_wp2
      go_ret
      exact ⟨rfl, rfl⟩

end Go.Proofs.YtdpbnacabinlgaaGreatDoor
