/- Texts laid together: Shelf12, Shelf, Plain01, Base, Ints, Signs. -/
import Derived.Shelf.Strings.Cut
import Derived.Shelf.Strings.Split
import Derived.Shelf.Strings.IndexAnyAll
import Derived.Shelf.Small.Wraps
import Derived.Shelf.Strings.Runes
import Derived.Shelf.Small.Utf8
import Derived.Test.YtolfkhflbjnakaaGreatDoorProg
import Derived.Shelf.Strings.Builder2
import Derived.Shelf.Strings.BuilderK
import Derived.Shelf.Strings.BuilderRune
import Derived.Shelf.Utf8.RuneCount
import Derived.Lib.RuneBytes
import Derived.Lib.RuneCount
import Derived.WalkKit
import Derived.Below
import Derived.OwnWalk
import Derived.Lib.OthersKept
import Derived.Deep.AppendLies
import Derived.Lib.Hide
import Derived.BigCall

/- The library's own contracts (strings.Cut, CutPrefix, SplitN, IndexAny) at this translation's numbers. -/
set_option linter.unusedVariables false
namespace Go.Proofs.YtolfkhflbjnakaaGreatDoor
open Go.Shelf Go.RowKit
def layCut_ren : Go.Shelf.Ren := ⟨fun | 145 => 111 | 217 => 178 | 219 => 164 | 220 => 144 | 224 => 170 | 225 => 171 | 266 => 185 | 267 => 179 | 314 => 186 | n => n, fun | 3 => 3 | 4 => 4 | 5 => 5 | 9 => 9 | 46 => 111 | 51 => 142 | 59 => 134 | 146 => 198 | n => n, fun | 1 => 1 | n => n⟩
theorem layCut : Lays.n145 Tryz.prog layCut_ren := {
  mixed := by kernel_rfl
  f145 := Tryz.func111.trans (congrArg some (by kernel_rfl))
  f217 := Tryz.func178.trans (congrArg some (by kernel_rfl))
  f219 := Tryz.func164.trans (congrArg some (by kernel_rfl))
  f220 := Tryz.func144.trans (congrArg some (by kernel_rfl))
  f224 := Tryz.func170.trans (congrArg some (by kernel_rfl))
  f225 := Tryz.func171.trans (congrArg some (by kernel_rfl))
  f266 := Tryz.func185.trans (congrArg some (by kernel_rfl))
  f267 := Tryz.func179.trans (congrArg some (by kernel_rfl))
  f314 := Tryz.func186.trans (congrArg some (by kernel_rfl))
  t3 := Tryz.underlying3
  a3 := Tryz.isAgg3
  z3 := Tryz.sizeOf3
  v3 := Tryz.zeroValue3
  t4 := Tryz.underlying4
  a4 := Tryz.isAgg4
  z4 := Tryz.sizeOf4
  v4 := Tryz.zeroValue4
  t5 := Tryz.underlying5
  a5 := Tryz.isAgg5
  z5 := Tryz.sizeOf5
  v5 := Tryz.zeroValue5
  t9 := Tryz.underlying9
  a9 := Tryz.isAgg9
  z9 := Tryz.sizeOf9
  v9 := Tryz.zeroValue9
  t46 := Tryz.underlying111
  a46 := Tryz.isAgg111
  z46 := Tryz.sizeOf111
  v46 := Tryz.zeroValue111
  t51 := Tryz.underlying142
  a51 := Tryz.isAgg142
  z51 := Tryz.sizeOf142
  v51 := Tryz.zeroValue142
  t59 := Tryz.underlying134
  a59 := Tryz.isAgg134
  z59 := Tryz.sizeOf134
  v59 := Tryz.zeroValue134
  t146 := Tryz.underlying198
  a146 := Tryz.isAgg198
  z146 := Tryz.sizeOf198
  v146 := Tryz.zeroValue198
  g1 := by kernel_rfl }
def layCutPrefix_ren : Go.Shelf.Ren := ⟨fun | 103 => 109 | 206 => 163 | 210 => 143 | n => n, fun | 3 => 3 | 4 => 4 | 9 => 9 | 24 => 97 | n => n, fun | n => n⟩
theorem layCutPrefix : Lays.n103 Tryz.prog layCutPrefix_ren := {
  mixed := by kernel_rfl
  f103 := Tryz.func109.trans (congrArg some (by kernel_rfl))
  f206 := Tryz.func163.trans (congrArg some (by kernel_rfl))
  f210 := Tryz.func143.trans (congrArg some (by kernel_rfl))
  t3 := Tryz.underlying3
  a3 := Tryz.isAgg3
  z3 := Tryz.sizeOf3
  v3 := Tryz.zeroValue3
  t4 := Tryz.underlying4
  a4 := Tryz.isAgg4
  z4 := Tryz.sizeOf4
  v4 := Tryz.zeroValue4
  t9 := Tryz.underlying9
  a9 := Tryz.isAgg9
  z9 := Tryz.sizeOf9
  v9 := Tryz.zeroValue9
  t24 := Tryz.underlying97
  a24 := Tryz.isAgg97
  z24 := Tryz.sizeOf97
  v24 := Tryz.zeroValue97 }
def laySplitN_ren : Go.Shelf.Ren := ⟨fun | 138 => 166 | 143 => 167 | 147 => 112 | 195 => 155 | 197 => 180 | 217 => 178 | 218 => 181 | 219 => 164 | 221 => 145 | 224 => 170 | 225 => 171 | 260 => 187 | 266 => 185 | 267 => 179 | 268 => 165 | 314 => 186 | n => n, fun | 0 => 0 | 3 => 3 | 4 => 4 | 5 => 5 | 9 => 9 | 21 => 21 | 31 => 24 | 46 => 111 | 51 => 142 | 105 => 194 | 119 => 200 | 138 => 202 | 139 => 203 | 146 => 198 | n => n, fun | 1 => 1 | 3 => 2 | 4 => 3 | n => n⟩
theorem laySplitN : Lays.n147 Tryz.prog laySplitN_ren := {
  mixed := by kernel_rfl
  f138 := Tryz.func166.trans (congrArg some (by kernel_rfl))
  f143 := Tryz.func167.trans (congrArg some (by kernel_rfl))
  f147 := Tryz.func112.trans (congrArg some (by kernel_rfl))
  f195 := Tryz.func155.trans (congrArg some (by kernel_rfl))
  f197 := Tryz.func180.trans (congrArg some (by kernel_rfl))
  f217 := Tryz.func178.trans (congrArg some (by kernel_rfl))
  f218 := Tryz.func181.trans (congrArg some (by kernel_rfl))
  f219 := Tryz.func164.trans (congrArg some (by kernel_rfl))
  f221 := Tryz.func145.trans (congrArg some (by kernel_rfl))
  f224 := Tryz.func170.trans (congrArg some (by kernel_rfl))
  f225 := Tryz.func171.trans (congrArg some (by kernel_rfl))
  f260 := Tryz.func187.trans (congrArg some (by kernel_rfl))
  f266 := Tryz.func185.trans (congrArg some (by kernel_rfl))
  f267 := Tryz.func179.trans (congrArg some (by kernel_rfl))
  f268 := Tryz.func165.trans (congrArg some (by kernel_rfl))
  f314 := Tryz.func186.trans (congrArg some (by kernel_rfl))
  t0 := Tryz.underlying0
  a0 := Tryz.isAgg0
  z0 := Tryz.sizeOf0
  v0 := Tryz.zeroValue0
  t3 := Tryz.underlying3
  a3 := Tryz.isAgg3
  z3 := Tryz.sizeOf3
  v3 := Tryz.zeroValue3
  t4 := Tryz.underlying4
  a4 := Tryz.isAgg4
  z4 := Tryz.sizeOf4
  v4 := Tryz.zeroValue4
  t5 := Tryz.underlying5
  a5 := Tryz.isAgg5
  z5 := Tryz.sizeOf5
  v5 := Tryz.zeroValue5
  t9 := Tryz.underlying9
  a9 := Tryz.isAgg9
  z9 := Tryz.sizeOf9
  v9 := Tryz.zeroValue9
  t21 := Tryz.underlying21
  a21 := Tryz.isAgg21
  z21 := Tryz.sizeOf21
  v21 := Tryz.zeroValue21
  t31 := Tryz.underlying24
  a31 := Tryz.isAgg24
  z31 := Tryz.sizeOf24
  v31 := Tryz.zeroValue24
  t46 := Tryz.underlying111
  a46 := Tryz.isAgg111
  z46 := Tryz.sizeOf111
  v46 := Tryz.zeroValue111
  t51 := Tryz.underlying142
  a51 := Tryz.isAgg142
  z51 := Tryz.sizeOf142
  v51 := Tryz.zeroValue142
  t105 := Tryz.underlying194
  a105 := Tryz.isAgg194
  z105 := Tryz.sizeOf194
  v105 := Tryz.zeroValue194
  t119 := Tryz.underlying200
  a119 := Tryz.isAgg200
  z119 := Tryz.sizeOf200
  t138 := Tryz.underlying202
  a138 := Tryz.isAgg202
  z138 := Tryz.sizeOf202
  v138 := Tryz.zeroValue202
  t139 := Tryz.underlying203
  a139 := Tryz.isAgg203
  z139 := Tryz.sizeOf203
  v139 := Tryz.zeroValue203
  t146 := Tryz.underlying198
  a146 := Tryz.isAgg198
  z146 := Tryz.sizeOf198
  v146 := Tryz.zeroValue198
  g1 := by kernel_rfl
  g3 := by kernel_rfl
  g4 := by kernel_rfl }
def layIndexAny_ren : Go.Shelf.Ren := ⟨fun | 119 => 169 | 137 => 168 | 152 => 146 | 153 => 113 | 217 => 178 | 224 => 170 | 225 => 171 | 226 => 147 | 227 => 148 | 228 => 149 | 266 => 185 | n => n, fun | 0 => 0 | 3 => 3 | 4 => 4 | 5 => 5 | 9 => 9 | 21 => 21 | 46 => 111 | 116 => 171 | 117 => 172 | 124 => 189 | n => n, fun | n => n⟩
theorem layIndexAny : Lays.n153 Tryz.prog layIndexAny_ren := {
  mixed := by kernel_rfl
  f119 := Tryz.func169.trans (congrArg some (by kernel_rfl))
  f137 := Tryz.func168.trans (congrArg some (by kernel_rfl))
  f152 := Tryz.func146.trans (congrArg some (by kernel_rfl))
  f153 := Tryz.func113.trans (congrArg some (by kernel_rfl))
  f217 := Tryz.func178.trans (congrArg some (by kernel_rfl))
  f224 := Tryz.func170.trans (congrArg some (by kernel_rfl))
  f225 := Tryz.func171.trans (congrArg some (by kernel_rfl))
  f226 := Tryz.func147.trans (congrArg some (by kernel_rfl))
  f227 := Tryz.func148.trans (congrArg some (by kernel_rfl))
  f228 := Tryz.func149.trans (congrArg some (by kernel_rfl))
  f266 := Tryz.func185.trans (congrArg some (by kernel_rfl))
  t0 := Tryz.underlying0
  a0 := Tryz.isAgg0
  z0 := Tryz.sizeOf0
  v0 := Tryz.zeroValue0
  t3 := Tryz.underlying3
  a3 := Tryz.isAgg3
  z3 := Tryz.sizeOf3
  v3 := Tryz.zeroValue3
  t4 := Tryz.underlying4
  a4 := Tryz.isAgg4
  z4 := Tryz.sizeOf4
  v4 := Tryz.zeroValue4
  t5 := Tryz.underlying5
  a5 := Tryz.isAgg5
  z5 := Tryz.sizeOf5
  v5 := Tryz.zeroValue5
  t9 := Tryz.underlying9
  a9 := Tryz.isAgg9
  z9 := Tryz.sizeOf9
  v9 := Tryz.zeroValue9
  t21 := Tryz.underlying21
  a21 := Tryz.isAgg21
  z21 := Tryz.sizeOf21
  v21 := Tryz.zeroValue21
  t46 := Tryz.underlying111
  a46 := Tryz.isAgg111
  z46 := Tryz.sizeOf111
  v46 := Tryz.zeroValue111
  t116 := Tryz.underlying171
  a116 := Tryz.isAgg171
  z116 := Tryz.sizeOf171
  t117 := Tryz.underlying172
  a117 := Tryz.isAgg172
  z117 := Tryz.sizeOf172
  v117 := Tryz.zeroValue172
  t124 := Tryz.underlying189
  a124 := Tryz.isAgg189
  z124 := Tryz.sizeOf189
  v124 := Tryz.zeroValue189 }
def layIndexRune_ren : Go.Shelf.Ren := ⟨fun | 119 => 169 | 137 => 168 | 152 => 146 | 217 => 178 | 224 => 170 | 225 => 171 | 266 => 185 | n => n, fun | 0 => 0 | 3 => 3 | 4 => 4 | 5 => 5 | 9 => 9 | 21 => 21 | 46 => 111 | n => n, fun | n => n⟩
theorem layIndexRune : Lays.n152 Tryz.prog layIndexRune_ren := {
  mixed := by kernel_rfl
  f119 := Tryz.func169.trans (congrArg some (by kernel_rfl))
  f137 := Tryz.func168.trans (congrArg some (by kernel_rfl))
  f152 := Tryz.func146.trans (congrArg some (by kernel_rfl))
  f217 := Tryz.func178.trans (congrArg some (by kernel_rfl))
  f224 := Tryz.func170.trans (congrArg some (by kernel_rfl))
  f225 := Tryz.func171.trans (congrArg some (by kernel_rfl))
  f266 := Tryz.func185.trans (congrArg some (by kernel_rfl))
  t0 := Tryz.underlying0
  a0 := Tryz.isAgg0
  z0 := Tryz.sizeOf0
  v0 := Tryz.zeroValue0
  t3 := Tryz.underlying3
  a3 := Tryz.isAgg3
  z3 := Tryz.sizeOf3
  v3 := Tryz.zeroValue3
  t4 := Tryz.underlying4
  a4 := Tryz.isAgg4
  z4 := Tryz.sizeOf4
  v4 := Tryz.zeroValue4
  t5 := Tryz.underlying5
  a5 := Tryz.isAgg5
  z5 := Tryz.sizeOf5
  v5 := Tryz.zeroValue5
  t9 := Tryz.underlying9
  a9 := Tryz.isAgg9
  z9 := Tryz.sizeOf9
  v9 := Tryz.zeroValue9
  t21 := Tryz.underlying21
  a21 := Tryz.isAgg21
  z21 := Tryz.sizeOf21
  v21 := Tryz.zeroValue21
  t46 := Tryz.underlying111
  a46 := Tryz.isAgg111
  z46 := Tryz.sizeOf111
  v46 := Tryz.zeroValue111 }
def layValidRune_ren : Go.Shelf.Ren := ⟨fun | 119 => 169 | n => n, fun | 4 => 4 | 21 => 21 | n => n, fun | n => n⟩
theorem layValidRune : Lays.n119 Tryz.prog layValidRune_ren := {
  mixed := by kernel_rfl
  f119 := Tryz.func169.trans (congrArg some (by kernel_rfl))
  t4 := Tryz.underlying4
  a4 := Tryz.isAgg4
  z4 := Tryz.sizeOf4
  v4 := Tryz.zeroValue4
  t21 := Tryz.underlying21
  a21 := Tryz.isAgg21
  z21 := Tryz.sizeOf21
  v21 := Tryz.zeroValue21 }
def layIndexS_ren : Go.Shelf.Ren := ⟨fun | 143 => 167 | 217 => 178 | 219 => 164 | 224 => 170 | 225 => 171 | 266 => 185 | 267 => 179 | 314 => 186 | n => n, fun | 3 => 3 | 4 => 4 | 5 => 5 | 9 => 9 | 46 => 111 | 51 => 142 | 146 => 198 | n => n, fun | 1 => 1 | n => n⟩
theorem layIndexS : Lays.n143 Tryz.prog layIndexS_ren := {
  mixed := by kernel_rfl
  f143 := Tryz.func167.trans (congrArg some (by kernel_rfl))
  f217 := Tryz.func178.trans (congrArg some (by kernel_rfl))
  f219 := Tryz.func164.trans (congrArg some (by kernel_rfl))
  f224 := Tryz.func170.trans (congrArg some (by kernel_rfl))
  f225 := Tryz.func171.trans (congrArg some (by kernel_rfl))
  f266 := Tryz.func185.trans (congrArg some (by kernel_rfl))
  f267 := Tryz.func179.trans (congrArg some (by kernel_rfl))
  f314 := Tryz.func186.trans (congrArg some (by kernel_rfl))
  t3 := Tryz.underlying3
  a3 := Tryz.isAgg3
  z3 := Tryz.sizeOf3
  v3 := Tryz.zeroValue3
  t4 := Tryz.underlying4
  a4 := Tryz.isAgg4
  z4 := Tryz.sizeOf4
  v4 := Tryz.zeroValue4
  t5 := Tryz.underlying5
  a5 := Tryz.isAgg5
  z5 := Tryz.sizeOf5
  v5 := Tryz.zeroValue5
  t9 := Tryz.underlying9
  a9 := Tryz.isAgg9
  z9 := Tryz.sizeOf9
  v9 := Tryz.zeroValue9
  t46 := Tryz.underlying111
  a46 := Tryz.isAgg111
  z46 := Tryz.sizeOf111
  v46 := Tryz.zeroValue111
  t51 := Tryz.underlying142
  a51 := Tryz.isAgg142
  z51 := Tryz.sizeOf142
  v51 := Tryz.zeroValue142
  t146 := Tryz.underlying198
  a146 := Tryz.isAgg198
  z146 := Tryz.sizeOf198
  v146 := Tryz.zeroValue198
  g1 := by kernel_rfl }
end Go.Proofs.YtolfkhflbjnakaaGreatDoor

/- The library's own contracts (strings.Builder, utf8.RuneCountInString) at this translation's numbers. -/
namespace Go.Proofs.YtolfkhflbjnakaaGreatDoor
open Go.Shelf Go.RowKit
def layCount_ren : Go.Shelf.Ren := ⟨fun | 195 => 155 | n => n, fun | 0 => 0 | 3 => 3 | 4 => 4 | 9 => 9 | n => n, fun | n => n⟩
theorem layCount : Lays.n195 Tryz.prog layCount_ren := {
  mixed := by kernel_rfl
  f195 := Tryz.func155.trans (congrArg some (by kernel_rfl))
  t0 := Tryz.underlying0
  a0 := Tryz.isAgg0
  z0 := Tryz.sizeOf0
  v0 := Tryz.zeroValue0
  t3 := Tryz.underlying3
  a3 := Tryz.isAgg3
  z3 := Tryz.sizeOf3
  v3 := Tryz.zeroValue3
  t4 := Tryz.underlying4
  a4 := Tryz.isAgg4
  z4 := Tryz.sizeOf4
  v4 := Tryz.zeroValue4
  t9 := Tryz.underlying9
  a9 := Tryz.isAgg9
  z9 := Tryz.sizeOf9
  v9 := Tryz.zeroValue9 }
def layString_ren : Go.Shelf.Ren := ⟨fun | 169 => 141 | n => n, fun | 0 => 0 | 3 => 3 | 5 => 5 | 9 => 9 | 37 => 40 | 70 => 159 | 72 => 161 | 127 => 183 | n => n, fun | n => n⟩
theorem layString : Lays.n169 Tryz.prog layString_ren := {
  mixed := by kernel_rfl
  f169 := Tryz.func141.trans (congrArg some (by kernel_rfl))
  t0 := Tryz.underlying0
  a0 := Tryz.isAgg0
  z0 := Tryz.sizeOf0
  v0 := Tryz.zeroValue0
  t3 := Tryz.underlying3
  a3 := Tryz.isAgg3
  z3 := Tryz.sizeOf3
  v3 := Tryz.zeroValue3
  t9 := Tryz.underlying9
  a9 := Tryz.isAgg9
  z9 := Tryz.sizeOf9
  v9 := Tryz.zeroValue9
  t37 := Tryz.underlying40
  a37 := Tryz.isAgg40
  z37 := Tryz.sizeOf40
  v37 := Tryz.zeroValue40
  t70 := Tryz.underlying159
  a70 := Tryz.isAgg159
  z70 := Tryz.sizeOf159
  v70 := Tryz.zeroValue159
  t72 := Tryz.underlying161
  a72 := Tryz.isAgg161
  z72 := Tryz.sizeOf161
  v72 := Tryz.zeroValue161
  t127 := Tryz.underlying183
  a127 := Tryz.isAgg183
  z127 := Tryz.sizeOf183
  v127 := Tryz.zeroValue183 }
theorem extraString : Builder.Extra Tryz.prog layString_ren := {
  sizeBuilder := by kernel_rfl
  liesBuilder := by kernel_rfl
  t5 := Tryz.underlying5
  a5 := Tryz.isAgg5
  z5 := Tryz.sizeOf5
  v5 := Tryz.zeroValue5
  infoByte := by kernel_rfl
  cellsByte := by kernel_rfl
  sizeByte := by kernel_rfl
  neB5 := by decide }
def layRune_ren : Go.Shelf.Ren := ⟨fun | 168 => 190 | 240 => 160 | 242 => 192 | 276 => 174 | 278 => 193 | n => n, fun | 0 => 0 | 3 => 3 | 4 => 4 | 5 => 5 | 9 => 9 | 20 => 20 | 21 => 21 | 37 => 40 | 46 => 111 | 51 => 142 | 70 => 159 | 72 => 161 | 75 => 164 | 80 => 100 | 164 => 102 | n => n, fun | n => n⟩
theorem layRune : Lays.n168 Tryz.prog layRune_ren := {
  mixed := by kernel_rfl
  f168 := Tryz.func190.trans (congrArg some (by kernel_rfl))
  f240 := Tryz.func160.trans (congrArg some (by kernel_rfl))
  f242 := Tryz.func192.trans (congrArg some (by kernel_rfl))
  f276 := Tryz.func174.trans (congrArg some (by kernel_rfl))
  f278 := Tryz.func193.trans (congrArg some (by kernel_rfl))
  t0 := Tryz.underlying0
  a0 := Tryz.isAgg0
  z0 := Tryz.sizeOf0
  v0 := Tryz.zeroValue0
  t3 := Tryz.underlying3
  a3 := Tryz.isAgg3
  z3 := Tryz.sizeOf3
  v3 := Tryz.zeroValue3
  t4 := Tryz.underlying4
  a4 := Tryz.isAgg4
  z4 := Tryz.sizeOf4
  v4 := Tryz.zeroValue4
  t5 := Tryz.underlying5
  a5 := Tryz.isAgg5
  z5 := Tryz.sizeOf5
  v5 := Tryz.zeroValue5
  t9 := Tryz.underlying9
  a9 := Tryz.isAgg9
  z9 := Tryz.sizeOf9
  v9 := Tryz.zeroValue9
  t20 := Tryz.underlying20
  a20 := Tryz.isAgg20
  z20 := Tryz.sizeOf20
  v20 := Tryz.zeroValue20
  t21 := Tryz.underlying21
  a21 := Tryz.isAgg21
  z21 := Tryz.sizeOf21
  v21 := Tryz.zeroValue21
  t37 := Tryz.underlying40
  a37 := Tryz.isAgg40
  z37 := Tryz.sizeOf40
  v37 := Tryz.zeroValue40
  t46 := Tryz.underlying111
  a46 := Tryz.isAgg111
  z46 := Tryz.sizeOf111
  v46 := Tryz.zeroValue111
  t51 := Tryz.underlying142
  a51 := Tryz.isAgg142
  z51 := Tryz.sizeOf142
  v51 := Tryz.zeroValue142
  t70 := Tryz.underlying159
  a70 := Tryz.isAgg159
  z70 := Tryz.sizeOf159
  v70 := Tryz.zeroValue159
  t72 := Tryz.underlying161
  a72 := Tryz.isAgg161
  z72 := Tryz.sizeOf161
  v72 := Tryz.zeroValue161
  t75 := Tryz.underlying164
  a75 := Tryz.isAgg164
  z75 := Tryz.sizeOf164
  v75 := Tryz.zeroValue164
  t164 := Tryz.underlying102
  a164 := Tryz.isAgg102
  z164 := Tryz.sizeOf102
  v164 := Tryz.zeroValue102 }
theorem extraRune : Builder.Extra Tryz.prog layRune_ren := {
  sizeBuilder := by kernel_rfl
  liesBuilder := by kernel_rfl
  t5 := Tryz.underlying5
  a5 := Tryz.isAgg5
  z5 := Tryz.sizeOf5
  v5 := Tryz.zeroValue5
  infoByte := by kernel_rfl
  cellsByte := by kernel_rfl
  sizeByte := by kernel_rfl
  neB5 := by decide }
theorem run_count (s : ByteArray) (w : World) (hs : s.size < 9223372036854775807) :
    Calls Tryz.prog 155 #[.string s] w fun e w' => e = .returned (.int .i64 (Lib.runeCount s)) ∧ ∃ pos, w' = w.iter s pos := Any.utf8_RuneCountInString layCount s w hs
theorem builder_String (B b : Nat) (l : List UInt8) (w : World) (h : Lib.IsBuilderF 161 5 B b (Lib.byteCells l) w) (hBw : B ≤ w.heap.size) :
    Calls Tryz.prog 141 #[.pointer (some ⟨b, 0, none⟩)] w fun e w' => e = .returned (.string ⟨l.toArray⟩) ∧ (Lib.IsBuilderF 161 5 B b (Lib.byteCells l) w' ∧ Below B w w' ∧ Lib.OthersKept 5 (some b) w w') := Any.Builder_String_any_k layString extraString B b l w h hBw
theorem builder_WriteRune (B b : Nat) (bs : List Value) (r : Int) (hr0 : -2147483648 ≤ r) (hr1 : r ≤ 2147483647) (w : World) (h : Lib.IsBuilderF 161 5 B b bs w) (hlen : bs.length + 4 ≤ 140737488355328) (hBw : B ≤ w.heap.size) :
    Calls Tryz.prog 190 #[.pointer (some ⟨b, 0, none⟩), .int .i32 r] w fun e w' => e = .returned (.tuple #[.int .i64 (Lib.runeCells r).length, .nilIface]) ∧ (Lib.BuilderAtF 161 5 B b (.pointer (some ⟨b, 0, none⟩)) (bs ++ Lib.runeCells r) w' ∧ Below B w w' ∧ Lib.OthersKept 5 (some b) w w') := Any.Builder_WriteRune_k layRune extraRune B b bs r hr0 hr1 w h hlen hBw
end Go.Proofs.YtolfkhflbjnakaaGreatDoor

/- Plain lists: the signs of bytes, the bytes of signs, and how they go together. No program. -/
set_option linter.unusedVariables false
namespace Go.Proofs.YtolfkhflbjnakaaGreatDoor
open Go

/-- The character at the beginning of a list of bytes, and how many bytes it has: as the model's own decoding has it. -/
def dec (l : List UInt8) : Nat × Nat :=
  let at' (k : Nat) : Nat := (l.getD k 0).toNat
  let cont (k : Nat) : Bool := k < l.length && at' k / 64 == 2
  let b0 := at' 0
  if b0 < 0x80 then (b0, 1)
  else if b0 / 32 == 6 && cont 1 then
    let c := (b0 % 32) * 64 + at' 1 % 64
    if c ≥ 0x80 then (c, 2) else (65533, 1)
  else if b0 / 16 == 14 && cont 1 && cont 2 then
    let c := (b0 % 16) * 4096 + (at' 1 % 64) * 64 + at' 2 % 64
    if c ≥ 0x800 && Utf8.valid c then (c, 3) else (65533, 1)
  else if b0 / 8 == 30 && cont 1 && cont 2 && cont 3 then
    let c := (b0 % 8) * 262144 + (at' 1 % 64) * 4096 + (at' 2 % 64) * 64 + at' 3 % 64
    if c ≥ 0x10000 && Utf8.valid c then (c, 4) else (65533, 1)
  else (65533, 1)

theorem get_drop (s : ByteArray) (i k : Nat) : (s.get! (i + k)) = (s.data.toList.drop i).getD k 0 := by
  cases s with
  | mk a =>
    simp only [ByteArray.get!, List.getD, List.getElem?_drop, Array.getElem?_toList]
    rw [getElem!_def]
    cases a[i + k]? <;> rfl

theorem decode_dec (s : ByteArray) (i : Nat) : Utf8.decode s i = dec (s.data.toList.drop i) := by
  unfold Utf8.decode dec
  simp only [get_drop s i]
  have hc : ∀ k, decide (i + k < s.size) = decide (k < (s.data.toList.drop i).length) := by
    intro k
    have : s.size = s.data.toList.length := (Array.length_toList (xs := s.data)).symm
    rw [decide_eq_decide, List.length_drop, this]
    omega
  simp only [hc]
  rfl

theorem dec_nil : dec [] = (0, 1) := by decide

theorem dec_width (l : List UInt8) (h : l ≠ []) : 1 ≤ (dec l).2 ∧ (dec l).2 ≤ l.length := by
  have hl : 1 ≤ l.length := by cases l <;> simp_all
  unfold dec
  simp only []
  repeat' split
  all_goals (simp_all; try omega)

theorem dec_valid (l : List UInt8) : Utf8.valid ((dec l).1 : Int) = true := by
  unfold dec
  simp only []
  have hb : ∀ k, (l.getD k 0).toNat < 256 := fun k => (l.getD k 0).toNat_lt
  repeat' split
  all_goals simp_all [Utf8.valid]
  all_goals (try omega)
  all_goals (have h0 := hb 0; have h1 := hb 1; try omega)


/-- The signs of bytes: at most 'fuel' of them. -/
def signsF : Nat → List UInt8 → List Int
  | 0, _ => []
  | f + 1, l => if l = [] then [] else ((dec l).1 : Int) :: signsF f (l.drop (dec l).2)
def signs (l : List UInt8) : List Int := signsF l.length l

theorem signsF_nil (f : Nat) : signsF f [] = [] := by cases f <;> simp [signsF]

theorem signsF_more : ∀ (f g : Nat) (l : List UInt8), l.length ≤ f → l.length ≤ g → signsF f l = signsF g l
  | 0, g, l, hf, _ => by
    have : l = [] := List.eq_nil_of_length_eq_zero (by omega)
    subst this
    rw [signsF_nil, signsF_nil]
  | f + 1, 0, l, _, hg => by
    have : l = [] := List.eq_nil_of_length_eq_zero (by omega)
    subst this
    rw [signsF_nil, signsF_nil]
  | f + 1, g + 1, l, hf, hg => by
    by_cases h : l = []
    · subst h; rw [signsF_nil, signsF_nil]
    · have hw := dec_width l h
      unfold signsF
      rw [if_neg h, if_neg h, signsF_more f g _ (by rw [List.length_drop]; omega) (by rw [List.length_drop]; omega)]

theorem signs_nil : signs [] = [] := rfl

theorem signs_step (l : List UInt8) (h : l ≠ []) : signs l = ((dec l).1 : Int) :: signs (l.drop (dec l).2) := by
  have hw := dec_width l h
  have hl : l.length = (l.length - 1) + 1 := by omega
  unfold signs
  rw [hl, signsF, if_neg h, signsF_more _ _ _ (by rw [List.length_drop]; omega) (Nat.le_refl _)]

theorem signs_length (l : List UInt8) : (signs l).length ≤ l.length := by
  have : ∀ (f : Nat) (l : List UInt8), l.length ≤ f → (signsF f l).length ≤ l.length := by
    intro f
    induction f with
    | zero => intro l h; simp [signsF]
    | succ f ih =>
      intro l h
      by_cases e : l = []
      · subst e; simp [signsF]
      · have hw := dec_width l e
        unfold signsF
        rw [if_neg e]
        have := ih (l.drop (dec l).2) (by rw [List.length_drop]; omega)
        rw [List.length_drop] at this
        simp only [List.length_cons]
        omega
  exact this _ l (Nat.le_refl _)

theorem valid_iff (r : Int) : Utf8.valid r = true ↔ (0 ≤ r ∧ r < 55296) ∨ (57344 ≤ r ∧ r ≤ 1114111) := by
  simp [Utf8.valid]

theorem signs_valid (l : List UInt8) : ∀ c ∈ signs l, Utf8.valid c = true := by
  have : ∀ (f : Nat) (l : List UInt8), ∀ c ∈ signsF f l, Utf8.valid c = true := by
    intro f
    induction f with
    | zero => intro l c h; simp [signsF] at h
    | succ f ih =>
      intro l c h
      by_cases e : l = []
      · subst e; simp [signsF] at h
      · unfold signsF at h
        rw [if_neg e] at h
        rcases List.mem_cons.1 h with h | h
        · subst h; exact dec_valid l
        · exact ih _ c h
  exact this _ l

theorem encode_byte {x : Int} (h0 : 0 ≤ x) (h1 : x < 256) : (x.toNat.toUInt8).toNat = x.toNat := by
  simp; omega

theorem dec_one (b0 : UInt8) (t : List UInt8) (h : b0.toNat < 128) : dec (b0 :: t) = (b0.toNat, 1) := by
  unfold dec; simp only [List.getD_cons_zero]; rw [if_pos h]
theorem dec_two (b0 b1 : UInt8) (t : List UInt8) (h0 : b0.toNat / 32 = 6) (h1 : b1.toNat / 64 = 2) (hc : 128 ≤ (b0.toNat % 32) * 64 + b1.toNat % 64) :
    dec (b0 :: b1 :: t) = ((b0.toNat % 32) * 64 + b1.toNat % 64, 2) := by
  unfold dec
  simp only [List.getD_cons_zero, List.getD_cons_succ]
  rw [if_neg (by omega), if_pos (by simp [h0, h1]), if_pos hc]
theorem dec_three (b0 b1 b2 : UInt8) (t : List UInt8) (h0 : b0.toNat / 16 = 14) (h1 : b1.toNat / 64 = 2) (h2 : b2.toNat / 64 = 2)
    (hc : 2048 ≤ (b0.toNat % 16) * 4096 + (b1.toNat % 64) * 64 + b2.toNat % 64) (hv : Utf8.valid (((b0.toNat % 16) * 4096 + (b1.toNat % 64) * 64 + b2.toNat % 64 : Nat) : Int) = true) :
    dec (b0 :: b1 :: b2 :: t) = ((b0.toNat % 16) * 4096 + (b1.toNat % 64) * 64 + b2.toNat % 64, 3) := by
  unfold dec
  simp only [List.getD_cons_zero, List.getD_cons_succ]
  rw [if_neg (by omega), if_neg (by simp; omega), if_pos (by simp [h0, h1, h2]), if_pos (by rw [Bool.and_eq_true]; exact ⟨by simpa using hc, hv⟩)]
theorem dec_four (b0 b1 b2 b3 : UInt8) (t : List UInt8) (h0 : b0.toNat / 8 = 30) (h1 : b1.toNat / 64 = 2) (h2 : b2.toNat / 64 = 2) (h3 : b3.toNat / 64 = 2)
    (hc : 65536 ≤ (b0.toNat % 8) * 262144 + (b1.toNat % 64) * 4096 + (b2.toNat % 64) * 64 + b3.toNat % 64) (hv : Utf8.valid (((b0.toNat % 8) * 262144 + (b1.toNat % 64) * 4096 + (b2.toNat % 64) * 64 + b3.toNat % 64 : Nat) : Int) = true) :
    dec (b0 :: b1 :: b2 :: b3 :: t) = ((b0.toNat % 8) * 262144 + (b1.toNat % 64) * 4096 + (b2.toNat % 64) * 64 + b3.toNat % 64, 4) := by
  unfold dec
  simp only [List.getD_cons_zero, List.getD_cons_succ]
  rw [if_neg (by omega), if_neg (by simp; omega), if_neg (by simp; omega), if_pos (by simp [h0, h1, h2, h3]), if_pos (by rw [Bool.and_eq_true]; exact ⟨by simpa using hc, hv⟩)]

/-- A valid character's bytes, whatever is behind them, begin with it. -/
theorem dec_encode (r : Int) (t : List UInt8) (h : Utf8.valid r = true) : dec (Lib.encodeRune r ++ t) = (r.toNat, (Lib.encodeRune r).length) := by
  have hv := (valid_iff r).1 h
  obtain ⟨n, rfl⟩ : ∃ n : Nat, r = n := ⟨r.toNat, by omega⟩
  by_cases h1 : n ≤ 127
  · have e0 := encode_byte (x := (n : Int)) (by omega) (by omega)
    simp only [Lib.encodeRune, Lib.encodeRuneZ_one (r := (n : Int)) (by omega) (by omega), List.map_cons, List.map_nil, List.cons_append, List.nil_append]
    rw [dec_one _ _ (by rw [e0]; omega), e0]
    rfl
  by_cases h2 : n ≤ 2047
  · have e0 := encode_byte (x := 192 + (n : Int) / 64) (by omega) (by omega)
    have e1 := encode_byte (x := 128 + (n : Int) % 64) (by omega) (by omega)
    simp only [Lib.encodeRune, Lib.encodeRuneZ_two (r := (n : Int)) (by omega) (by omega), List.map_cons, List.map_nil, List.cons_append, List.nil_append]
    rw [dec_two _ _ _ (by rw [e0]; omega) (by rw [e1]; omega) (by rw [e0, e1]; omega), e0, e1]
    refine Prod.ext ?_ rfl
    show _ = n
    simp only []
    omega
  by_cases h3 : n ≤ 65535
  · have e0 := encode_byte (x := 224 + (n : Int) / 4096) (by omega) (by omega)
    have e1 := encode_byte (x := 128 + (n : Int) / 64 % 64) (by omega) (by omega)
    have e2 := encode_byte (x := 128 + (n : Int) % 64) (by omega) (by omega)
    have en : ((224 + (n : Int) / 4096).toNat % 16) * 4096 + ((128 + (n : Int) / 64 % 64).toNat % 64) * 64 + (128 + (n : Int) % 64).toNat % 64 = n := by omega
    simp only [Lib.encodeRune, Lib.encodeRuneZ_three (r := (n : Int)) (by omega), List.map_cons, List.map_nil, List.cons_append, List.nil_append]
    rw [dec_three _ _ _ _ (by rw [e0]; omega) (by rw [e1]; omega) (by rw [e2]; omega) (by rw [e0, e1, e2, en]; omega) (by rw [e0, e1, e2, en]; exact h), e0, e1, e2, en]
    rfl
  · have e0 := encode_byte (x := 240 + (n : Int) / 262144) (by omega) (by omega)
    have e1 := encode_byte (x := 128 + (n : Int) / 4096 % 64) (by omega) (by omega)
    have e2 := encode_byte (x := 128 + (n : Int) / 64 % 64) (by omega) (by omega)
    have e3 := encode_byte (x := 128 + (n : Int) % 64) (by omega) (by omega)
    have en : ((240 + (n : Int) / 262144).toNat % 8) * 262144 + ((128 + (n : Int) / 4096 % 64).toNat % 64) * 4096 + ((128 + (n : Int) / 64 % 64).toNat % 64) * 64 + (128 + (n : Int) % 64).toNat % 64 = n := by omega
    simp only [Lib.encodeRune, Lib.encodeRuneZ_four (r := (n : Int)) (by omega) (by omega), List.map_cons, List.map_nil, List.cons_append, List.nil_append]
    rw [dec_four _ _ _ _ _ (by rw [e0]; omega) (by rw [e1]; omega) (by rw [e2]; omega) (by rw [e3]; omega) (by rw [e0, e1, e2, e3, en]; omega) (by rw [e0, e1, e2, e3, en]; exact h), e0, e1, e2, e3, en]
    rfl

/-- The bytes of characters. -/
def text (l : List Int) : List UInt8 := l.flatMap Lib.encodeRune

theorem encode_ne (r : Int) (t : List UInt8) : Lib.encodeRune r ++ t ≠ [] := by
  have := Lib.encodeRuneZ_length r
  intro h
  have h2 := congrArg List.length (List.append_eq_nil_iff.1 h).1
  simp only [Lib.encodeRune, List.length_map, List.length_nil] at h2
  omega

theorem signs_text_append (l : List Int) (t : List UInt8) (h : ∀ c ∈ l, Utf8.valid c = true) : signs (text l ++ t) = l ++ signs t := by
  induction l with
  | nil => rfl
  | cons r l ih =>
    have hr := h r (List.mem_cons_self ..)
    have hv := (valid_iff r).1 hr
    have e : text (r :: l) ++ t = Lib.encodeRune r ++ (text l ++ t) := by simp [text]
    rw [e, signs_step _ (encode_ne _ _), dec_encode r _ hr]
    simp only [List.drop_left, List.cons_append]
    rw [ih (fun c hc => h c (List.mem_cons_of_mem _ hc))]
    congr 1
    omega

theorem signs_text (l : List Int) (h : ∀ c ∈ l, Utf8.valid c = true) : signs (text l) = l := by
  have := signs_text_append l [] h
  simpa [signs_nil] using this

theorem text_append (a b : List Int) : text (a ++ b) = text a ++ text b := by simp [text]
theorem text_length (l : List Int) : (text l).length ≤ 4 * l.length := by
  induction l with
  | nil => simp [text]
  | cons r l ih =>
    have := Lib.encodeRuneZ_length r
    have e : text (r :: l) = Lib.encodeRune r ++ text l := by simp [text]
    rw [e, List.length_append, List.length_cons]
    simp only [Lib.encodeRune, List.length_map]
    omega
def isLetter (c : Int) : Bool := decide ((192 ≤ c ∧ c ≤ 591 ∧ c ≠ 215 ∧ c ≠ 247) ∨ (97 ≤ c ∧ c ≤ 122) ∨ (65 ≤ c ∧ c ≤ 90))
def isDigit (c : Int) : Bool := decide (48 ≤ c ∧ c ≤ 57)
def isUpper (c : Int) : Bool := decide ((65 ≤ c ∧ c ≤ 90) ∨ (192 ≤ c ∧ c ≤ 222 ∧ c ≠ 215))
def fold (c : Int) : Int := if isUpper c = true then c + 32 else c
def okSign (c : Int) : Bool := decide (0 ≤ c ∧ c ≤ 1114111 ∧ ¬ (55296 ≤ c ∧ c ≤ 57343))
def clamp (c : Int) : Int := if okSign c = true then c else 65533


theorem okSign_valid (c : Int) : okSign c = Utf8.valid c := by
  rw [Bool.eq_iff_iff, valid_iff]; simp [okSign]; omega
theorem clamp_of {c : Int} (h : Utf8.valid c = true) : clamp c = c := by rw [clamp, okSign_valid, if_pos h]
theorem clamp_valid (c : Int) : Utf8.valid (clamp c) = true := by
  unfold clamp
  split
  · rename_i h; rw [← okSign_valid]; exact h
  · decide
theorem encode_clamp (c : Int) : Lib.encodeRune (clamp c) = Lib.encodeRune c := by
  by_cases h : Utf8.valid c = true
  · rw [clamp_of h]
  · rw [clamp, okSign_valid, if_neg h]
    have hb : c < 0 ∨ (55296 ≤ c ∧ c ≤ 57343) ∨ 1114111 < c := by
      have := mt (valid_iff c).2 h
      omega
    rw [Lib.encodeRune, Lib.encodeRune, Lib.encodeRuneZ_bad hb]
    rfl
theorem text_clamp (l : List Int) : text (l.map clamp) = text l := by
  simp only [text, List.flatMap_map, encode_clamp]
theorem signs_text_clamp (l : List Int) : signs (text l) = l.map clamp := by
  rw [← text_clamp, signs_text]
  intro c hc
  obtain ⟨x, _, rfl⟩ := List.mem_map.1 hc
  exact clamp_valid x
theorem signs_text_join (a b : List Int) : signs (text a ++ text b) = signs (text a) ++ signs (text b) := by
  rw [← text_append, signs_text_clamp, signs_text_clamp, signs_text_clamp, List.map_append]
theorem text_signs_text (l : List Int) : text (signs (text l)) = text l := by rw [signs_text_clamp, text_clamp]

theorem fold_valid {c : Int} (h : Utf8.valid c = true) : Utf8.valid (fold c) = true := by
  rw [valid_iff] at h ⊢
  unfold fold
  split
  · rename_i hu; simp [isUpper] at hu; omega
  · omega
theorem fold_fold (c : Int) : fold (fold c) = fold c := by
  unfold fold
  by_cases h : isUpper c = true
  · rw [if_pos h]
    have : ¬ isUpper (c + 32) = true := by simp [isUpper] at h ⊢; omega
    rw [if_neg this]
  · rw [if_neg h, if_neg h]
theorem letter_fold (c : Int) : isLetter (fold c) = isLetter c := by
  unfold fold
  split
  · rename_i hu
    simp [isUpper] at hu
    rw [Bool.eq_iff_iff]
    simp [isLetter]
    omega
  · rfl
theorem digit_fold (c : Int) : isDigit (fold c) = isDigit c := by
  unfold fold
  split
  · rename_i hu
    simp [isUpper] at hu
    rw [Bool.eq_iff_iff]
    simp [isDigit]
    omega
  · rfl
/-- The text of a text's signs, each folded. -/
def foldText (l : List UInt8) : List UInt8 := text ((signs l).map fold)
theorem signs_foldText (l : List UInt8) : signs (foldText l) = (signs l).map fold := by
  rw [foldText, signs_text]
  intro c hc
  obtain ⟨x, hx, rfl⟩ := List.mem_map.1 hc
  exact fold_valid (signs_valid l x hx)
theorem foldText_twice (l : List UInt8) : foldText (foldText l) = foldText l := by
  rw [foldText, signs_foldText, List.map_map, foldText]
  congr 1
  apply List.map_congr_left
  intro c _
  exact fold_fold c
theorem foldText_length (l : List UInt8) : (foldText l).length ≤ 4 * l.length := by
  have h1 := text_length ((signs l).map fold)
  have h2 := signs_length l
  rw [List.length_map] at h1
  unfold foldText
  omega

/-- How many bytes are below 128. -/
def lows (l : List UInt8) : Nat := (l.filter fun b => decide (b.toNat < 128)).length
/-- How many signs are below 128. -/
def lowSigns (l : List Int) : Nat := (l.filter fun c => decide (c < 128)).length
theorem lows_append (a b : List UInt8) : lows (a ++ b) = lows a + lows b := by simp [lows]
theorem lows_encode (c : Int) (h : Utf8.valid c = true) : lows (Lib.encodeRune c) = if c < 128 then 1 else 0 := by
  have hv := (valid_iff c).1 h
  have low : ∀ x : Int, 128 ≤ x → x < 256 → ¬ (x.toNat.toUInt8).toNat < 128 := fun x h0 h1 => by rw [encode_byte (by omega) h1]; omega
  by_cases h1 : c ≤ 127
  · rw [if_pos (by omega), Lib.encodeRune, Lib.encodeRuneZ_one (by omega) h1]
    have := encode_byte (x := c) (by omega) (by omega)
    simp only [lows, List.map_cons, List.map_nil, List.filter_cons, List.filter_nil, this]
    rw [if_pos (by simp; omega)]
    rfl
  rw [if_neg (by omega)]
  by_cases h2 : c ≤ 2047
  · rw [Lib.encodeRune, Lib.encodeRuneZ_two (by omega) h2]
    simp only [lows, List.map_cons, List.map_nil, List.filter_cons, List.filter_nil]
    rw [if_neg (by simpa only [decide_eq_true_eq] using low _ (by omega) (by omega)), if_neg (by simpa only [decide_eq_true_eq] using low _ (by omega) (by omega))]
    rfl
  by_cases h3 : c ≤ 65535
  · rw [Lib.encodeRune, Lib.encodeRuneZ_three (by omega)]
    simp only [lows, List.map_cons, List.map_nil, List.filter_cons, List.filter_nil]
    rw [if_neg (by simpa only [decide_eq_true_eq] using low _ (by omega) (by omega)), if_neg (by simpa only [decide_eq_true_eq] using low _ (by omega) (by omega)), if_neg (by simpa only [decide_eq_true_eq] using low _ (by omega) (by omega))]
    rfl
  · rw [Lib.encodeRune, Lib.encodeRuneZ_four (by omega) (by omega)]
    simp only [lows, List.map_cons, List.map_nil, List.filter_cons, List.filter_nil]
    rw [if_neg (by simpa only [decide_eq_true_eq] using low _ (by omega) (by omega)), if_neg (by simpa only [decide_eq_true_eq] using low _ (by omega) (by omega)), if_neg (by simpa only [decide_eq_true_eq] using low _ (by omega) (by omega)), if_neg (by simpa only [decide_eq_true_eq] using low _ (by omega) (by omega))]
    rfl
theorem lows_text (l : List Int) : lows (text l) = lowSigns (signs (text l)) := by
  rw [signs_text_clamp]
  induction l with
  | nil => rfl
  | cons c l ih =>
    have e : text (c :: l) = Lib.encodeRune (clamp c) ++ text l := by simp [text, encode_clamp]
    rw [e, lows_append, lows_encode _ (clamp_valid c), ih, List.map_cons]
    unfold lowSigns
    rw [List.filter_cons]
    by_cases h : clamp c < 128
    · rw [if_pos h, if_pos (by simpa using h), List.length_cons]; omega
    · rw [if_neg h, if_neg (by simpa using h)]; omega
end Go.Proofs.YtolfkhflbjnakaaGreatDoor

/- Small facts on rows of cells that a slice leads to, and on what stays while other memory is made. No program. -/
set_option linter.unusedVariables false
namespace Go.Proofs.YtolfkhflbjnakaaGreatDoor
open Go Go.RowKit

theorem ret_bool {a b : Bool} (h : a = b) : Ending.returned (.bool a) = .returned (.bool b) := by rw [h]
theorem ret_int {k : IntKind} {a b : Int} (h : a = b) : Ending.returned (.int k a) = .returned (.int k b) := by rw [h]
theorem ret_string {a b : List UInt8} (h : a = b) : Ending.returned (.string ⟨a.toArray⟩) = .returned (.string ⟨b.toArray⟩) := by rw [h]

/-- The cells xs lie one behind the other from address A on, below block B. -/
def Row (w : World) (B : Nat) (A : Option Addr) (xs : List Value) : Prop :=
  xs = [] ∨ ∃ b off, A = some ⟨b, off, none⟩ ∧ b < B ∧ ∀ j u, xs[j]? = some u → w.cell? ⟨b, off + j, none⟩ = some u

theorem Row.nil {w : World} {B : Nat} {A : Option Addr} : Row w B A [] := .inl rfl
theorem Row.at_ {w : World} {B : Nat} {A : Option Addr} {xs : List Value} (h : Row w B A xs) (hn : 0 < xs.length) :
    ∃ b off, A = some ⟨b, off, none⟩ ∧ b < B ∧ ∀ j u, xs[j]? = some u → w.cell? ⟨b, off + j, none⟩ = some u := by
  rcases h with rfl | h
  · simp at hn
  · exact h
theorem Row.keep {w w' : World} {B : Nat} {A : Option Addr} {xs : List Value} (h : Row w B A xs) (hk : ∀ p : Addr, p.block < B → w'.cell? p = w.cell? p) : Row w' B A xs := by
  rcases h with rfl | ⟨b, off, rfl, hb, hc⟩
  · exact .inl rfl
  · exact .inr ⟨b, off, rfl, hb, fun j u hu => (hk _ hb).trans (hc j u hu)⟩
theorem Row.below {w w' : World} {B : Nat} {A : Option Addr} {xs : List Value} (h : Row w B A xs) (hb : Below B w w') : Row w' B A xs := h.keep fun _ hp => hb.cell hp
theorem Row.more {w : World} {B B' : Nat} {A : Option Addr} {xs : List Value} (h : Row w B A xs) (hB : B ≤ B') : Row w B' A xs := by
  rcases h with rfl | ⟨b, off, rfl, hb, hc⟩
  · exact .inl rfl
  · exact .inr ⟨b, off, rfl, by omega, hc⟩
theorem Row.cut {w : World} {B : Nat} {A : Option Addr} {xs : List Value} (h : Row w B A xs) (k : Nat) : Row w B A (xs.take k) := by
  rcases h with rfl | ⟨b, off, rfl, hb, hc⟩
  · exact .inl (by simp)
  · refine .inr ⟨b, off, rfl, hb, fun j u hu => hc j u ?_⟩
    rw [List.getElem?_take] at hu
    split at hu
    · exact hu
    · cases hu

section
variable {w w' : World} {base : Nat} {e : TypeId} {size : Nat} {v : Value} {n : Nat} {xs : List Value}

theorem owned_row (h : w.ownsRow base e size v n xs) : ∃ A c, v = .slice A n c ∧ n ≤ c ∧ Row w w.heap.size A xs := by
  rcases h.2 with ⟨rfl, rfl⟩ | ⟨g, cap, cur, rfl, _, hg, hnc, _, _, _⟩
  · exact ⟨none, 0, rfl, Nat.le_refl _, .inl (List.eq_nil_of_length_eq_zero (by simpa using h.1))⟩
  · refine ⟨_, cap, rfl, hnc, .inr ⟨g, 0, rfl, (Array.getElem?_eq_some_iff.1 hg).1, fun j u hu => ?_⟩⟩
    have := h.cells (g := g) rfl j u hu
    simpa [Addr.add_lit] using this
theorem owned_below (h : w.ownsRow base e size v n xs) (hb : Below w.heap.size w w') : w'.ownsRow base e size v n xs := by
  refine ⟨h.1, ?_⟩
  rcases h.2 with hn | ⟨g, cap, cur, hv, hg, hh, r⟩
  · exact .inl hn
  · exact .inr ⟨g, cap, cur, hv, hg, by rw [hb.block g (Array.getElem?_eq_some_iff.1 hh).1]; exact hh, r⟩
theorem owned_low (h : w.ownsRow base e size v n xs) {b : Nat} (hb : b ≤ base) : w.ownsRow b e size v n xs := by
  refine ⟨h.1, ?_⟩
  rcases h.2 with hn | ⟨g, cap, cur, hv, hg, r⟩
  · exact .inl hn
  · exact .inr ⟨g, cap, cur, hv, by omega, r⟩
/-- What is owned stays while a block that holds no cells is set. -/
theorem owned_iter (h : w.ownsRow base e size v n xs) {k : Nat} {s : ByteArray} {p q : Nat} (hk : w.heap[k]? = some (.stringIter s p)) : (w.iterAt k s q).ownsRow base e size v n xs := by
  refine ⟨h.1, ?_⟩
  rcases h.2 with hn | ⟨g, cap, cur, hv, hg, hh, r⟩
  · exact .inl hn
  · refine .inr ⟨g, cap, cur, hv, hg, ?_, r⟩
    rw [Lib.iterAt_other _ _ _ _ _ (fun e => by rw [e, hk] at hh; cases hh)]
    exact hh
/-- A row that grows is no iterator. -/
theorem iter_grown (h : w.ownsRow base e size v n xs) {k : Nat} {s : ByteArray} {p : Nat} (hk : w.heap[k]? = some (.stringIter s p)) (hg : w.grownBy w' v.ownBlock) : w'.heap[k]? = some (.stringIter s p) := by
  rw [hg.block k (Array.getElem?_eq_some_iff.1 hk).1 ?_]
  · exact hk
  · intro he
    rcases h.2 with ⟨rfl, _⟩ | ⟨g, cap, cur, rfl, _, hh, _⟩
    · cases he
    · simp only [Value.ownBlock, Option.some.injEq] at he
      rw [he, hh] at hk
      cases hk
end
/-- What a walk is told of a slice of integers that came in: its elements zs lie in a row of their own kind. -/
def InRow (k : IntKind) (w : World) (a : Option Addr) (len cap : Nat) (zs : List Int) : Prop :=
  len ≤ cap ∧ cap ≤ maxLen ∧ zs.length = len ∧ Row w w.heap.size a (zs.map (Value.int k)) ∧ ∀ n ∈ zs, (Lit.int k n).wf = true
theorem inRow_nil {k : IntKind} {w : World} : InRow k w none 0 0 [] := ⟨Nat.le_refl _, Nat.zero_le _, rfl, .inl rfl, fun n hn => by cases hn⟩
theorem inRow_of {k : IntKind} {w : World} {x : Addr} {len cap : Nat} {zs : List Int} (hl : len ≤ cap) (hm : cap ≤ maxLen) (hz : zs.length = cap)
    (hcell : ∀ i, i < zs.length → w.cell? (x.add i) = some (.int k (zs.getD i 0))) (hwz : ∀ n ∈ zs, (Lit.int k n).wf = true) : InRow k w (some x) len cap (zs.take len) := by
  refine ⟨hl, hm, by rw [List.length_take]; omega, ?_, fun n hn => hwz n (List.mem_of_mem_take hn)⟩
  by_cases h0 : zs.length = 0
  · have : zs = [] := List.eq_nil_of_length_eq_zero h0
    subst this
    exact .inl (by simp)
  · have hc0 := hcell 0 (by omega)
    obtain ⟨b, off, spot⟩ := x
    have hs : spot = none := by simpa [Addr.add] using World.cell?_spot hc0
    subst hs
    refine .inr ⟨b, off, rfl, by simpa [Addr.add_lit] using World.block_lt_of_cell? w _ hc0, fun j u hu => ?_⟩
    rw [List.getElem?_map, List.getElem?_take] at hu
    split at hu
    · obtain ⟨y, hy, rfl⟩ := Option.map_eq_some_iff.1 hu
      have hj : j < zs.length := (List.getElem?_eq_some_iff.1 hy).1
      have := hcell j hj
      rw [Addr.add_lit] at this
      rw [this, List.getD_eq_getElem?_getD, hy]
      rfl
    · cases hu

section
variable {P : Program} (w : World)

theorem append_no_cells (base : Nat) (t ty e : TypeId) (i : TypeInfo) (size : Nat) (ht : P.underlying t = some (.slice e)) (hi : P.info? e = some i)
    (v : Value) (n : Nat) (xs : List Value) (hown : w.ownsRow base e size v n xs) (c : Nat) : (Builtin.append_ #[t, t] ty #[v, .slice none 0 c]).run P w = .ok v w := by
  rcases hown.2 with ⟨rfl, rfl⟩ | ⟨g, cap, cur, rfl, _, _, hnc, _⟩
  · simp [Builtin.append_, run_underlying ht, sizeOf, typeInfo, hi, Builtin.lenOf, Builtin.firstCells]
  · simp [Builtin.append_, run_underlying ht, sizeOf, typeInfo, hi, Builtin.lenOf, Builtin.firstCells, hnc, storeCells]

/-- append of a slice that lies in some row (nil or not) onto a row of the call's own. -/
theorem wpList_append_row {ops : Array Oper} {rest : List Oper} {o : Oper} {a : Act} {Q : Exit → Act → World → Prop} (hgd : o.guard = none) (s x : Operand) (t : TypeId)
    (ho : o.op = .call { callee := .builtin .append, args := #[s, x], argTypes := #[t, t] })
    (base : Nat) (e : TypeId) (i : TypeInfo) (z : Value) (size bytes : Nat) (ht : P.underlying t = some (.slice e)) (hi : P.info? e = some i) (hz : i.zero = some z)
    (hsize : i.size = size) (hby : i.bytes = bytes) (hzs : z.cells.size = size) (hsz : 0 < size)
    (v : Value) (n : Nat) (xs : List Value) (hs : a.eval s = v) (hown : w.ownsRow base e size v n xs)
    (B : Nat) (A : Option Addr) (m c : Nat) (news : List Value) (hx : a.eval x = .slice A m c) (hl : news.length = m * size) (hr : Row w B A news) (h1 : ∀ u ∈ news, u.oneCell' = true)
    (h63 : n + m ≤ maxLen) (hbytes : (n + m) * bytes ≤ 140737488355328) (hbase : base ≤ w.heap.size)
    (h : ∀ v' w', w'.ownsRow base e size v' (n + m) (xs ++ news) → w.grownBy w' v.ownBlock → wpList P ops Q rest (a.put o.dst v') w') : wpList P ops Q (o :: rest) a w := by
  by_cases hm : m = 0
  · subst hm
    have hn : news = [] := List.eq_nil_of_length_eq_zero (by simpa using hl)
    subst hn
    rcases A with _ | ad
    · refine wpList_plain hgd fun K hK => ?_
      have hrun := append_no_cells (P := P) w base t o.type e i size ht hi v n xs hown c
      unfold Oper.wp execOp
      simp only [ho, resolve, invoke, builtin, Sem.run_bind, Sem.run_pure, Result.andThen_ok, List.map_toArray, List.map_cons, List.map_nil, hs, hx, hrun]
      exact hK _ _ (h v w (by simpa using hown) (World.grownBy.refl _ _))
    · exact wpList_append_own w hgd s x t ho base e i z size bytes ht hi hz hsize hby hzs hsz v n xs hs hown ad 0 c [] hx hl (fun j u hu => by simp at hu) h1 h63 hbytes hbase fun v' w' h2 h3 _ => h v' w' h2 h3
  · have hp : 0 < news.length := by rw [hl]; exact Nat.mul_pos (by omega) hsz
    obtain ⟨b, off, rfl, _, hc⟩ := hr.at_ hp
    exact wpList_append_own w hgd s x t ho base e i z size bytes ht hi hz hsize hby hzs hsz v n xs hs hown _ m c news hx hl (fun j u hu => by rw [Addr.add_lit]; exact hc j u hu) h1 h63 hbytes hbase fun v' w' h2 h3 _ => h v' w' h2 h3
end

/-- The cells of a new block, one by one. -/
theorem news_at (w : World) (l : List Value) (t : TypeId) : ∀ j u, l[j]? = some u → (w.alloc (.cells l.toArray t)).cell? ((⟨w.heap.size, 0, none⟩ : Addr).add j) = some u := by
  intro j u hu
  rw [Addr.add_lit, Nat.zero_add, cell_of_row _ _ _ _ _ _ (heap_alloc_new w _)]
  simpa using hu

theorem below_cells {B : Nat} {w w1 : World} (hb : Below B w w1) : (∀ b o, b < B → w1.cell? ⟨b, o, none⟩ = w.cell? ⟨b, o, none⟩) ∧ (∀ b o, b < B → w1.frozen? ⟨b, o, none⟩ = w.frozen? ⟨b, o, none⟩) :=
  ⟨fun b o h => hb.cell (p := ⟨b, o, none⟩) h, fun b o h => hb.frozen (p := ⟨b, o, none⟩) h⟩
end Go.Proofs.YtolfkhflbjnakaaGreatDoor

/- Ints in a row of memory. No program but the number of the type int. -/
set_option linter.unusedVariables false
namespace Go.Proofs.YtolfkhflbjnakaaGreatDoor
open Go Go.RowKit

def ints (l : List Int) : List Value := l.map (Value.int .i64)
theorem ints_length (l : List Int) : (ints l).length = l.length := by simp [ints]
theorem info_int : (Tryz.prog.info? 3).map (fun i => (i.zero, i.size, i.bytes)) = some (some (.int .i64 0), 1, 8) := by kernel_rfl
theorem row_int {w : World} {B : Nat} {A : Option Addr} {xs : List Int} (h : Row w B A (ints xs)) {k : Nat} (hk : k < xs.length) :
    ∃ b off, A = some ⟨b, off, none⟩ ∧ b < B ∧ w.cell? ⟨b, off + k, none⟩ = some (.int .i64 xs[k]) := by
  obtain ⟨b, off, rfl, hb, hc⟩ := h.at_ (by rw [ints_length]; omega)
  refine ⟨b, off, rfl, hb, hc k _ ?_⟩
  simp [ints, hk]
end Go.Proofs.YtolfkhflbjnakaaGreatDoor

/- What package sign's Signs answers: the signs of the bytes, in new memory; nothing that was there turns. For every text of at most 2^30 bytes. -/
set_option linter.unusedVariables false
namespace Go.Proofs.YtolfkhflbjnakaaGreatDoor
open Go Go.RowKit



/-- What a call gives that makes a list of ints: it lies in new memory, and nothing that was there has turned. -/
def GaveInts (l : List Int) (w : World) (e : Ending) (w' : World) : Prop := ∃ v, e = .returned v ∧ w'.ownsRow w.heap.size 3 1 v l.length (ints l) ∧ Below w.heap.size w w'

set_option maxHeartbeats 1000000 in
set_option maxRecDepth 100000 in
theorem sign_Signs (s : ByteArray) (w : World) (hs : s.size ≤ 1073741824) :
    Calls Tryz.prog 134 #[.string s] w (GaveInts (signs s.data.toList) w) := by
  obtain ⟨i0, hi0, hz0, hz1, hz2⟩ := info_parts info_int
  have hrc := Lib.runeCount_le s
  go_enter Tryz.func134, Tryz.ntmps134
  go_wp2_with (go_at_call 155; refine (run_count s _ (by omega)).mono ?_)
  rintro e w1 ⟨rfl, pos, rfl⟩
  go_wp2_with (at_make; refine wpList_make_own _ rfl _ _ 87 rfl w.heap.size 3 i0 _ 1 Tryz.underlying87 hi0 hz0 hz1 _ _ _ (Lib.runeCount s) rfl rfl rfl ?c1 ?c2 ?c3 ?_)
  case c1 => rw [hz2]; omega
  case c2 => unfold maxLen; omega
  case c3 => show w.heap.size ≤ (w.heap.push _).size; simp
  intro w2 hown hgrow
  have hb2 : Below w.heap.size w w2 := ((Below.refl _ w).alloc (Nat.le_refl _) (.stringIter s pos)).grown hgrow (by simp) (fun k hk => by cases hk)
  have hsz2 := hb2.size
  go_wp2
  go_loopw [3] (fun l wr => ∃ (pos : Nat) (acc : List Int), pos ≤ s.size ∧ acc.length ≤ pos ∧ wr.heap[w2.heap.size]? = some (.stringIter s pos) ∧ wr.ownsRow w.heap.size 3 1 l acc.length (ints acc) ∧ Below w.heap.size w wr ∧ acc ++ signs (s.data.toList.drop pos) = signs s.data.toList) (fun _ wr => s.size - wr.iterPos w2.heap.size)
  case atStart =>
    refine ⟨0, [], Nat.zero_le _, Nat.le_refl _, ?_, hown.alloc _, hb2.alloc hsz2 _, rfl⟩
    exact heap_alloc_new w2 _
  case round =>
    obtain ⟨pos, acc, hpos, hal, hit, hown, hbw, hacc⟩ := hrel
    by_cases hp : pos < s.size
    · have hnx : ∀ ty, (Instr.next (.pointer (some ⟨w2.heap.size, 0, none⟩)) true ty).run Tryz.prog wr = _ := fun ty => Lib.run_next_any_at wr w2.heap.size s pos ty hit hp
      have hdd := decode_dec s pos
      have hne : s.data.toList.drop pos ≠ [] := by
        intro h
        have := congrArg List.length h
        rw [List.length_drop, List.length_nil] at this
        have e : s.data.toList.length = s.size := Array.length_toList
        omega
      have hst := signs_step _ hne
      have hwd := dec_width _ hne
      rw [List.drop_drop] at hst
      rw [← hdd] at hst hwd
      have hlen : (s.data.toList.drop pos).length = s.size - pos := by rw [List.length_drop]; rfl
      rw [hlen] at hwd
      have hd1 := decode_le s pos
      have hown2 := owned_iter (q := pos + (Utf8.decode s pos).2) hown hit
      have hit2 := Lib.iterAt_heap wr w2.heap.size s pos (pos + (Utf8.decode s pos).2) hit
      have hbw2 := Lib.below_iterAt hbw (k := w2.heap.size) (by omega) s (pos + (Utf8.decode s pos).2)
      clear hdd hne hlen
      have HST := Lib.hid hst
      have HACC := Lib.hid hacc
      have HIT := Lib.hid hit
      clear hst hacc hit hown hbw
      obtain ⟨wi, hwi⟩ : ∃ wi, wi = wr.iterAt w2.heap.size s (pos + (Utf8.decode s pos).2) := ⟨_, rfl⟩
      rw [← hwi] at hnx hown2 hit2 hbw2
      have hszi := hbw2.size
      clear hwi
      go_wp2_with (at_builtin; refine wpList_append_own _ rfl (.tmp 14) (.tmp 17) 87 rfl w.heap.size 3 i0 _ 1 8 Tryz.underlying87 hi0 hz0 hz1 hz2 rfl (by omega) _ acc.length (ints acc) rfl (hown2.alloc _) ⟨wi.heap.size, 0, none⟩ 1 1 [.int .i64 (Utf8.decode s pos).1] rfl rfl ?c1 ?c2 ?c3 ?c4 ?c5 ?_)
      case c1 =>
        intro j u hj
        match j, hj with
        | 0, hj => simp at hj; subst hj; simp [Addr.add]
        | (j + 1), hj => simp at hj
      case c2 => intro u hu; simp at hu; subst hu; rfl
      case c3 => unfold maxLen; omega
      case c4 => omega
      case c5 => simp; omega
      intro v' w3 hown3 hgrow3 _
      have hit3 : w3.heap[w2.heap.size]? = some (.stringIter s (pos + (Utf8.decode s pos).2)) :=
        iter_grown (hown2.alloc _) ((Below.heap_alloc wi _ _ (Array.getElem?_eq_some_iff.1 hit2).1).trans hit2) hgrow3
      go_wp2
      go_roundw
      case rel =>
        refine ⟨pos + (Utf8.decode s pos).2, acc ++ [((Utf8.decode s pos).1 : Int)], by omega, by simp; omega, hit3, ?_, ?_, ?_⟩
        · simpa [ints] using hown3
        · exact (hbw2.alloc (by omega) _).grown hgrow3 (by simp; omega) (fun k hk => (hown2.lt k hk).1)
        · rw [← HACC.out, HST.out]; simp
      case measure =>
        simp only [World.iterPos, hit3, HIT.out]
        omega
    · have hnx : ∀ ty, (Instr.next (.pointer (some ⟨w2.heap.size, 0, none⟩)) true ty).run Tryz.prog wr = _ := fun ty => Lib.run_next_end_at wr w2.heap.size s pos ty hit hp
      have HACC := Lib.hid hacc
      clear hacc
      go_wp2
      go_ret
      have he : s.data.toList.drop pos = [] := List.drop_eq_nil_of_le (by rw [Array.length_toList]; exact Nat.le_of_not_lt hp)
      have hout := HACC.out
      rw [he, signs_nil, List.append_nil] at hout
      subst hout
      exact ⟨_, rfl, hown, hbw⟩
end Go.Proofs.YtolfkhflbjnakaaGreatDoor
