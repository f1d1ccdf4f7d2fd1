/-
  The numbers of this program for the library's contracts of strings.
  The program's isArticle, divideAtSpace.
-/
import Derived.Test.YtmgofhbdaopapaaGreatDoorProg
import Derived.WalkKit
import Derived.Shelf.Strings.Trim
import Derived.Shelf.Strings.Prefix
import Derived.Shelf.Strings.OnBuilder
import Derived.Shelf.Strings.Repeat
import Derived.Shelf.Strings.Search3
import Derived.Test.YtmgofhbdaopapaaGreatDoorPkAO
import Derived.Test.YtmgofhbdaopapaaGreatDoorPkAX
namespace Go.Proofs.YtmgofhbdaopapaaGreatDoor
open Go.Shelf

def ren9 : Go.Shelf.Ren := ⟨fun | 99 => 22 | 100 => 83 | 105 => 25 | 118 => 72 | 119 => 112 | 120 => 88 | 137 => 111 | 143 => 52 | 144 => 26 | 151 => 67 | 152 => 89 | 158 => 24 | 161 => 32 | 162 => 20 | 165 => 44 | 166 => 45 | 167 => 46 | 168 => 73 | 169 => 47 | 170 => 51 | 197 => 71 | 203 => 49 | 206 => 41 | 207 => 106 | 212 => 50 | 217 => 97 | 219 => 78 | 224 => 99 | 225 => 98 | 227 => 38 | 228 => 65 | 230 => 48 | 231 => 59 | 232 => 37 | 233 => 60 | 234 => 39 | 235 => 61 | 236 => 40 | 240 => 69 | 241 => 70 | 242 => 95 | 260 => 94 | 262 => 75 | 263 => 76 | 264 => 77 | 266 => 116 | 267 => 100 | 270 => 74 | 271 => 66 | 274 => 114 | 275 => 115 | 276 => 92 | 277 => 93 | 278 => 113 | 313 => 96 | 314 => 117 | n => n, fun | 0 => 0 | 3 => 3 | 4 => 4 | 5 => 5 | 9 => 9 | 20 => 20 | 21 => 21 | 37 => 55 | 46 => 67 | 51 => 91 | 53 => 94 | 70 => 54 | 72 => 57 | 75 => 60 | 76 => 61 | 80 => 64 | 105 => 83 | 107 => 66 | 109 => 68 | 116 => 47 | 117 => 48 | 119 => 117 | 124 => 51 | 127 => 87 | 138 => 119 | 139 => 120 | 146 => 92 | 148 => 95 | 160 => 121 | 162 => 109 | 164 => 103 | 203 => 107 | 206 => 142 | 208 => 144 | n => n, fun | 1 => 1 | 3 => 2 | 4 => 3 | 13 => 0 | n => n⟩
theorem trimlLays : Lays.n161 Tryz.prog ren9 := {
  mixed := by kernel_rfl,
  f119 := Tryz.func112.trans (congrArg some (by kernel_rfl)),
  f137 := Tryz.func111.trans (congrArg some (by kernel_rfl)),
  f151 := Tryz.func67.trans (congrArg some (by kernel_rfl)),
  f152 := Tryz.func89.trans (congrArg some (by kernel_rfl)),
  f161 := Tryz.func32.trans (congrArg some (by kernel_rfl)),
  f197 := Tryz.func71.trans (congrArg some (by kernel_rfl)),
  f217 := Tryz.func97.trans (congrArg some (by kernel_rfl)),
  f224 := Tryz.func99.trans (congrArg some (by kernel_rfl)),
  f225 := Tryz.func98.trans (congrArg some (by kernel_rfl)),
  f227 := Tryz.func38.trans (congrArg some (by kernel_rfl)),
  f228 := Tryz.func65.trans (congrArg some (by kernel_rfl)),
  f231 := Tryz.func59.trans (congrArg some (by kernel_rfl)),
  f233 := Tryz.func60.trans (congrArg some (by kernel_rfl)),
  f235 := Tryz.func61.trans (congrArg some (by kernel_rfl)),
  f260 := Tryz.func94.trans (congrArg some (by kernel_rfl)),
  f266 := Tryz.func116.trans (congrArg some (by kernel_rfl)),
  t0 := Tryz.underlying0,
  a0 := Tryz.isAgg0,
  z0 := Tryz.sizeOf0,
  v0 := Tryz.zeroValue0,
  t3 := Tryz.underlying3,
  a3 := Tryz.isAgg3,
  z3 := Tryz.sizeOf3,
  v3 := Tryz.zeroValue3,
  t4 := Tryz.underlying4,
  a4 := Tryz.isAgg4,
  z4 := Tryz.sizeOf4,
  v4 := Tryz.zeroValue4,
  t5 := Tryz.underlying5,
  a5 := Tryz.isAgg5,
  z5 := Tryz.sizeOf5,
  v5 := Tryz.zeroValue5,
  t9 := Tryz.underlying9,
  a9 := Tryz.isAgg9,
  z9 := Tryz.sizeOf9,
  v9 := Tryz.zeroValue9,
  t21 := Tryz.underlying21,
  a21 := Tryz.isAgg21,
  z21 := Tryz.sizeOf21,
  v21 := Tryz.zeroValue21,
  t46 := Tryz.underlying67,
  a46 := Tryz.isAgg67,
  z46 := Tryz.sizeOf67,
  v46 := Tryz.zeroValue67,
  t105 := Tryz.underlying83,
  a105 := Tryz.isAgg83,
  z105 := Tryz.sizeOf83,
  v105 := Tryz.zeroValue83,
  t116 := Tryz.underlying47,
  a116 := Tryz.isAgg47,
  z116 := Tryz.sizeOf47,
  t117 := Tryz.underlying48,
  a117 := Tryz.isAgg48,
  z117 := Tryz.sizeOf48,
  v117 := Tryz.zeroValue48,
  t119 := Tryz.underlying117,
  a119 := Tryz.isAgg117,
  z119 := Tryz.sizeOf117,
  t124 := Tryz.underlying51,
  a124 := Tryz.isAgg51,
  z124 := Tryz.sizeOf51,
  v124 := Tryz.zeroValue51,
  t138 := Tryz.underlying119,
  a138 := Tryz.isAgg119,
  z138 := Tryz.sizeOf119,
  v138 := Tryz.zeroValue119,
  t139 := Tryz.underlying120,
  a139 := Tryz.isAgg120,
  z139 := Tryz.sizeOf120,
  v139 := Tryz.zeroValue120,
  g3 := by kernel_rfl,
  g4 := by kernel_rfl
}
theorem trimrLays : Lays.n162 Tryz.prog ren9 := {
  mixed := by kernel_rfl,
  f119 := Tryz.func112.trans (congrArg some (by kernel_rfl)),
  f120 := Tryz.func88.trans (congrArg some (by kernel_rfl)),
  f137 := Tryz.func111.trans (congrArg some (by kernel_rfl)),
  f151 := Tryz.func67.trans (congrArg some (by kernel_rfl)),
  f152 := Tryz.func89.trans (congrArg some (by kernel_rfl)),
  f162 := Tryz.func20.trans (congrArg some (by kernel_rfl)),
  f197 := Tryz.func71.trans (congrArg some (by kernel_rfl)),
  f217 := Tryz.func97.trans (congrArg some (by kernel_rfl)),
  f224 := Tryz.func99.trans (congrArg some (by kernel_rfl)),
  f225 := Tryz.func98.trans (congrArg some (by kernel_rfl)),
  f227 := Tryz.func38.trans (congrArg some (by kernel_rfl)),
  f228 := Tryz.func65.trans (congrArg some (by kernel_rfl)),
  f232 := Tryz.func37.trans (congrArg some (by kernel_rfl)),
  f234 := Tryz.func39.trans (congrArg some (by kernel_rfl)),
  f236 := Tryz.func40.trans (congrArg some (by kernel_rfl)),
  f260 := Tryz.func94.trans (congrArg some (by kernel_rfl)),
  f266 := Tryz.func116.trans (congrArg some (by kernel_rfl)),
  f271 := Tryz.func66.trans (congrArg some (by kernel_rfl)),
  t0 := Tryz.underlying0,
  a0 := Tryz.isAgg0,
  z0 := Tryz.sizeOf0,
  v0 := Tryz.zeroValue0,
  t3 := Tryz.underlying3,
  a3 := Tryz.isAgg3,
  z3 := Tryz.sizeOf3,
  v3 := Tryz.zeroValue3,
  t4 := Tryz.underlying4,
  a4 := Tryz.isAgg4,
  z4 := Tryz.sizeOf4,
  v4 := Tryz.zeroValue4,
  t5 := Tryz.underlying5,
  a5 := Tryz.isAgg5,
  z5 := Tryz.sizeOf5,
  v5 := Tryz.zeroValue5,
  t9 := Tryz.underlying9,
  a9 := Tryz.isAgg9,
  z9 := Tryz.sizeOf9,
  v9 := Tryz.zeroValue9,
  t21 := Tryz.underlying21,
  a21 := Tryz.isAgg21,
  z21 := Tryz.sizeOf21,
  v21 := Tryz.zeroValue21,
  t46 := Tryz.underlying67,
  a46 := Tryz.isAgg67,
  z46 := Tryz.sizeOf67,
  v46 := Tryz.zeroValue67,
  t105 := Tryz.underlying83,
  a105 := Tryz.isAgg83,
  z105 := Tryz.sizeOf83,
  v105 := Tryz.zeroValue83,
  t116 := Tryz.underlying47,
  a116 := Tryz.isAgg47,
  z116 := Tryz.sizeOf47,
  t117 := Tryz.underlying48,
  a117 := Tryz.isAgg48,
  z117 := Tryz.sizeOf48,
  v117 := Tryz.zeroValue48,
  t119 := Tryz.underlying117,
  a119 := Tryz.isAgg117,
  z119 := Tryz.sizeOf117,
  t124 := Tryz.underlying51,
  a124 := Tryz.isAgg51,
  z124 := Tryz.sizeOf51,
  v124 := Tryz.zeroValue51,
  t138 := Tryz.underlying119,
  a138 := Tryz.isAgg119,
  z138 := Tryz.sizeOf119,
  v138 := Tryz.zeroValue119,
  t139 := Tryz.underlying120,
  a139 := Tryz.isAgg120,
  z139 := Tryz.sizeOf120,
  v139 := Tryz.zeroValue120,
  g3 := by kernel_rfl,
  g4 := by kernel_rfl
}
theorem hasSufLays : Lays.n100 Tryz.prog ren9 := {
  mixed := by kernel_rfl,
  f100 := Tryz.func83.trans (congrArg some (by kernel_rfl)),
  f207 := Tryz.func106.trans (congrArg some (by kernel_rfl)),
  t3 := Tryz.underlying3,
  a3 := Tryz.isAgg3,
  z3 := Tryz.sizeOf3,
  v3 := Tryz.zeroValue3,
  t4 := Tryz.underlying4,
  a4 := Tryz.isAgg4,
  z4 := Tryz.sizeOf4,
  v4 := Tryz.zeroValue4,
  t9 := Tryz.underlying9,
  a9 := Tryz.isAgg9,
  z9 := Tryz.sizeOf9,
  v9 := Tryz.zeroValue9
}
theorem hasPreLays : Lays.n99 Tryz.prog ren9 := {
  mixed := by kernel_rfl,
  f99 := Tryz.func22.trans (congrArg some (by kernel_rfl)),
  f206 := Tryz.func41.trans (congrArg some (by kernel_rfl)),
  t3 := Tryz.underlying3,
  a3 := Tryz.isAgg3,
  z3 := Tryz.sizeOf3,
  v3 := Tryz.zeroValue3,
  t4 := Tryz.underlying4,
  a4 := Tryz.isAgg4,
  z4 := Tryz.sizeOf4,
  v4 := Tryz.zeroValue4,
  t9 := Tryz.underlying9,
  a9 := Tryz.isAgg9,
  z9 := Tryz.sizeOf9,
  v9 := Tryz.zeroValue9
}
theorem upperLays : Lays.n158 Tryz.prog ren9 := {
  mixed := by kernel_rfl,
  f118 := Tryz.func72.trans (congrArg some (by kernel_rfl)),
  f158 := Tryz.func24.trans (congrArg some (by kernel_rfl)),
  f165 := Tryz.func44.trans (congrArg some (by kernel_rfl)),
  f166 := Tryz.func45.trans (congrArg some (by kernel_rfl)),
  f167 := Tryz.func46.trans (congrArg some (by kernel_rfl)),
  f168 := Tryz.func73.trans (congrArg some (by kernel_rfl)),
  f169 := Tryz.func47.trans (congrArg some (by kernel_rfl)),
  f197 := Tryz.func71.trans (congrArg some (by kernel_rfl)),
  f203 := Tryz.func49.trans (congrArg some (by kernel_rfl)),
  f230 := Tryz.func48.trans (congrArg some (by kernel_rfl)),
  f240 := Tryz.func69.trans (congrArg some (by kernel_rfl)),
  f241 := Tryz.func70.trans (congrArg some (by kernel_rfl)),
  f242 := Tryz.func95.trans (congrArg some (by kernel_rfl)),
  f260 := Tryz.func94.trans (congrArg some (by kernel_rfl)),
  f262 := Tryz.func75.trans (congrArg some (by kernel_rfl)),
  f270 := Tryz.func74.trans (congrArg some (by kernel_rfl)),
  f274 := Tryz.func114.trans (congrArg some (by kernel_rfl)),
  f275 := Tryz.func115.trans (congrArg some (by kernel_rfl)),
  f276 := Tryz.func92.trans (congrArg some (by kernel_rfl)),
  f277 := Tryz.func93.trans (congrArg some (by kernel_rfl)),
  f278 := Tryz.func113.trans (congrArg some (by kernel_rfl)),
  f313 := Tryz.func96.trans (congrArg some (by kernel_rfl)),
  t0 := Tryz.underlying0,
  a0 := Tryz.isAgg0,
  z0 := Tryz.sizeOf0,
  v0 := Tryz.zeroValue0,
  t3 := Tryz.underlying3,
  a3 := Tryz.isAgg3,
  z3 := Tryz.sizeOf3,
  v3 := Tryz.zeroValue3,
  t4 := Tryz.underlying4,
  a4 := Tryz.isAgg4,
  z4 := Tryz.sizeOf4,
  v4 := Tryz.zeroValue4,
  t5 := Tryz.underlying5,
  a5 := Tryz.isAgg5,
  z5 := Tryz.sizeOf5,
  v5 := Tryz.zeroValue5,
  t9 := Tryz.underlying9,
  a9 := Tryz.isAgg9,
  z9 := Tryz.sizeOf9,
  v9 := Tryz.zeroValue9,
  t20 := Tryz.underlying20,
  a20 := Tryz.isAgg20,
  z20 := Tryz.sizeOf20,
  v20 := Tryz.zeroValue20,
  t21 := Tryz.underlying21,
  a21 := Tryz.isAgg21,
  z21 := Tryz.sizeOf21,
  v21 := Tryz.zeroValue21,
  t37 := Tryz.underlying55,
  a37 := Tryz.isAgg55,
  z37 := Tryz.sizeOf55,
  v37 := Tryz.zeroValue55,
  t46 := Tryz.underlying67,
  a46 := Tryz.isAgg67,
  z46 := Tryz.sizeOf67,
  v46 := Tryz.zeroValue67,
  t51 := Tryz.underlying91,
  a51 := Tryz.isAgg91,
  z51 := Tryz.sizeOf91,
  v51 := Tryz.zeroValue91,
  t70 := Tryz.underlying54,
  a70 := Tryz.isAgg54,
  z70 := Tryz.sizeOf54,
  v70 := Tryz.zeroValue54,
  t72 := Tryz.underlying57,
  a72 := Tryz.isAgg57,
  z72 := Tryz.sizeOf57,
  v72 := Tryz.zeroValue57,
  t75 := Tryz.underlying60,
  a75 := Tryz.isAgg60,
  z75 := Tryz.sizeOf60,
  v75 := Tryz.zeroValue60,
  t76 := Tryz.underlying61,
  a76 := Tryz.isAgg61,
  z76 := Tryz.sizeOf61,
  v76 := Tryz.zeroValue61,
  t105 := Tryz.underlying83,
  a105 := Tryz.isAgg83,
  z105 := Tryz.sizeOf83,
  v105 := Tryz.zeroValue83,
  t107 := Tryz.underlying66,
  a107 := Tryz.isAgg66,
  z107 := Tryz.sizeOf66,
  v107 := Tryz.zeroValue66,
  t119 := Tryz.underlying117,
  a119 := Tryz.isAgg117,
  z119 := Tryz.sizeOf117,
  t127 := Tryz.underlying87,
  a127 := Tryz.isAgg87,
  z127 := Tryz.sizeOf87,
  v127 := Tryz.zeroValue87,
  t138 := Tryz.underlying119,
  a138 := Tryz.isAgg119,
  z138 := Tryz.sizeOf119,
  v138 := Tryz.zeroValue119,
  t139 := Tryz.underlying120,
  a139 := Tryz.isAgg120,
  z139 := Tryz.sizeOf120,
  v139 := Tryz.zeroValue120,
  t160 := Tryz.underlying121,
  a160 := Tryz.isAgg121,
  z160 := Tryz.sizeOf121,
  v160 := Tryz.zeroValue121,
  t162 := Tryz.underlying109,
  a162 := Tryz.isAgg109,
  z162 := Tryz.sizeOf109,
  v162 := Tryz.zeroValue109,
  t164 := Tryz.underlying103,
  a164 := Tryz.isAgg103,
  z164 := Tryz.sizeOf103,
  v164 := Tryz.zeroValue103,
  t203 := Tryz.underlying107,
  a203 := Tryz.isAgg107,
  z203 := Tryz.sizeOf107,
  v203 := Tryz.zeroValue107,
  t206 := Tryz.underlying142,
  a206 := Tryz.isAgg142,
  z206 := Tryz.sizeOf142,
  v206 := Tryz.zeroValue142,
  t208 := Tryz.underlying144,
  a208 := Tryz.isAgg144,
  z208 := Tryz.sizeOf144,
  v208 := Tryz.zeroValue144,
  g3 := by kernel_rfl,
  g4 := by kernel_rfl,
  g13 := by kernel_rfl
}
theorem repeatLays : Lays.n105 Tryz.prog ren9 := {
  mixed := by kernel_rfl,
  f99 := Tryz.func22.trans (congrArg some (by kernel_rfl)),
  f105 := Tryz.func25.trans (congrArg some (by kernel_rfl)),
  f165 := Tryz.func44.trans (congrArg some (by kernel_rfl)),
  f166 := Tryz.func45.trans (congrArg some (by kernel_rfl)),
  f169 := Tryz.func47.trans (congrArg some (by kernel_rfl)),
  f170 := Tryz.func51.trans (congrArg some (by kernel_rfl)),
  f206 := Tryz.func41.trans (congrArg some (by kernel_rfl)),
  f212 := Tryz.func50.trans (congrArg some (by kernel_rfl)),
  f240 := Tryz.func69.trans (congrArg some (by kernel_rfl)),
  f241 := Tryz.func70.trans (congrArg some (by kernel_rfl)),
  f263 := Tryz.func76.trans (congrArg some (by kernel_rfl)),
  f264 := Tryz.func77.trans (congrArg some (by kernel_rfl)),
  f276 := Tryz.func92.trans (congrArg some (by kernel_rfl)),
  f277 := Tryz.func93.trans (congrArg some (by kernel_rfl)),
  t0 := Tryz.underlying0,
  a0 := Tryz.isAgg0,
  z0 := Tryz.sizeOf0,
  v0 := Tryz.zeroValue0,
  t3 := Tryz.underlying3,
  a3 := Tryz.isAgg3,
  z3 := Tryz.sizeOf3,
  v3 := Tryz.zeroValue3,
  t4 := Tryz.underlying4,
  a4 := Tryz.isAgg4,
  z4 := Tryz.sizeOf4,
  v4 := Tryz.zeroValue4,
  t5 := Tryz.underlying5,
  a5 := Tryz.isAgg5,
  z5 := Tryz.sizeOf5,
  v5 := Tryz.zeroValue5,
  t9 := Tryz.underlying9,
  a9 := Tryz.isAgg9,
  z9 := Tryz.sizeOf9,
  v9 := Tryz.zeroValue9,
  t20 := Tryz.underlying20,
  a20 := Tryz.isAgg20,
  z20 := Tryz.sizeOf20,
  v20 := Tryz.zeroValue20,
  t37 := Tryz.underlying55,
  a37 := Tryz.isAgg55,
  z37 := Tryz.sizeOf55,
  v37 := Tryz.zeroValue55,
  t46 := Tryz.underlying67,
  a46 := Tryz.isAgg67,
  z46 := Tryz.sizeOf67,
  v46 := Tryz.zeroValue67,
  t51 := Tryz.underlying91,
  a51 := Tryz.isAgg91,
  z51 := Tryz.sizeOf91,
  v51 := Tryz.zeroValue91,
  t53 := Tryz.underlying94,
  a53 := Tryz.isAgg94,
  z53 := Tryz.sizeOf94,
  v53 := Tryz.zeroValue94,
  t70 := Tryz.underlying54,
  a70 := Tryz.isAgg54,
  z70 := Tryz.sizeOf54,
  v70 := Tryz.zeroValue54,
  t72 := Tryz.underlying57,
  a72 := Tryz.isAgg57,
  z72 := Tryz.sizeOf57,
  v72 := Tryz.zeroValue57,
  t75 := Tryz.underlying60,
  a75 := Tryz.isAgg60,
  z75 := Tryz.sizeOf60,
  v75 := Tryz.zeroValue60,
  t76 := Tryz.underlying61,
  a76 := Tryz.isAgg61,
  z76 := Tryz.sizeOf61,
  v76 := Tryz.zeroValue61,
  t109 := Tryz.underlying68,
  a109 := Tryz.isAgg68,
  z109 := Tryz.sizeOf68,
  v109 := Tryz.zeroValue68,
  t127 := Tryz.underlying87,
  a127 := Tryz.isAgg87,
  z127 := Tryz.sizeOf87,
  v127 := Tryz.zeroValue87,
  t146 := Tryz.underlying92,
  a146 := Tryz.isAgg92,
  z146 := Tryz.sizeOf92,
  v146 := Tryz.zeroValue92,
  t148 := Tryz.underlying95,
  a148 := Tryz.isAgg95,
  z148 := Tryz.sizeOf95,
  v148 := Tryz.zeroValue95,
  t164 := Tryz.underlying103,
  a164 := Tryz.isAgg103,
  z164 := Tryz.sizeOf103,
  v164 := Tryz.zeroValue103
}
theorem containsLays : Lays.n144 Tryz.prog ren9 := {
  mixed := by kernel_rfl,
  f143 := Tryz.func52.trans (congrArg some (by kernel_rfl)),
  f144 := Tryz.func26.trans (congrArg some (by kernel_rfl)),
  f217 := Tryz.func97.trans (congrArg some (by kernel_rfl)),
  f219 := Tryz.func78.trans (congrArg some (by kernel_rfl)),
  f224 := Tryz.func99.trans (congrArg some (by kernel_rfl)),
  f225 := Tryz.func98.trans (congrArg some (by kernel_rfl)),
  f266 := Tryz.func116.trans (congrArg some (by kernel_rfl)),
  f267 := Tryz.func100.trans (congrArg some (by kernel_rfl)),
  f314 := Tryz.func117.trans (congrArg some (by kernel_rfl)),
  t3 := Tryz.underlying3,
  a3 := Tryz.isAgg3,
  z3 := Tryz.sizeOf3,
  v3 := Tryz.zeroValue3,
  t4 := Tryz.underlying4,
  a4 := Tryz.isAgg4,
  z4 := Tryz.sizeOf4,
  v4 := Tryz.zeroValue4,
  t5 := Tryz.underlying5,
  a5 := Tryz.isAgg5,
  z5 := Tryz.sizeOf5,
  v5 := Tryz.zeroValue5,
  t9 := Tryz.underlying9,
  a9 := Tryz.isAgg9,
  z9 := Tryz.sizeOf9,
  v9 := Tryz.zeroValue9,
  t46 := Tryz.underlying67,
  a46 := Tryz.isAgg67,
  z46 := Tryz.sizeOf67,
  v46 := Tryz.zeroValue67,
  t51 := Tryz.underlying91,
  a51 := Tryz.isAgg91,
  z51 := Tryz.sizeOf91,
  v51 := Tryz.zeroValue91,
  t146 := Tryz.underlying92,
  a146 := Tryz.isAgg92,
  z146 := Tryz.sizeOf92,
  v146 := Tryz.zeroValue92,
  g1 := by kernel_rfl
}
theorem buildExtra9 : Builder.Extra Tryz.prog ren9 where
  sizeBuilder := by kernel_rfl
  liesBuilder := by kernel_rfl
  t5 := Tryz.underlying5
  a5 := Tryz.isAgg5
  z5 := Tryz.sizeOf5
  v5 := Tryz.zeroValue5
  infoByte := by kernel_rfl
  cellsByte := by kernel_rfl
  sizeByte := by kernel_rfl
  neB5 := by decide

end Go.Proofs.YtmgofhbdaopapaaGreatDoor

namespace Go.Proofs.YtmgofhbdaopapaaGreatDoor
open Go.RowKit

theorem nFold_len9 (s : List UInt8) : (nFold s).length ≤ 12 * s.length := by
  have h1 := nFL_len s
  have h2 := encL_len (nFL s)
  unfold nFold
  omega


set_option maxRecDepth 20000 in
set_option maxHeartbeats 3200000 in
theorem idxS_any (A : Option Addr) (n c : Nat) (l : List (List UInt8)) (x : List UInt8) (w : World) (h : Arr sv w w.heap.size (.slice A n c) l) (hn : n ≤ 1000000) :
    Calls Tryz.prog 107 #[.slice A n c, .string (str x)] w fun e w' => (∃ z : Int, e = .returned (.int .i64 z) ∧ decide (0 ≤ z) = decide (x ∈ l)) ∧ Below w.heap.size w w' := by
  have HL := Lib.hid h.len
  go_enter Tryz.func107, Tryz.ntmps107
  go_wp2
  go_loopw [8] (fun i wr => ∃ k : Nat, k ≤ n ∧ i = .int .i64 (k : Int) ∧ Hid (x ∉ l.take k) ∧ Below w.heap.size w wr) (fun i _ => n - (intOf i).toNat)
  case atStart => exact ⟨0, by omega, rfl, Lib.hid (by simp), Below.refl _ _⟩
  case round =>
    obtain ⟨k, hk, rfl, HN, hb⟩ := hrel
    by_cases hlt : k < n
    · have i1 : decide ((k : Int) < (n : Int)) = true := decide_eq_true (by omega)
      have i1n : decide (k < n) = true := decide_eq_true hlt
      have kz : (k : Int) < (n : Int) := by omega
      obtain ⟨b0, o0, rfl, hB0, hc0⟩ := h.some_ (by omega)
      obtain ⟨y, hy⟩ : ∃ a, l[k]? = some a := ⟨_, List.getElem?_eq_getElem (by have := HL.out; omega)⟩
      have d0 : wr.cell? ⟨b0, o0 + k, none⟩ = some (.string (str y)) := (hb.cell (p := ⟨b0, o0 + k, none⟩) hB0).trans (hc0 k y hy)
      have hq := strs_beq x y
      have HT := Lib.hid (take_next hy)
      have HM := Lib.hid (List.mem_of_getElem? hy)
      clear hc0 hy
      by_cases hxy : x = y
      · have q1 : ((str x).toList == (str y).toList) = true := hq.trans (decide_eq_true hxy)
        have HE : Hid (decide (0 ≤ (k : Int)) = decide (x ∈ l)) := Lib.hid (by rw [decide_eq_true (show (0 : Int) ≤ (k : Int) by omega), decide_eq_true (hxy ▸ HM.out)])
        clear hq hxy
        go_wp2
        go_ret
        exact ⟨⟨_, rfl, HE.out⟩, hb⟩
      · have q1 : ((str x).toList == (str y).toList) = false := hq.trans (decide_eq_false hxy)
        have HN2 : Hid (x ∉ l.take (k + 1)) := Lib.hid (by
          rw [HT.out]
          intro hm
          rcases List.mem_append.1 hm with hm | hm
          · exact HN.out hm
          · exact hxy (List.mem_singleton.1 hm))
        clear hq hxy
        go_wp2
        go_roundw
        case rel => exact ⟨k + 1, by omega, by go_num, HN2, hb⟩
        case measure => simp [intOf]; omega
    · obtain rfl : k = n := by omega
      have i1 : decide ((k : Int) < (k : Int)) = false := by simp
      have i1n : decide (k < k) = false := by simp
      have HE : Hid (decide (0 ≤ (-1 : Int)) = decide (x ∈ l)) := Lib.hid (by
        have h1 := HN.out
        rw [List.take_of_length_le (by rw [HL.out]; exact Nat.le_refl _)] at h1
        rw [decide_eq_false h1]
        rfl)
      go_wp2
      go_ret
      exact ⟨⟨_, rfl, HE.out⟩, hb⟩

set_option maxRecDepth 20000 in
set_option maxHeartbeats 3200000 in
theorem hasS_any (A : Option Addr) (n c : Nat) (l : List (List UInt8)) (x : List UInt8) (w : World) (h : Arr sv w w.heap.size (.slice A n c) l) (hn : n ≤ 1000000) :
    Calls Tryz.prog 84 #[.slice A n c, .string (str x)] w fun e w' => e = .returned (.bool (decide (x ∈ l))) ∧ Below w.heap.size w w' := by
  have H := Lib.hid (idxS_any A n c l x w h hn)
  obtain ⟨r, hr⟩ : ∃ r, decide (x ∈ l) = r := ⟨_, rfl⟩
  rw [hr] at H ⊢
  clear hr h
  go_enter Tryz.func84, Tryz.ntmps84
  go_wp2_with fail
  refine H.out.mono ?_
  rintro e w1 ⟨⟨z, rfl, hz⟩, k1⟩
  subst hz
  go_wp2
  go_ret
  exact ⟨rfl, k1⟩

theorem hasSuf9_any (a : List UInt8) (w : World) (ha : a.length ≤ 1000000) :
    Calls Tryz.prog 83 #[.string (str a), .string ⟨#[39]⟩] w fun e w' => e = .returned (.bool (apoB a)) ∧ Below w.heap.size w w' := by
  have h1 := Go.Proofs.Any.strings_HasSuffix hasSufLays (str a) ⟨#[39]⟩ w (by rw [str_size]; omega)
  have e1 : (str a).data.toList = a := by simp [str]
  rw [e1, show (⟨#[39]⟩ : ByteArray).data.toList = [39] from rfl, suffix_apo] at h1
  refine Calls.mono (show Calls Tryz.prog 83 #[.string (str a), .string ⟨#[39]⟩] w _ from h1) ?_
  rintro e w' ⟨rfl, rfl⟩
  exact ⟨rfl, Below.refl _ _⟩

set_option maxRecDepth 20000 in
set_option maxHeartbeats 3200000 in
theorem prIsArt_any (A : Option Addr) (n c : Nat) (l : List (List UInt8)) (x : List UInt8) (el : Bool) (w : World) (hS : Ready9 w) (h : Arr sv w w.heap.size (.slice A n c) l) (hn : n ≤ 1000000) (hx : x.length ≤ 5000) :
    Calls Tryz.prog 56 #[.slice A n c, .string (str x), .bool el] w fun e w' => e = .returned (.bool ((apoB (nFold x) == el) && decide (nFold x ∈ l))) ∧ Below w.heap.size w w' := by
  have HF := Lib.hid (prFold_s x w hS hx)
  have hfl := nFold_len9 x
  have HSu := Lib.hid (fun W => hasSuf9_any (nFold x) W (by omega))
  have HC := Lib.hid (fun W (hW : Below w.heap.size w W) => hasS_any A n c l (nFold x) W (h.up hW) hn)
  obtain ⟨F, hF⟩ : ∃ F, nFold x = F := ⟨_, rfl⟩
  rw [hF] at HF HSu HC ⊢
  obtain ⟨a, ha⟩ : ∃ a, apoB F = a := ⟨_, rfl⟩
  rw [ha] at HSu ⊢
  obtain ⟨m, hm⟩ : ∃ m, decide (F ∈ l) = m := ⟨_, rfl⟩
  rw [hm] at HC ⊢
  clear hF ha hm hfl hS h
  go_enter Tryz.func56, Tryz.ntmps56
  go_wp2_with fail
  refine HF.out.mono ?_
  rintro e w1 ⟨rfl, k1⟩
  go_wp2_with fail
  refine (HSu.out _).mono ?_
  rintro e w2 ⟨rfl, k2⟩
  have b2 := below_next k1 k2
  cases a <;> cases el
  · go_wp2_with fail
    refine (HC.out _ b2).mono ?_
    rintro e w3 ⟨rfl, k3⟩
    go_wp2
    go_ret
    exact ⟨rfl, below_next b2 k3⟩
  · go_wp2
    go_ret
    exact ⟨rfl, b2⟩
  · go_wp2
    go_ret
    exact ⟨rfl, b2⟩
  · go_wp2_with fail
    refine (HC.out _ b2).mono ?_
    rintro e w3 ⟨rfl, k3⟩
    go_wp2
    go_ret
    exact ⟨rfl, below_next b2 k3⟩

end Go.Proofs.YtmgofhbdaopapaaGreatDoor
