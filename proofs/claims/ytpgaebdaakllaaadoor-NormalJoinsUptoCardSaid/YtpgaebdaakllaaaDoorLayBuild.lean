/-
  The numbers of this program for the library's contracts of strings.Builder.
-/
import Derived.Test.YtpgaebdaakllaaaDoorProg
import Derived.WalkKit
import Derived.Shelf.Strings.BuilderK
import Derived.Shelf.Strings.BuilderRune
namespace Go.Proofs.YtpgaebdaakllaaaDoor
open Go.Shelf

def buildRen : Go.Shelf.Ren := ⟨fun | 168 => 59 | 169 => 60 | 240 => 69 | 242 => 70 | 276 => 75 | 278 => 76 | n => n, fun | 0 => 0 | 3 => 3 | 4 => 4 | 5 => 5 | 9 => 9 | 20 => 20 | 21 => 21 | 37 => 56 | 46 => 55 | 51 => 88 | 70 => 62 | 72 => 64 | 75 => 66 | 80 => 69 | 127 => 82 | 164 => 86 | n => n, fun n => n⟩
theorem runeLays : Lays.n168 Tryd.prog buildRen := {
  mixed := by kernel_rfl,
  f168 := Tryd.func59.trans (congrArg some (by kernel_rfl)),
  f240 := Tryd.func69.trans (congrArg some (by kernel_rfl)),
  f242 := Tryd.func70.trans (congrArg some (by kernel_rfl)),
  f276 := Tryd.func75.trans (congrArg some (by kernel_rfl)),
  f278 := Tryd.func76.trans (congrArg some (by kernel_rfl)),
  t0 := Tryd.underlying0,
  a0 := Tryd.isAgg0,
  z0 := Tryd.sizeOf0,
  v0 := Tryd.zeroValue0,
  t3 := Tryd.underlying3,
  a3 := Tryd.isAgg3,
  z3 := Tryd.sizeOf3,
  v3 := Tryd.zeroValue3,
  t4 := Tryd.underlying4,
  a4 := Tryd.isAgg4,
  z4 := Tryd.sizeOf4,
  v4 := Tryd.zeroValue4,
  t5 := Tryd.underlying5,
  a5 := Tryd.isAgg5,
  z5 := Tryd.sizeOf5,
  v5 := Tryd.zeroValue5,
  t9 := Tryd.underlying9,
  a9 := Tryd.isAgg9,
  z9 := Tryd.sizeOf9,
  v9 := Tryd.zeroValue9,
  t20 := Tryd.underlying20,
  a20 := Tryd.isAgg20,
  z20 := Tryd.sizeOf20,
  v20 := Tryd.zeroValue20,
  t21 := Tryd.underlying21,
  a21 := Tryd.isAgg21,
  z21 := Tryd.sizeOf21,
  v21 := Tryd.zeroValue21,
  t37 := Tryd.underlying56,
  a37 := Tryd.isAgg56,
  z37 := Tryd.sizeOf56,
  v37 := Tryd.zeroValue56,
  t46 := Tryd.underlying55,
  a46 := Tryd.isAgg55,
  z46 := Tryd.sizeOf55,
  v46 := Tryd.zeroValue55,
  t51 := Tryd.underlying88,
  a51 := Tryd.isAgg88,
  z51 := Tryd.sizeOf88,
  v51 := Tryd.zeroValue88,
  t70 := Tryd.underlying62,
  a70 := Tryd.isAgg62,
  z70 := Tryd.sizeOf62,
  v70 := Tryd.zeroValue62,
  t72 := Tryd.underlying64,
  a72 := Tryd.isAgg64,
  z72 := Tryd.sizeOf64,
  v72 := Tryd.zeroValue64,
  t75 := Tryd.underlying66,
  a75 := Tryd.isAgg66,
  z75 := Tryd.sizeOf66,
  v75 := Tryd.zeroValue66,
  t164 := Tryd.underlying86,
  a164 := Tryd.isAgg86,
  z164 := Tryd.sizeOf86,
  v164 := Tryd.zeroValue86
}
theorem stringLays : Lays.n169 Tryd.prog buildRen := {
  mixed := by kernel_rfl,
  f169 := Tryd.func60.trans (congrArg some (by kernel_rfl)),
  t0 := Tryd.underlying0,
  a0 := Tryd.isAgg0,
  z0 := Tryd.sizeOf0,
  v0 := Tryd.zeroValue0,
  t3 := Tryd.underlying3,
  a3 := Tryd.isAgg3,
  z3 := Tryd.sizeOf3,
  v3 := Tryd.zeroValue3,
  t9 := Tryd.underlying9,
  a9 := Tryd.isAgg9,
  z9 := Tryd.sizeOf9,
  v9 := Tryd.zeroValue9,
  t37 := Tryd.underlying56,
  a37 := Tryd.isAgg56,
  z37 := Tryd.sizeOf56,
  v37 := Tryd.zeroValue56,
  t70 := Tryd.underlying62,
  a70 := Tryd.isAgg62,
  z70 := Tryd.sizeOf62,
  v70 := Tryd.zeroValue62,
  t72 := Tryd.underlying64,
  a72 := Tryd.isAgg64,
  z72 := Tryd.sizeOf64,
  v72 := Tryd.zeroValue64,
  t127 := Tryd.underlying82,
  a127 := Tryd.isAgg82,
  z127 := Tryd.sizeOf82,
  v127 := Tryd.zeroValue82
}
theorem buildExtra : Builder.Extra Tryd.prog buildRen where
  sizeBuilder := by kernel_rfl
  liesBuilder := by kernel_rfl
  t5 := Tryd.underlying5
  a5 := Tryd.isAgg5
  z5 := Tryd.sizeOf5
  v5 := Tryd.zeroValue5
  infoByte := by kernel_rfl
  cellsByte := by kernel_rfl
  sizeByte := by kernel_rfl
  neB5 := by decide

end Go.Proofs.YtpgaebdaakllaaaDoor
