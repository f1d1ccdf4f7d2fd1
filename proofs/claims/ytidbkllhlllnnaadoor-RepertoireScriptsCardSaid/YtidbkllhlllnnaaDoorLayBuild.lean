/-
  The numbers of this program for the library's contracts of strings.Builder.
-/
import Derived.Test.YtidbkllhlllnnaaDoorProg
import Derived.WalkKit
import Derived.Shelf.Strings.BuilderK
import Derived.Shelf.Strings.BuilderRune
namespace Go.Proofs.YtidbkllhlllnnaaDoor
open Go.Shelf

def buildRen : Go.Shelf.Ren := ⟨fun | 168 => 34 | 169 => 35 | 240 => 38 | 242 => 39 | 276 => 40 | 278 => 41 | n => n, fun | 0 => 0 | 3 => 3 | 4 => 4 | 5 => 5 | 9 => 9 | 20 => 20 | 21 => 21 | 37 => 47 | 46 => 57 | 51 => 62 | 70 => 46 | 72 => 49 | 75 => 51 | 80 => 54 | 127 => 59 | 164 => 60 | n => n, fun n => n⟩
theorem runeLays : Lays.n168 Tryd.prog buildRen := {
  mixed := by kernel_rfl,
  f168 := Tryd.func34.trans (congrArg some (by kernel_rfl)),
  f240 := Tryd.func38.trans (congrArg some (by kernel_rfl)),
  f242 := Tryd.func39.trans (congrArg some (by kernel_rfl)),
  f276 := Tryd.func40.trans (congrArg some (by kernel_rfl)),
  f278 := Tryd.func41.trans (congrArg some (by kernel_rfl)),
  t0 := Tryd.underlying0,
  a0 := Tryd.isAgg0,
  z0 := Tryd.sizeOf0,
  v0 := Tryd.zeroValue0,
  t3 := Tryd.underlying3,
  a3 := Tryd.isAgg3,
  z3 := Tryd.sizeOf3,
  v3 := Tryd.zeroValue3,
  t4 := Tryd.underlying4,
  a4 := Tryd.isAgg4,
  z4 := Tryd.sizeOf4,
  v4 := Tryd.zeroValue4,
  t5 := Tryd.underlying5,
  a5 := Tryd.isAgg5,
  z5 := Tryd.sizeOf5,
  v5 := Tryd.zeroValue5,
  t9 := Tryd.underlying9,
  a9 := Tryd.isAgg9,
  z9 := Tryd.sizeOf9,
  v9 := Tryd.zeroValue9,
  t20 := Tryd.underlying20,
  a20 := Tryd.isAgg20,
  z20 := Tryd.sizeOf20,
  v20 := Tryd.zeroValue20,
  t21 := Tryd.underlying21,
  a21 := Tryd.isAgg21,
  z21 := Tryd.sizeOf21,
  v21 := Tryd.zeroValue21,
  t37 := Tryd.underlying47,
  a37 := Tryd.isAgg47,
  z37 := Tryd.sizeOf47,
  v37 := Tryd.zeroValue47,
  t46 := Tryd.underlying57,
  a46 := Tryd.isAgg57,
  z46 := Tryd.sizeOf57,
  v46 := Tryd.zeroValue57,
  t51 := Tryd.underlying62,
  a51 := Tryd.isAgg62,
  z51 := Tryd.sizeOf62,
  v51 := Tryd.zeroValue62,
  t70 := Tryd.underlying46,
  a70 := Tryd.isAgg46,
  z70 := Tryd.sizeOf46,
  v70 := Tryd.zeroValue46,
  t72 := Tryd.underlying49,
  a72 := Tryd.isAgg49,
  z72 := Tryd.sizeOf49,
  v72 := Tryd.zeroValue49,
  t75 := Tryd.underlying51,
  a75 := Tryd.isAgg51,
  z75 := Tryd.sizeOf51,
  v75 := Tryd.zeroValue51,
  t164 := Tryd.underlying60,
  a164 := Tryd.isAgg60,
  z164 := Tryd.sizeOf60,
  v164 := Tryd.zeroValue60
}
theorem stringLays : Lays.n169 Tryd.prog buildRen := {
  mixed := by kernel_rfl,
  f169 := Tryd.func35.trans (congrArg some (by kernel_rfl)),
  t0 := Tryd.underlying0,
  a0 := Tryd.isAgg0,
  z0 := Tryd.sizeOf0,
  v0 := Tryd.zeroValue0,
  t3 := Tryd.underlying3,
  a3 := Tryd.isAgg3,
  z3 := Tryd.sizeOf3,
  v3 := Tryd.zeroValue3,
  t9 := Tryd.underlying9,
  a9 := Tryd.isAgg9,
  z9 := Tryd.sizeOf9,
  v9 := Tryd.zeroValue9,
  t37 := Tryd.underlying47,
  a37 := Tryd.isAgg47,
  z37 := Tryd.sizeOf47,
  v37 := Tryd.zeroValue47,
  t70 := Tryd.underlying46,
  a70 := Tryd.isAgg46,
  z70 := Tryd.sizeOf46,
  v70 := Tryd.zeroValue46,
  t72 := Tryd.underlying49,
  a72 := Tryd.isAgg49,
  z72 := Tryd.sizeOf49,
  v72 := Tryd.zeroValue49,
  t127 := Tryd.underlying59,
  a127 := Tryd.isAgg59,
  z127 := Tryd.sizeOf59,
  v127 := Tryd.zeroValue59
}
theorem buildExtra : Builder.Extra Tryd.prog buildRen where
  sizeBuilder := by kernel_rfl
  liesBuilder := by kernel_rfl
  t5 := Tryd.underlying5
  a5 := Tryd.isAgg5
  z5 := Tryd.sizeOf5
  v5 := Tryd.zeroValue5
  infoByte := by kernel_rfl
  cellsByte := by kernel_rfl
  sizeByte := by kernel_rfl
  neB5 := by decide

end Go.Proofs.YtidbkllhlllnnaaDoor
