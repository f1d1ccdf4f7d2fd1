/-
  The examples of the document hold: awake returns true.
-/
import Derived.Test.YtidbkllhlllnnaaDoorOut
namespace Go.Proofs.YtidbkllhlllnnaaDoor
open Go.RowKit

theorem aw_cls1 : clsR 233 = (1, 1) := by kernel_rfl
theorem aw_cls2 : clsR 65296 = (0, 3) := by kernel_rfl
theorem aw_count : countR [195, 169] = 1 := by kernel_rfl
theorem aw_script : scriptR [65, 208, 182] = 4 := by kernel_rfl
theorem aw_valid : validR [195, 169] = true := by kernel_rfl

set_option maxRecDepth 20000 in
set_option maxHeartbeats 3200000 in
theorem awake_any (w : World) (hS : Spans w) : Calls Tryd.prog 10 #[] w fun e w' => e = .returned (.bool true) ∧ Below w.heap.size w w' := by
  go_enter Tryd.func10, Tryd.ntmps10
  go_wp2_with fail
  refine (prClass_at w hS 233 1 1 _ (Below.refl _ _) aw_cls1).mono ?_
  rintro e w1 ⟨rfl, k1, _⟩
  go_wp2_with fail
  refine (prClass_at w hS 65296 0 3 _ k1 aw_cls2).mono ?_
  rintro e w2 ⟨rfl, k2, _⟩
  go_wp2_with fail
  refine (prCount_at w hS [195, 169] 1 _ k2 (by decide) aw_count).mono ?_
  rintro e w3 ⟨rfl, k3, _⟩
  go_wp2_with fail
  refine (prScript_at w hS [65, 208, 182] 4 _ k3 aw_script).mono ?_
  rintro e w4 ⟨rfl, k4, _⟩
  go_wp2_with fail
  refine (prValid_at w hS [195, 169] true _ k4 (by decide) aw_valid).mono ?_
  rintro e w5 ⟨rfl, k5, _⟩
  go_wp2
  go_ret
  exact ⟨rfl, k5⟩

end Go.Proofs.YtidbkllhlllnnaaDoor
