/-
  The body of the statement RepertoireClass.
-/
import Derived.Test.YtidbkllhlllnnaaDoorAwake
namespace Go.Proofs.YtidbkllhlllnnaaDoor
open Go.RowKit

set_option maxRecDepth 20000 in
set_option maxHeartbeats 3200000 in
theorem repClass_v (c : Int) (w : World) (hS : Spans w) :
    Calls Tryd.prog 3 #[.int .i64 c] w fun e w' => e = .returned (.bool true) ∧ Below w.heap.size w w' := by
  obtain ⟨a, b, hab⟩ : ∃ a b, clsR c = (a, b) := ⟨_, _, rfl⟩
  have HAB := Lib.hid hab
  have HH : Hid (hasR c = (b != 0)) := Lib.hid (by unfold hasR kindR; rw [hab])
  clear hab
  go_enter Tryd.func3, Tryd.ntmps3
  go_wp2_with fail
  refine (awake_any _ hS).mono ?_
  rintro e w1 ⟨rfl, n1⟩
  have k1 := n1
  go_wp2_with fail
  refine (prClass_at w hS c a b _ k1 HAB.out).mono ?_
  rintro e w2 ⟨rfl, k2, n2⟩
  go_wp2_with fail
  refine (refClass_at w c a b _ k2 HAB.out).mono ?_
  rintro e w3 ⟨rfl, k3, n3⟩
  have hb : ((b : Int) != 0) = (b != 0) := by cases b <;> simp <;> omega
  go_wp2_with fail
  refine (prHas_at w hS c _ _ k3 HH.out).mono ?_
  rintro e w4 ⟨rfl, k4, n4⟩
  go_wp2
  go_ret
  exact ⟨rfl, k4⟩

end Go.Proofs.YtidbkllhlllnnaaDoor
