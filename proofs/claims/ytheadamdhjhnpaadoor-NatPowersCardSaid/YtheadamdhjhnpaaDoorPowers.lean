/-
  The body of the statement NatPowers.
-/
import Derived.Test.YtheadamdhjhnpaaDoorAwake
namespace Go.Proofs.YtheadamdhjhnpaaDoor
open Go.RowKit

set_option maxRecDepth 20000 in
set_option maxHeartbeats 3200000 in
theorem natPowers_v (v0 v1 : Value) (xs ys : List Int) (p : Int) (w : World) (h_v0 : Ints w v0 xs) (h_v1 : Ints w v1 ys) :
    Calls Tryd.prog 5 #[v0, v1, .int .i64 p] w fun e w' => e = .returned (.bool true) ∧ Below w.heap.size w w' := by
  cases hf : (fewB xs.length && fewB ys.length) with
  | false =>
    have HF := Lib.hid hf
    clear hf
    go_enter Tryd.func5, Tryd.ntmps5
    go_wp2_with fail
    refine (awake_any _).mono ?_
    rintro e w1 ⟨rfl, n1⟩
    have k1 := n1
    replace h_v0 := h_v0.up n1
    replace h_v1 := h_v1.up n1
    go_wp2_with fail
    refine (few_at v0 v1 xs ys false _ h_v0 h_v1 HF.out).mono ?_
    rintro e w' ⟨rfl, rfl⟩
    go_wp2_with fail
    refine (awake_any _).mono ?_
    rintro e w2 ⟨rfl, n2⟩
    have k2 := below_next k1 n2
    replace h_v0 := h_v0.up n2
    replace h_v1 := h_v1.up n2
    go_wp2
    go_ret
    exact ⟨rfl, k2⟩
  | true =>
    have HF := Lib.hid hf
    clear hf
    obtain ⟨rp, HRP⟩ : ∃ r, Hid (powR (numOf xs) p = r) := ⟨_, Lib.hid rfl⟩
    obtain ⟨rs, HRS⟩ : ∃ r, Hid (shiftR (numOf xs) p = r) := ⟨_, Lib.hid rfl⟩
    obtain ⟨rg, HRG⟩ : ∃ r, Hid (gcdR (numOf xs) (numOf ys) = r) := ⟨_, Lib.hid rfl⟩
    go_enter Tryd.func5, Tryd.ntmps5
    go_wp2_with fail
    refine (awake_any _).mono ?_
    rintro e w1 ⟨rfl, n1⟩
    have k1 := n1
    replace h_v0 := h_v0.up n1
    replace h_v1 := h_v1.up n1
    go_wp2_with fail
    refine (few_at v0 v1 xs ys true _ h_v0 h_v1 HF.out).mono ?_
    rintro e w' ⟨rfl, rfl⟩
    go_wp2_with fail
    refine (natPower_at w v0 xs p rp _ k1 h_v0 HRP.out).mono ?_
    rintro e w2 ⟨u1, rfl, h_u1, k2, n2⟩
    replace h_v0 := h_v0.up n2
    replace h_v1 := h_v1.up n2
    go_wp2_with fail
    refine (refPower_at w v0 xs p rp _ k2 h_v0 HRP.out).mono ?_
    rintro e w3 ⟨u2, rfl, h_u2, k3, n3⟩
    replace h_v0 := h_v0.up n3
    replace h_v1 := h_v1.up n3
    replace h_u1 := h_u1.up n3
    go_wp2_with fail
    refine (natShift_at w v0 xs p rs _ k3 h_v0 HRS.out).mono ?_
    rintro e w4 ⟨u3, rfl, h_u3, k4, n4⟩
    replace h_v0 := h_v0.up n4
    replace h_v1 := h_v1.up n4
    replace h_u1 := h_u1.up n4
    replace h_u2 := h_u2.up n4
    go_wp2_with fail
    refine (refShift_at w v0 xs p rs _ k4 h_v0 HRS.out).mono ?_
    rintro e w5 ⟨u4, rfl, h_u4, k5, n5⟩
    replace h_v0 := h_v0.up n5
    replace h_v1 := h_v1.up n5
    replace h_u1 := h_u1.up n5
    replace h_u2 := h_u2.up n5
    replace h_u3 := h_u3.up n5
    go_wp2_with fail
    refine (natGcd_at w v0 v1 xs ys rg _ k5 h_v0 h_v1 HRG.out).mono ?_
    rintro e w6 ⟨u5, rfl, h_u5, k6, n6⟩
    replace h_v0 := h_v0.up n6
    replace h_v1 := h_v1.up n6
    replace h_u1 := h_u1.up n6
    replace h_u2 := h_u2.up n6
    replace h_u3 := h_u3.up n6
    replace h_u4 := h_u4.up n6
    go_wp2_with fail
    refine (refGcd_at w v0 v1 xs ys rg _ k6 h_v0 h_v1 HRG.out).mono ?_
    rintro e w7 ⟨u6, rfl, h_u6, k7, n7⟩
    replace h_v0 := h_v0.up n7
    replace h_v1 := h_v1.up n7
    replace h_u1 := h_u1.up n7
    replace h_u2 := h_u2.up n7
    replace h_u3 := h_u3.up n7
    replace h_u4 := h_u4.up n7
    replace h_u5 := h_u5.up n7
    go_wp2_with fail
    refine (same_refl w _ _ _ _ k7 h_u1 h_u2).mono ?_
    rintro e w8 ⟨rfl, k8, n8⟩
    replace h_u1 := h_u1.up n8
    replace h_u2 := h_u2.up n8
    replace h_u3 := h_u3.up n8
    replace h_u4 := h_u4.up n8
    replace h_u5 := h_u5.up n8
    replace h_u6 := h_u6.up n8
    go_wp2_with fail
    refine (same_refl w _ _ _ _ k8 h_u3 h_u4).mono ?_
    rintro e w9 ⟨rfl, k9, n9⟩
    replace h_u1 := h_u1.up n9
    replace h_u2 := h_u2.up n9
    replace h_u3 := h_u3.up n9
    replace h_u4 := h_u4.up n9
    replace h_u5 := h_u5.up n9
    replace h_u6 := h_u6.up n9
    go_wp2_with fail
    refine (same_refl w _ _ _ _ k9 h_u5 h_u6).mono ?_
    rintro e w10 ⟨rfl, k10, n10⟩
    replace h_u1 := h_u1.up n10
    replace h_u2 := h_u2.up n10
    replace h_u3 := h_u3.up n10
    replace h_u4 := h_u4.up n10
    replace h_u5 := h_u5.up n10
    replace h_u6 := h_u6.up n10
    go_wp2
    go_ret
    exact ⟨rfl, k10⟩

end Go.Proofs.YtheadamdhjhnpaaDoor
