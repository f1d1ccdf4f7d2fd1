/-
  The body of the statement NatOps.
-/
import Derived.Test.YtheadamdhjhnpaaDoorAwake
namespace Go.Proofs.YtheadamdhjhnpaaDoor
open Go.RowKit

set_option maxRecDepth 20000 in
set_option maxHeartbeats 3200000 in
theorem natOps_v (v0 v1 : Value) (xs ys : List Int) (w : World) (h_v0 : Ints w v0 xs) (h_v1 : Ints w v1 ys) :
    Calls Tryd.prog 4 #[v0, v1] w fun e w' => e = .returned (.bool true) ∧ Below w.heap.size w w' := by
  cases hf : (fewB xs.length && fewB ys.length) with
  | false =>
    have HF := Lib.hid hf
    clear hf
    go_enter Tryd.func4, Tryd.ntmps4
    go_wp2_with fail
    refine (awake_any _).mono ?_
    rintro e w1 ⟨rfl, n1⟩
    have k1 := n1
    replace h_v0 := h_v0.up n1
    replace h_v1 := h_v1.up n1
    go_wp2_with fail
    refine (few_at v0 v1 xs ys false _ h_v0 h_v1 HF.out).mono ?_
    rintro e w' ⟨rfl, rfl⟩
    go_wp2_with fail
    refine (awake_any _).mono ?_
    rintro e w2 ⟨rfl, n2⟩
    have k2 := below_next k1 n2
    replace h_v0 := h_v0.up n2
    replace h_v1 := h_v1.up n2
    go_wp2
    go_ret
    exact ⟨rfl, k2⟩
  | true =>
    have HF := Lib.hid hf
    clear hf
    obtain ⟨ra, HRA⟩ : ∃ r, Hid (addR (numOf xs) (numOf ys) = r) := ⟨_, Lib.hid rfl⟩
    obtain ⟨rs, HRS⟩ : ∃ r, Hid (subR (numOf xs) (numOf ys) = r) := ⟨_, Lib.hid rfl⟩
    obtain ⟨rm, HRM⟩ : ∃ r, Hid (mulR (numOf xs) (numOf ys) = r) := ⟨_, Lib.hid rfl⟩
    obtain ⟨rq, HRQ⟩ : ∃ r, Hid (divQ (numOf xs) (numOf ys) = r) := ⟨_, Lib.hid rfl⟩
    obtain ⟨rr, HRR⟩ : ∃ r, Hid (divR (numOf xs) (numOf ys) = r) := ⟨_, Lib.hid rfl⟩
    go_enter Tryd.func4, Tryd.ntmps4
    go_wp2_with fail
    refine (awake_any _).mono ?_
    rintro e w1 ⟨rfl, n1⟩
    have k1 := n1
    replace h_v0 := h_v0.up n1
    replace h_v1 := h_v1.up n1
    go_wp2_with fail
    refine (few_at v0 v1 xs ys true _ h_v0 h_v1 HF.out).mono ?_
    rintro e w' ⟨rfl, rfl⟩
    go_wp2_with fail
    refine (natAdd_at w v0 v1 xs ys ra _ k1 h_v0 h_v1 HRA.out).mono ?_
    rintro e w2 ⟨u1, rfl, h_u1, k2, n2⟩
    replace h_v0 := h_v0.up n2
    replace h_v1 := h_v1.up n2
    go_wp2_with fail
    refine (refAdd_at w v0 v1 xs ys ra _ k2 h_v0 h_v1 HRA.out).mono ?_
    rintro e w3 ⟨u2, rfl, h_u2, k3, n3⟩
    replace h_v0 := h_v0.up n3
    replace h_v1 := h_v1.up n3
    replace h_u1 := h_u1.up n3
    go_wp2_with fail
    refine (same_refl w _ _ _ _ k3 h_u1 h_u2).mono ?_
    rintro e w4 ⟨rfl, k4, n4⟩
    replace h_v0 := h_v0.up n4
    replace h_v1 := h_v1.up n4
    replace h_u1 := h_u1.up n4
    replace h_u2 := h_u2.up n4
    go_wp2_with fail
    refine (natSub_at w v0 v1 xs ys rs _ k4 h_v0 h_v1 HRS.out).mono ?_
    rintro e w5 ⟨u3, rfl, h_u3, k5, n5⟩
    replace h_v0 := h_v0.up n5
    replace h_v1 := h_v1.up n5
    go_wp2_with fail
    refine (refSub_at w v0 v1 xs ys rs _ k5 h_v0 h_v1 HRS.out).mono ?_
    rintro e w6 ⟨u4, rfl, h_u4, k6, n6⟩
    replace h_v0 := h_v0.up n6
    replace h_v1 := h_v1.up n6
    replace h_u3 := h_u3.up n6
    go_wp2_with fail
    refine (same_refl w _ _ _ _ k6 h_u3 h_u4).mono ?_
    rintro e w7 ⟨rfl, k7, n7⟩
    replace h_v0 := h_v0.up n7
    replace h_v1 := h_v1.up n7
    replace h_u3 := h_u3.up n7
    replace h_u4 := h_u4.up n7
    go_wp2_with fail
    refine (natMul_at w v0 v1 xs ys rm _ k7 h_v0 h_v1 HRM.out).mono ?_
    rintro e w8 ⟨u5, rfl, h_u5, k8, n8⟩
    replace h_v0 := h_v0.up n8
    replace h_v1 := h_v1.up n8
    go_wp2_with fail
    refine (refMul_at w v0 v1 xs ys rm _ k8 h_v0 h_v1 HRM.out).mono ?_
    rintro e w9 ⟨u6, rfl, h_u6, k9, n9⟩
    replace h_v0 := h_v0.up n9
    replace h_v1 := h_v1.up n9
    replace h_u5 := h_u5.up n9
    go_wp2_with fail
    refine (natDivide_at w v0 v1 xs ys rq rr _ k9 h_v0 h_v1 HRQ.out HRR.out).mono ?_
    rintro e w10 ⟨u7, u8, rfl, h_u7, h_u8, k10, n10⟩
    replace h_v0 := h_v0.up n10
    replace h_v1 := h_v1.up n10
    replace h_u5 := h_u5.up n10
    replace h_u6 := h_u6.up n10
    go_wp2_with fail
    refine (refDivide_at w v0 v1 xs ys rq rr _ k10 h_v0 h_v1 HRQ.out HRR.out).mono ?_
    rintro e w11 ⟨u9, u10, rfl, h_u9, h_u10, k11, n11⟩
    replace h_v0 := h_v0.up n11
    replace h_v1 := h_v1.up n11
    replace h_u5 := h_u5.up n11
    replace h_u6 := h_u6.up n11
    replace h_u7 := h_u7.up n11
    replace h_u8 := h_u8.up n11
    go_wp2_with fail
    refine (same_refl w _ _ _ _ k11 h_u5 h_u6).mono ?_
    rintro e w12 ⟨rfl, k12, n12⟩
    replace h_v0 := h_v0.up n12
    replace h_v1 := h_v1.up n12
    replace h_u5 := h_u5.up n12
    replace h_u6 := h_u6.up n12
    replace h_u7 := h_u7.up n12
    replace h_u8 := h_u8.up n12
    replace h_u9 := h_u9.up n12
    replace h_u10 := h_u10.up n12
    go_wp2_with fail
    refine (same_refl w _ _ _ _ k12 h_u7 h_u9).mono ?_
    rintro e w13 ⟨rfl, k13, n13⟩
    replace h_u7 := h_u7.up n13
    replace h_u8 := h_u8.up n13
    replace h_u9 := h_u9.up n13
    replace h_u10 := h_u10.up n13
    go_wp2_with fail
    refine (same_refl w _ _ _ _ k13 h_u8 h_u10).mono ?_
    rintro e w14 ⟨rfl, k14, n14⟩
    replace h_u7 := h_u7.up n14
    replace h_u8 := h_u8.up n14
    replace h_u9 := h_u9.up n14
    replace h_u10 := h_u10.up n14
    go_wp2
    go_ret
    exact ⟨rfl, k14⟩

end Go.Proofs.YtheadamdhjhnpaaDoor
