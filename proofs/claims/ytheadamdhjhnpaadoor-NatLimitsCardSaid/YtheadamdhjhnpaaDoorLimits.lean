/-
  The body of the statement NatLimits.
-/
import Derived.Test.YtheadamdhjhnpaaDoorAwake
namespace Go.Proofs.YtheadamdhjhnpaaDoor
open Go.RowKit

set_option maxRecDepth 20000 in
set_option maxHeartbeats 3200000 in
theorem natLimits_v (A A' : Option Addr) (n n' c c' : Nat) (xs ys : List Int) (Q : Nat) (hQ : Q ≤ 65535) (w : World) (h_v0 : Ints w (.slice A n c) xs) (h_v1 : Ints w (.slice A' n' c') ys) :
    Calls Tryd.prog 6 #[.slice A n c, .slice A' n' c', .int .u16 (Q : Int)] w fun e w' => e = .returned (.bool true) ∧ Below w.heap.size w w' := by
  by_cases ha : 140 < n
  · have t1 : decide (140 < (n : Int)) = true := by simp; omega
    clear ha
    go_enter Tryd.func6, Tryd.ntmps6
    go_wp2_with fail
    refine (awake_any _).mono ?_
    rintro e w1 ⟨rfl, n1⟩
    have k1 := n1
    go_wp2_with fail
    refine (awake_any _).mono ?_
    rintro e w2 ⟨rfl, n2⟩
    have k2 := below_next k1 n2
    go_wp2
    go_ret
    exact ⟨rfl, k2⟩
  by_cases hb : 140 < n'
  · have t1 : decide (140 < (n : Int)) = false := by simp; omega
    have t2 : decide (140 < (n' : Int)) = true := by simp; omega
    clear ha hb
    go_enter Tryd.func6, Tryd.ntmps6
    go_wp2_with fail
    refine (awake_any _).mono ?_
    rintro e w1 ⟨rfl, n1⟩
    have k1 := n1
    go_wp2_with fail
    refine (awake_any _).mono ?_
    rintro e w2 ⟨rfl, n2⟩
    have k2 := below_next k1 n2
    go_wp2
    go_ret
    exact ⟨rfl, k2⟩
  have t1 : decide (140 < (n : Int)) = false := by simp; omega
  have t2 : decide (140 < (n' : Int)) = false := by simp; omega
  obtain ⟨P, hP⟩ : ∃ P, P = Q % 2050 := ⟨_, rfl⟩
  have e1 : (Q : Int).tmod 2050 = (P : Int) := by rw [Int.tmod_eq_emod_of_nonneg (by omega)]; omega
  have e2 : IntKind.i64.wrap (Q : Int) = (Q : Int) := wraps_i64 _ (by omega) (by omega)
  have e3 : IntKind.i64.wrap (P : Int) = (P : Int) := wraps_i64 _ (by omega) (by omega)
  clear ha hb hP
  obtain ⟨ra, HRA⟩ : ∃ r, Hid (addR (numOf xs) (numOf ys) = r) := ⟨_, Lib.hid rfl⟩
  obtain ⟨rm, HRM⟩ : ∃ r, Hid (mulR (numOf xs) (numOf ys) = r) := ⟨_, Lib.hid rfl⟩
  obtain ⟨rs, HRS⟩ : ∃ r, Hid (shiftR (numOf xs) (P : Int) = r) := ⟨_, Lib.hid rfl⟩
  go_enter Tryd.func6, Tryd.ntmps6
  go_wp2_with fail
  refine (awake_any _).mono ?_
  rintro e w1 ⟨rfl, n1⟩
  have k1 := n1
  replace h_v0 := h_v0.up n1
  replace h_v1 := h_v1.up n1
  go_wp2_with fail
  refine (natAdd_at w _ _ xs ys ra _ k1 h_v0 h_v1 HRA.out).mono ?_
  rintro e w2 ⟨u1, rfl, h_u1, k2, n2⟩
  replace h_v0 := h_v0.up n2
  replace h_v1 := h_v1.up n2
  go_wp2_with fail
  refine (refAdd_at w _ _ xs ys ra _ k2 h_v0 h_v1 HRA.out).mono ?_
  rintro e w3 ⟨u2, rfl, h_u2, k3, n3⟩
  replace h_v0 := h_v0.up n3
  replace h_v1 := h_v1.up n3
  replace h_u1 := h_u1.up n3
  go_wp2_with fail
  refine (natMul_at w _ _ xs ys rm _ k3 h_v0 h_v1 HRM.out).mono ?_
  rintro e w4 ⟨u3, rfl, h_u3, k4, n4⟩
  replace h_v0 := h_v0.up n4
  replace h_v1 := h_v1.up n4
  replace h_u1 := h_u1.up n4
  replace h_u2 := h_u2.up n4
  go_wp2_with fail
  refine (refMul_at w _ _ xs ys rm _ k4 h_v0 h_v1 HRM.out).mono ?_
  rintro e w5 ⟨u4, rfl, h_u4, k5, n5⟩
  replace h_v0 := h_v0.up n5
  replace h_v1 := h_v1.up n5
  replace h_u1 := h_u1.up n5
  replace h_u2 := h_u2.up n5
  replace h_u3 := h_u3.up n5
  go_wp2_with fail
  refine (natShift_at w _ xs _ rs _ k5 h_v0 HRS.out).mono ?_
  rintro e w6 ⟨u5, rfl, h_u5, k6, n6⟩
  replace h_v0 := h_v0.up n6
  replace h_v1 := h_v1.up n6
  replace h_u1 := h_u1.up n6
  replace h_u2 := h_u2.up n6
  replace h_u3 := h_u3.up n6
  replace h_u4 := h_u4.up n6
  go_wp2_with fail
  refine (refShift_at w _ xs _ rs _ k6 h_v0 HRS.out).mono ?_
  rintro e w7 ⟨u6, rfl, h_u6, k7, n7⟩
  replace h_v0 := h_v0.up n7
  replace h_v1 := h_v1.up n7
  replace h_u1 := h_u1.up n7
  replace h_u2 := h_u2.up n7
  replace h_u3 := h_u3.up n7
  replace h_u4 := h_u4.up n7
  replace h_u5 := h_u5.up n7
  go_wp2_with fail
  refine (same_refl w _ _ _ _ k7 h_u1 h_u2).mono ?_
  rintro e w8 ⟨rfl, k8, n8⟩
  replace h_u1 := h_u1.up n8
  replace h_u2 := h_u2.up n8
  replace h_u3 := h_u3.up n8
  replace h_u4 := h_u4.up n8
  replace h_u5 := h_u5.up n8
  replace h_u6 := h_u6.up n8
  go_wp2_with fail
  refine (same_refl w _ _ _ _ k8 h_u3 h_u4).mono ?_
  rintro e w9 ⟨rfl, k9, n9⟩
  replace h_u1 := h_u1.up n9
  replace h_u2 := h_u2.up n9
  replace h_u3 := h_u3.up n9
  replace h_u4 := h_u4.up n9
  replace h_u5 := h_u5.up n9
  replace h_u6 := h_u6.up n9
  go_wp2_with fail
  refine (same_refl w _ _ _ _ k9 h_u5 h_u6).mono ?_
  rintro e w10 ⟨rfl, k10, n10⟩
  replace h_u1 := h_u1.up n10
  replace h_u2 := h_u2.up n10
  replace h_u3 := h_u3.up n10
  replace h_u4 := h_u4.up n10
  replace h_u5 := h_u5.up n10
  replace h_u6 := h_u6.up n10
  go_wp2
  go_ret
  exact ⟨rfl, k10⟩

theorem natLimits_u (A A' : Option Addr) (n n' c c' : Nat) (xs ys : List Int) (q : Int) (hq : 0 ≤ q ∧ q ≤ 65535) (w : World) (h0 : Ints w (.slice A n c) xs) (h1 : Ints w (.slice A' n' c') ys) :
    Calls Tryd.prog 6 #[.slice A n c, .slice A' n' c', .int .u16 q] w fun e w' => e = .returned (.bool true) ∧ Below w.heap.size w w' := by
  obtain ⟨Q, rfl⟩ : ∃ Q : Nat, q = (Q : Int) := ⟨q.toNat, by omega⟩
  exact natLimits_v A A' n n' c c' xs ys Q (by omega) w h0 h1

end Go.Proofs.YtheadamdhjhnpaaDoor
