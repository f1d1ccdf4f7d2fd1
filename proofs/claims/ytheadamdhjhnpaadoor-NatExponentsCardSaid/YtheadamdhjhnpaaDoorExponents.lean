/-
  The body of the statement NatExponents.
-/
import Derived.Test.YtheadamdhjhnpaaDoorVal
namespace Go.Proofs.YtheadamdhjhnpaaDoor
open Go.RowKit

set_option maxRecDepth 20000 in
set_option maxHeartbeats 3200000 in
theorem natExponents_v (A0 : Option Addr) (n0 c0 : Nat) (xs : List Int) (N M : Nat) (hN : N ≤ 255) (hM : M ≤ 255) (w : World) (h_v0 : Ints w (.slice A0 n0 c0) xs) :
    Calls Tryd.prog 10 #[.slice A0 n0 c0, .int .u8 (N : Int), .int .u8 (M : Int)] w fun e w' => e = .returned (.bool true) ∧ Below w.heap.size w w' := by
  cases hf : okB 4 xs with
  | false =>
    have HF := Lib.hid hf
    clear hf
    go_enter Tryd.func10, Tryd.ntmps10
    go_wp2_with fail
    refine (awake_any _).mono ?_
    rintro e w1 ⟨rfl, n1⟩
    have k1 := n1
    replace h_v0 := h_v0.up n1
    go_wp2_with fail
    refine (valid1_at 4 (by omega) w _ xs false _ k1 h_v0 HF.out).mono ?_
    rintro e w2 ⟨rfl, k2, n2⟩
    replace h_v0 := h_v0.up n2
    go_wp2_with fail
    refine (awake_any _).mono ?_
    rintro e w3 ⟨rfl, n3⟩
    have k3 := below_next k2 n3
    replace h_v0 := h_v0.up n3
    go_wp2
    go_ret
    exact ⟨rfl, k3⟩
  | true =>
    have HF := Lib.hid hf
    obtain ⟨a, ha, rfl⟩ := ok_num hf (by omega)
    have hlen := ints_len h_v0
    clear hf
    obtain ⟨I, hI⟩ : ∃ I, I = N % 8 := ⟨_, rfl⟩
    obtain ⟨K, hK⟩ : ∃ K, K = M % 8 := ⟨_, rfl⟩
    obtain ⟨R, hR⟩ : ∃ R, R = M % 9 := ⟨_, rfl⟩
    have hI7 : I ≤ 7 := by omega
    have hK7 : K ≤ 7 := by omega
    have hR8 : R ≤ 8 := by omega
    have e0 : IntKind.i64.wrap (N : Int) = (N : Int) := wraps_i64 _ (by omega) (by omega)
    have e1 : IntKind.i64.wrap (M : Int) = (M : Int) := wraps_i64 _ (by omega) (by omega)
    have e2 : (N : Int).tmod 8 = (I : Int) := by rw [Int.tmod_eq_emod_of_nonneg (by omega)]; omega
    have e3 : (M : Int).tmod 8 = (K : Int) := by rw [Int.tmod_eq_emod_of_nonneg (by omega)]; omega
    have e4 : (M : Int).tmod 9 = (R : Int) := by rw [Int.tmod_eq_emod_of_nonneg (by omega)]; omega
    have e5 : IntKind.i64.wrap (I : Int) = (I : Int) := wraps_i64 _ (by omega) (by omega)
    have e6 : IntKind.i64.wrap (K : Int) = (K : Int) := wraps_i64 _ (by omega) (by omega)
    have e7 : IntKind.i64.wrap (R : Int) = (R : Int) := wraps_i64 _ (by omega) (by omega)
    have e8 : IntKind.i64.wrap ((I : Int) + (K : Int)) = (I : Int) + (K : Int) := wraps_i64 _ (by omega) (by omega)
    have e9 : IntKind.i64.wrap (2 * (N : Int)) = 2 * (N : Int) := wraps_i64 _ (by omega) (by omega)
    have BA : Hid (a < pw 128) := Lib.hid (lt128 ha (by omega))
    have BI : Hid (a ^ I < pw 128) := Lib.hid (lt128 (pow_lt ha) (by omega))
    have BK : Hid (a ^ K < pw 128) := Lib.hid (lt128 (pow_lt ha) (by omega))
    have BIK : Hid (a ^ (I + K) < pw 128) := Lib.hid (lt128 (pow_lt ha) (by omega))
    have PI : Hid (powR (numOf (nI a)) (I : Int) = .ok (a ^ I)) := Lib.hid (rPow (lt128 ha (by omega)) (by omega) (lt128 (pow_lt ha) (by omega)) rfl)
    have PK : Hid (powR (numOf (nI a)) (K : Int) = .ok (a ^ K)) := Lib.hid (rPow (lt128 ha (by omega)) (by omega) (lt128 (pow_lt ha) (by omega)) rfl)
    have PIK : Hid (powR (numOf (nI a)) ((I : Int) + (K : Int)) = .ok (a ^ (I + K))) := Lib.hid (by rw [← Int.natCast_add]; exact rPow (lt128 ha (by omega)) (by omega) (lt128 (pow_lt ha) (by omega)) rfl)
    by_cases hneg : 2 * N < R
    · have ea : IntKind.i64.wrap (2 * (N : Int) - (R : Int)) = 2 * (N : Int) - (R : Int) := wraps_i64 _ (by omega) (by omega)
      have tn : decide (2 * (N : Int) - (R : Int) < 0) = true := by simp; omega
      clear ha hlen hI hK hR hneg
      go_enter Tryd.func10, Tryd.ntmps10
      go_wp2_with fail
      refine (awake_any _).mono ?_
      rintro e w1 ⟨rfl, n1⟩
      have k1 := n1
      replace h_v0 := h_v0.up n1
      go_wp2_with fail
      refine (valid1_at 4 (by omega) w _ _ true _ k1 h_v0 HF.out).mono ?_
      rintro e w2 ⟨rfl, k2, n2⟩
      replace h_v0 := h_v0.up n2
      go_wp2_with fail
      refine (natPower_ok w _ (nI a) _ (a ^ I) _ k2 h_v0 PI.out).mono ?_
      rintro e w3 ⟨x, rfl, h_x, k3, n3⟩
      replace h_v0 := h_v0.up n3
      go_wp2_with fail
      refine (natPower_ok w _ (nI a) _ (a ^ K) _ k3 h_v0 PK.out).mono ?_
      rintro e w4 ⟨y, rfl, h_y, k4, n4⟩
      replace h_v0 := h_v0.up n4
      replace h_x := h_x.up n4
      go_wp2_with fail
      refine (natPower_ok w _ (nI a) _ (a ^ (I + K)) _ k4 h_v0 PIK.out).mono ?_
      rintro e w5 ⟨z, rfl, h_z, k5, n5⟩
      replace h_v0 := h_v0.up n5
      replace h_x := h_x.up n5
      replace h_y := h_y.up n5
      go_wp2_with fail
      refine (natMul_ok w _ _ (nI (a ^ I)) (nI (a ^ K)) (a ^ (I + K)) _ k5 h_x h_y (rMul BI.out BK.out BIK.out (Nat.pow_add _ _ _).symm)).mono ?_
      rintro e w6 ⟨p, rfl, h_p, k6, n6⟩
      replace h_v0 := h_v0.up n6
      replace h_x := h_x.up n6
      replace h_y := h_y.up n6
      replace h_z := h_z.up n6
      go_wp2_with fail
      refine (same_refl w _ _ _ _ k6 h_p h_z).mono ?_
      rintro e w7 ⟨rfl, k7, n7⟩
      replace h_v0 := h_v0.up n7
      replace h_z := h_z.up n7
      replace h_p := h_p.up n7
      go_wp2
      go_ret
      exact ⟨rfl, k7⟩
    obtain ⟨Y, hY⟩ : ∃ Y, Y = 2 * N - R := ⟨_, rfl⟩
    have hY5 : Y ≤ 510 := by omega
    have ea : IntKind.i64.wrap (2 * (N : Int) - (R : Int)) = (Y : Int) := by rw [show 2 * (N : Int) - (R : Int) = (Y : Int) from by omega]; exact wraps_i64 _ (by omega) (by omega)
    have B2 : Hid (2 ^ Y < pw 128) := Lib.hid (lt128 (two_lt (k := 32) (by omega)) (by omega))
    have BS : Hid (a * 2 ^ Y < pw 128) := Lib.hid (lt128 (mul_lt ha (two_lt (k := 32) (by omega))) (by omega))
    have P2 : Hid (powR (numOf (nI 2)) (Y : Int) = .ok (2 ^ Y)) := Lib.hid (rPow (small_pw (by omega)) (by omega) (lt128 (two_lt (k := 32) (by omega)) (by omega)) rfl)
    have PS : Hid (shiftR (numOf (nI a)) (Y : Int) = .ok (a * 2 ^ Y)) := Lib.hid (rShift (lt128 ha (by omega)) (by omega) (lt128 (mul_lt ha (two_lt (k := 32) (by omega))) (by omega)) rfl)
    by_cases h0 : a = 0
    · have t0 : ((n0 : Int) == 0) = true := by rw [← hlen, h0, nI_zero]; rfl
      have HB : Hid (bitsR (numOf (nI (a * 2 ^ Y))) = 0) := Lib.hid (rBits BS.out (by rw [h0, Nat.zero_mul, lb_zero]))
      clear ha hlen hI hK hR hneg hY h0
      go_enter Tryd.func10, Tryd.ntmps10
      go_wp2_with fail
      refine (awake_any _).mono ?_
      rintro e w1 ⟨rfl, n1⟩
      have k1 := n1
      replace h_v0 := h_v0.up n1
      go_wp2_with fail
      refine (valid1_at 4 (by omega) w _ _ true _ k1 h_v0 HF.out).mono ?_
      rintro e w2 ⟨rfl, k2, n2⟩
      replace h_v0 := h_v0.up n2
      go_wp2_with fail
      refine (natPower_ok w _ (nI a) _ (a ^ I) _ k2 h_v0 PI.out).mono ?_
      rintro e w3 ⟨x, rfl, h_x, k3, n3⟩
      replace h_v0 := h_v0.up n3
      go_wp2_with fail
      refine (natPower_ok w _ (nI a) _ (a ^ K) _ k3 h_v0 PK.out).mono ?_
      rintro e w4 ⟨y, rfl, h_y, k4, n4⟩
      replace h_v0 := h_v0.up n4
      replace h_x := h_x.up n4
      go_wp2_with fail
      refine (natPower_ok w _ (nI a) _ (a ^ (I + K)) _ k4 h_v0 PIK.out).mono ?_
      rintro e w5 ⟨z, rfl, h_z, k5, n5⟩
      replace h_v0 := h_v0.up n5
      replace h_x := h_x.up n5
      replace h_y := h_y.up n5
      go_wp2_with fail
      refine (natMul_ok w _ _ (nI (a ^ I)) (nI (a ^ K)) (a ^ (I + K)) _ k5 h_x h_y (rMul BI.out BK.out BIK.out (Nat.pow_add _ _ _).symm)).mono ?_
      rintro e w6 ⟨p, rfl, h_p, k6, n6⟩
      replace h_v0 := h_v0.up n6
      replace h_x := h_x.up n6
      replace h_y := h_y.up n6
      replace h_z := h_z.up n6
      go_wp2_with fail
      refine (same_refl w _ _ _ _ k6 h_p h_z).mono ?_
      rintro e w7 ⟨rfl, k7, n7⟩
      replace h_v0 := h_v0.up n7
      replace h_z := h_z.up n7
      replace h_p := h_p.up n7
      go_wp2_with fail
      refine (natPower_ok w _ (nI 2) (Y : Int) (2 ^ Y) _ (below_new k7 _) (lit_nI _ 2 (by omega) (by omega)) P2.out).mono ?_
      have h_v0 := h_v0.up ((Below.refl _ _).alloc (Nat.le_refl _) (.cells #[.int .i64 ((2 : Nat) : Int)] 3))
      rintro e w8 ⟨two, rfl, h_two, k8, n8⟩
      replace h_v0 := h_v0.up n8
      go_wp2_with fail
      refine (natShift_ok w _ (nI a) _ (a * 2 ^ Y) _ k8 h_v0 PS.out).mono ?_
      rintro e w9 ⟨s, rfl, h_s, k9, n9⟩
      replace h_v0 := h_v0.up n9
      replace h_two := h_two.up n9
      go_wp2_with fail
      refine (natMul_ok w _ _ (nI a) (nI (2 ^ Y)) (a * 2 ^ Y) _ k9 h_v0 h_two (rMul BA.out B2.out BS.out rfl)).mono ?_
      rintro e w10 ⟨q, rfl, h_q, k10, n10⟩
      replace h_v0 := h_v0.up n10
      replace h_two := h_two.up n10
      replace h_s := h_s.up n10
      go_wp2_with fail
      refine (same_refl w _ _ _ _ k10 h_s h_q).mono ?_
      rintro e w11 ⟨rfl, k11, n11⟩
      replace h_v0 := h_v0.up n11
      replace h_s := h_s.up n11
      replace h_q := h_q.up n11
      go_wp2_with fail
      refine (natBits_at _ _ 0 _ h_s HB.out).mono ?_
      rintro e w' ⟨rfl, rfl⟩
      go_wp2
      go_ret
      exact ⟨rfl, k11⟩
    · have t0 : ((n0 : Int) == 0) = false := beq_false_of_ne (by have := nI_ne hlen h0; omega)
      have t9 : decide (0 < n0) = true := by have := nI_ne hlen h0; simp; omega
      obtain ⟨La, hLa⟩ : ∃ x, lb a = x := ⟨_, rfl⟩
      obtain ⟨Ls, hLs⟩ : ∃ x, lb (a * 2 ^ Y) = x := ⟨_, rfl⟩
      have hsum : Ls = La + Y := by rw [← hLs, ← hLa]; exact lb_two h0
      have hL64 : La ≤ 64 := by rw [← hLa]; exact lb_pw (k := 4) ha
      have HB : Hid (bitsR (numOf (nI (a * 2 ^ Y))) = Ls) := Lib.hid (rBits BS.out hLs)
      have HB2 : Hid (bitsR (numOf (nI a)) = La) := Lib.hid (rBits BA.out hLa)
      have ts : ((Ls : Int) == (La : Int) + (Y : Int)) = true := by rw [hsum]; simp
      have eb : IntKind.i64.wrap ((La : Int) + (Y : Int)) = (La : Int) + (Y : Int) := wraps_i64 _ (by omega) (by omega)
      clear ha hlen hI hK hR hneg hY h0 hLa hLs hsum
      go_enter Tryd.func10, Tryd.ntmps10
      go_wp2_with fail
      refine (awake_any _).mono ?_
      rintro e w1 ⟨rfl, n1⟩
      have k1 := n1
      replace h_v0 := h_v0.up n1
      go_wp2_with fail
      refine (valid1_at 4 (by omega) w _ _ true _ k1 h_v0 HF.out).mono ?_
      rintro e w2 ⟨rfl, k2, n2⟩
      replace h_v0 := h_v0.up n2
      go_wp2_with fail
      refine (natPower_ok w _ (nI a) _ (a ^ I) _ k2 h_v0 PI.out).mono ?_
      rintro e w3 ⟨x, rfl, h_x, k3, n3⟩
      replace h_v0 := h_v0.up n3
      go_wp2_with fail
      refine (natPower_ok w _ (nI a) _ (a ^ K) _ k3 h_v0 PK.out).mono ?_
      rintro e w4 ⟨y, rfl, h_y, k4, n4⟩
      replace h_v0 := h_v0.up n4
      replace h_x := h_x.up n4
      go_wp2_with fail
      refine (natPower_ok w _ (nI a) _ (a ^ (I + K)) _ k4 h_v0 PIK.out).mono ?_
      rintro e w5 ⟨z, rfl, h_z, k5, n5⟩
      replace h_v0 := h_v0.up n5
      replace h_x := h_x.up n5
      replace h_y := h_y.up n5
      go_wp2_with fail
      refine (natMul_ok w _ _ (nI (a ^ I)) (nI (a ^ K)) (a ^ (I + K)) _ k5 h_x h_y (rMul BI.out BK.out BIK.out (Nat.pow_add _ _ _).symm)).mono ?_
      rintro e w6 ⟨p, rfl, h_p, k6, n6⟩
      replace h_v0 := h_v0.up n6
      replace h_x := h_x.up n6
      replace h_y := h_y.up n6
      replace h_z := h_z.up n6
      go_wp2_with fail
      refine (same_refl w _ _ _ _ k6 h_p h_z).mono ?_
      rintro e w7 ⟨rfl, k7, n7⟩
      replace h_v0 := h_v0.up n7
      replace h_z := h_z.up n7
      replace h_p := h_p.up n7
      go_wp2_with fail
      refine (natPower_ok w _ (nI 2) (Y : Int) (2 ^ Y) _ (below_new k7 _) (lit_nI _ 2 (by omega) (by omega)) P2.out).mono ?_
      have h_v0 := h_v0.up ((Below.refl _ _).alloc (Nat.le_refl _) (.cells #[.int .i64 ((2 : Nat) : Int)] 3))
      rintro e w8 ⟨two, rfl, h_two, k8, n8⟩
      replace h_v0 := h_v0.up n8
      go_wp2_with fail
      refine (natShift_ok w _ (nI a) _ (a * 2 ^ Y) _ k8 h_v0 PS.out).mono ?_
      rintro e w9 ⟨s, rfl, h_s, k9, n9⟩
      replace h_v0 := h_v0.up n9
      replace h_two := h_two.up n9
      go_wp2_with fail
      refine (natMul_ok w _ _ (nI a) (nI (2 ^ Y)) (a * 2 ^ Y) _ k9 h_v0 h_two (rMul BA.out B2.out BS.out rfl)).mono ?_
      rintro e w10 ⟨q, rfl, h_q, k10, n10⟩
      replace h_v0 := h_v0.up n10
      replace h_two := h_two.up n10
      replace h_s := h_s.up n10
      go_wp2_with fail
      refine (same_refl w _ _ _ _ k10 h_s h_q).mono ?_
      rintro e w11 ⟨rfl, k11, n11⟩
      replace h_v0 := h_v0.up n11
      replace h_s := h_s.up n11
      replace h_q := h_q.up n11
      go_wp2_with fail
      refine (natBits_at _ _ Ls _ h_s HB.out).mono ?_
      rintro e w' ⟨rfl, rfl⟩
      go_wp2_with fail
      refine (natBits_at _ _ La _ h_v0 HB2.out).mono ?_
      rintro e w' ⟨rfl, rfl⟩
      go_wp2
      go_ret
      exact ⟨rfl, k11⟩

theorem natExponents_u (A0 : Option Addr) (n0 c0 : Nat) (xs : List Int) (n m : Int) (hn : 0 ≤ n ∧ n ≤ 255) (hm : 0 ≤ m ∧ m ≤ 255) (w : World) (h_v0 : Ints w (.slice A0 n0 c0) xs) :
    Calls Tryd.prog 10 #[.slice A0 n0 c0, .int .u8 n, .int .u8 m] w fun e w' => e = .returned (.bool true) ∧ Below w.heap.size w w' := by
  obtain ⟨N, rfl⟩ : ∃ N : Nat, n = (N : Int) := ⟨n.toNat, by omega⟩
  obtain ⟨M, rfl⟩ : ∃ M : Nat, m = (M : Int) := ⟨m.toNat, by omega⟩
  exact natExponents_v A0 n0 c0 xs N M (by omega) (by omega) w h_v0

end Go.Proofs.YtheadamdhjhnpaaDoor
