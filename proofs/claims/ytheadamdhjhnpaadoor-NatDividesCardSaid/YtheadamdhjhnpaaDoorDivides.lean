/-
  The body of the statement NatDivides.
-/
import Derived.Test.YtheadamdhjhnpaaDoorVal
namespace Go.Proofs.YtheadamdhjhnpaaDoor
open Go.RowKit

set_option maxRecDepth 20000 in
set_option maxHeartbeats 3200000 in
theorem natDivides_v (A0 A1 : Option Addr) (n0 n1 c0 c1 : Nat) (xs ys : List Int) (w : World) (h_v0 : Ints w (.slice A0 n0 c0) xs) (h_v1 : Ints w (.slice A1 n1 c1) ys) :
    Calls Tryd.prog 9 #[.slice A0 n0 c0, .slice A1 n1 c1] w fun e w' => e = .returned (.bool true) ∧ Below w.heap.size w w' := by
  cases hf : (okB 20 xs && okB 20 ys) with
  | false =>
    have HF := Lib.hid hf
    clear hf
    go_enter Tryd.func9, Tryd.ntmps9
    go_wp2_with fail
    refine (awake_any _).mono ?_
    rintro e w1 ⟨rfl, n1⟩
    have k1 := n1
    replace h_v0 := h_v0.up n1
    replace h_v1 := h_v1.up n1
    go_wp2_with fail
    refine (valid2_at 20 (by omega) w _ _ xs ys false _ k1 h_v0 h_v1 HF.out).mono ?_
    rintro e w2 ⟨rfl, k2, n2⟩
    replace h_v0 := h_v0.up n2
    replace h_v1 := h_v1.up n2
    go_wp2_with fail
    refine (awake_any _).mono ?_
    rintro e w3 ⟨rfl, n3⟩
    have k3 := below_next k2 n3
    replace h_v0 := h_v0.up n3
    replace h_v1 := h_v1.up n3
    go_wp2
    go_ret
    exact ⟨rfl, k3⟩
  | true =>
    have HF := Lib.hid hf
    rw [Bool.and_eq_true] at hf
    obtain ⟨a, ha, rfl⟩ := ok_num hf.1 (by omega)
    obtain ⟨b, hb, rfl⟩ := ok_num hf.2 (by omega)
    have hlen := ints_len h_v1
    clear hf
    by_cases h0 : b = 0
    · have t0 : ((n1 : Int) == 0) = true := by rw [← hlen, h0, nI_zero]; rfl
      clear hlen h0 ha hb
      go_enter Tryd.func9, Tryd.ntmps9
      go_wp2_with fail
      refine (awake_any _).mono ?_
      rintro e w1 ⟨rfl, n1⟩
      have k1 := n1
      replace h_v0 := h_v0.up n1
      replace h_v1 := h_v1.up n1
      go_wp2_with fail
      refine (valid2_at 20 (by omega) w _ _ _ _ true _ k1 h_v0 h_v1 HF.out).mono ?_
      rintro e w2 ⟨rfl, k2, n2⟩
      replace h_v0 := h_v0.up n2
      replace h_v1 := h_v1.up n2
      go_wp2_with fail
      refine (awake_any _).mono ?_
      rintro e w3 ⟨rfl, n3⟩
      have k3 := below_next k2 n3
      replace h_v0 := h_v0.up n3
      replace h_v1 := h_v1.up n3
      go_wp2
      go_ret
      exact ⟨rfl, k3⟩
    have t0 : ((n1 : Int) == 0) = false := beq_false_of_ne (by have := nI_ne hlen h0; omega)
    obtain ⟨g, hg⟩ : ∃ g, Nat.gcd a b = g := ⟨_, rfl⟩
    have hga : g ∣ a := by rw [← hg]; exact Nat.gcd_dvd_left a b
    have hgb : g ∣ b := by rw [← hg]; exact Nat.gcd_dvd_right a b
    have hb0 : 0 < b := Nat.pos_of_ne_zero h0
    have hgp : 0 < g := Nat.pos_of_dvd_of_pos hgb hb0
    have hgle : g ≤ b := Nat.le_of_dvd hb0 hgb
    have hone : Nat.gcd (a / g) (b / g) = 1 := by rw [Nat.gcd_div hga hgb, hg, Nat.div_self hgp]
    have hmod := Nat.mod_lt a hb0
    have hdm : a / b * b + a % b = a := Nat.div_add_mod' a b
    have hple : a / b * b ≤ a := by omega
    have BA : Hid (a < pw 128) := Lib.hid (lt128 ha (by omega))
    have BB : Hid (b < pw 128) := Lib.hid (lt128 hb (by omega))
    have BG : Hid (g < pw 128) := Lib.hid (Nat.lt_of_le_of_lt hgle (lt128 hb (by omega)))
    have BQ : Hid (a / b < pw 128) := Lib.hid (Nat.lt_of_le_of_lt (Nat.div_le_self _ _) (lt128 ha (by omega)))
    have BR : Hid (a % b < pw 128) := Lib.hid (Nat.lt_trans hmod (lt128 hb (by omega)))
    have BP : Hid (a / b * b < pw 128) := Lib.hid (Nat.lt_of_le_of_lt hple (lt128 ha (by omega)))
    have BX : Hid (a / g < pw 128) := Lib.hid (Nat.lt_of_le_of_lt (Nat.div_le_self _ _) (lt128 ha (by omega)))
    have BY : Hid (b / g < pw 128) := Lib.hid (Nat.lt_of_le_of_lt (Nat.div_le_self _ _) (lt128 hb (by omega)))
    have HG : Hid (Nat.gcd a b = g) := Lib.hid (hg)
    have HGC : Hid (Nat.gcd b a = g) := Lib.hid (by rw [Nat.gcd_comm]; exact hg)
    have H1 : Hid (Nat.gcd (a / g) (b / g) = 1) := Lib.hid (hone)
    have HDM : Hid (a / b * b + a % b = a) := Lib.hid (hdm)
    have HB0 : Hid (b ≠ 0) := Lib.hid (h0)
    have HG0 : Hid (g ≠ 0) := Lib.hid (by omega)
    have HMA : Hid (a % g = 0) := Lib.hid (Nat.mod_eq_zero_of_dvd hga)
    have HMB : Hid (b % g = 0) := Lib.hid (Nat.mod_eq_zero_of_dvd hgb)
    have HC : Hid (cmpN (a % b) b = -1) := Lib.hid (cmpN_lt hmod)
    have HS1 : Hid (decide (nI 1 = [1]) = true) := Lib.hid (by rw [nI_small (by omega) (by omega)]; rfl)
    clear hlen h0 ha hb hg hga hgb hb0 hgp hgle hone hmod hdm hple
    go_enter Tryd.func9, Tryd.ntmps9
    go_wp2_with fail
    refine (awake_any _).mono ?_
    rintro e w1 ⟨rfl, n1⟩
    have k1 := n1
    replace h_v0 := h_v0.up n1
    replace h_v1 := h_v1.up n1
    go_wp2_with fail
    refine (valid2_at 20 (by omega) w _ _ _ _ true _ k1 h_v0 h_v1 HF.out).mono ?_
    rintro e w2 ⟨rfl, k2, n2⟩
    replace h_v0 := h_v0.up n2
    replace h_v1 := h_v1.up n2
    go_wp2_with fail
    refine (natDivide_ok w _ _ (nI (a)) (nI (b)) (a / b) (a % b) _ k2 h_v0 h_v1 (rDivQ BA.out BB.out HB0.out rfl) (rDivR BA.out BB.out HB0.out rfl)).mono ?_
    rintro e w3 ⟨q, r, rfl, h_q, h_r, k3, n3⟩
    replace h_v0 := h_v0.up n3
    replace h_v1 := h_v1.up n3
    go_wp2_with fail
    refine (natMul_ok w _ _ (nI (a / b)) (nI (b)) (a / b * b) _ k3 h_q h_v1 (rMul BQ.out BB.out BP.out rfl)).mono ?_
    rintro e w4 ⟨p, rfl, h_p, k4, n4⟩
    replace h_v0 := h_v0.up n4
    replace h_v1 := h_v1.up n4
    replace h_q := h_q.up n4
    replace h_r := h_r.up n4
    go_wp2_with fail
    refine (natAdd_ok w _ _ (nI (a / b * b)) (nI (a % b)) (a) _ k4 h_p h_r (rAdd BP.out BR.out BA.out HDM.out)).mono ?_
    rintro e w5 ⟨s, rfl, h_s, k5, n5⟩
    replace h_v0 := h_v0.up n5
    replace h_v1 := h_v1.up n5
    replace h_q := h_q.up n5
    replace h_r := h_r.up n5
    replace h_p := h_p.up n5
    go_wp2_with fail
    refine (same_refl w _ _ _ _ k5 h_s h_v0).mono ?_
    rintro e w6 ⟨rfl, k6, n6⟩
    replace h_v0 := h_v0.up n6
    replace h_v1 := h_v1.up n6
    replace h_r := h_r.up n6
    replace h_s := h_s.up n6
    go_wp2_with fail
    refine (natCompare_at w _ _ _ _ (-1) _ k6 h_r h_v1 (rCmp BR.out BB.out HC.out)).mono ?_
    rintro e w7 ⟨rfl, k7, n7⟩
    replace h_v0 := h_v0.up n7
    replace h_v1 := h_v1.up n7
    replace h_r := h_r.up n7
    go_wp2_with fail
    refine (natGcd_ok w _ _ (nI (a)) (nI (b)) (g) _ k7 h_v0 h_v1 (rGcd BA.out BB.out HG.out)).mono ?_
    rintro e w8 ⟨d, rfl, h_d, k8, n8⟩
    replace h_v0 := h_v0.up n8
    replace h_v1 := h_v1.up n8
    go_wp2_with fail
    refine (natDivide_ok w _ _ (nI (a)) (nI (g)) (a / g) (0) _ k8 h_v0 h_d (rDivQ BA.out BG.out HG0.out rfl) (rDivR BA.out BG.out HG0.out HMA.out)).mono ?_
    rintro e w9 ⟨x, u, rfl, h_x, h_u, k9, n9⟩
    replace h_v0 := h_v0.up n9
    replace h_v1 := h_v1.up n9
    replace h_d := h_d.up n9
    go_wp2_with fail
    refine (natDivide_ok w _ _ (nI (b)) (nI (g)) (b / g) (0) _ k9 h_v1 h_d (rDivQ BB.out BG.out HG0.out rfl) (rDivR BB.out BG.out HG0.out HMB.out)).mono ?_
    rintro e w10 ⟨y, v, rfl, h_y, h_v, k10, n10⟩
    replace h_v0 := h_v0.up n10
    replace h_v1 := h_v1.up n10
    replace h_d := h_d.up n10
    replace h_x := h_x.up n10
    replace h_u := h_u.up n10
    go_wp2_with fail
    refine (natGcd_ok w _ _ (nI (a / g)) (nI (b / g)) (1) _ k10 h_x h_y (rGcd BX.out BY.out H1.out)).mono ?_
    rintro e w11 ⟨one, rfl, h_one, k11, n11⟩
    replace h_v0 := h_v0.up n11
    replace h_v1 := h_v1.up n11
    replace h_d := h_d.up n11
    replace h_x := h_x.up n11
    replace h_u := h_u.up n11
    replace h_y := h_y.up n11
    replace h_v := h_v.up n11
    go_wp2_with fail
    refine (natGcd_ok w _ _ (nI (b)) (nI (a)) (g) _ k11 h_v1 h_v0 (rGcd BB.out BA.out HGC.out)).mono ?_
    rintro e w12 ⟨back, rfl, h_back, k12, n12⟩
    replace h_v0 := h_v0.up n12
    replace h_v1 := h_v1.up n12
    replace h_d := h_d.up n12
    replace h_u := h_u.up n12
    replace h_v := h_v.up n12
    replace h_one := h_one.up n12
    obtain ⟨Au, cu, rfl⟩ := zero_form h_u
    obtain ⟨Av, cv, rfl⟩ := zero_form h_v
    go_wp2_with fail
    have h_one := h_one.up ((Below.refl _ _).alloc (Nat.le_refl _) (.cells ([1].map iv).toArray 3))
    have h_back := h_back.up ((Below.refl _ _).alloc (Nat.le_refl _) (.cells ([1].map iv).toArray 3))
    have h_d := h_d.up ((Below.refl _ _).alloc (Nat.le_refl _) (.cells ([1].map iv).toArray 3))
    refine (same_at w _ _ _ [1] true _ (below_new k12 _) h_one (lit_ints _ [1] 1 rfl (by omega)) HS1.out).mono ?_
    rintro e w13 ⟨rfl, k13, n13⟩
    replace h_d := h_d.up n13
    replace h_back := h_back.up n13
    go_wp2_with fail
    refine (same_refl w _ _ _ _ k13 h_back h_d).mono ?_
    rintro e w14 ⟨rfl, k14, n14⟩
    replace h_d := h_d.up n14
    replace h_back := h_back.up n14
    go_wp2
    go_ret
    exact ⟨rfl, k14⟩

end Go.Proofs.YtheadamdhjhnpaaDoor
