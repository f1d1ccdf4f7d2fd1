/-
  The body of the statement NatRing.
-/
import Derived.Test.YtheadamdhjhnpaaDoorVal
namespace Go.Proofs.YtheadamdhjhnpaaDoor
open Go.RowKit

set_option maxRecDepth 20000 in
set_option maxHeartbeats 3200000 in
theorem natRing_v (A0 A1 A2 : Option Addr) (n0 n1 n2 c0 c1 c2 : Nat) (xs ys zs : List Int) (w : World) (h_v0 : Ints w (.slice A0 n0 c0) xs) (h_v1 : Ints w (.slice A1 n1 c1) ys) (h_v2 : Ints w (.slice A2 n2 c2) zs) :
    Calls Tryd.prog 8 #[.slice A0 n0 c0, .slice A1 n1 c1, .slice A2 n2 c2] w fun e w' => e = .returned (.bool true) ∧ Below w.heap.size w w' := by
  cases hf : (okB 20 xs && (okB 20 ys && okB 20 zs)) with
  | false =>
    have HF := Lib.hid hf
    clear hf
    go_enter Tryd.func8, Tryd.ntmps8
    go_wp2_with fail
    refine (awake_any _).mono ?_
    rintro e w1 ⟨rfl, n1⟩
    have k1 := n1
    replace h_v0 := h_v0.up n1
    replace h_v1 := h_v1.up n1
    replace h_v2 := h_v2.up n1
    go_wp2_with fail
    refine (valid3_at 20 (by omega) w _ _ _ xs ys zs false _ k1 h_v0 h_v1 h_v2 HF.out).mono ?_
    rintro e w2 ⟨rfl, k2, n2⟩
    replace h_v0 := h_v0.up n2
    replace h_v1 := h_v1.up n2
    replace h_v2 := h_v2.up n2
    go_wp2_with fail
    refine (awake_any _).mono ?_
    rintro e w3 ⟨rfl, n3⟩
    have k3 := below_next k2 n3
    replace h_v0 := h_v0.up n3
    replace h_v1 := h_v1.up n3
    replace h_v2 := h_v2.up n3
    go_wp2
    go_ret
    exact ⟨rfl, k3⟩
  | true =>
    have HF := Lib.hid hf
    rw [Bool.and_eq_true, Bool.and_eq_true] at hf
    obtain ⟨a, ha, rfl⟩ := ok_num hf.1 (by omega)
    obtain ⟨b, hb, rfl⟩ := ok_num hf.2.1 (by omega)
    obtain ⟨c, hc, rfl⟩ := ok_num hf.2.2 (by omega)
    have BA : Hid (a < pw 128) := Lib.hid (lt128 ha (by omega))
    have BB : Hid (b < pw 128) := Lib.hid (lt128 hb (by omega))
    have BC : Hid (c < pw 128) := Lib.hid (lt128 hc (by omega))
    have BAB : Hid (a + b < pw 128) := Lib.hid (lt128 (add_lt ha hb (Nat.le_refl _)) (by omega))
    have BBC : Hid (b + c < pw 128) := Lib.hid (lt128 (add_lt hb hc (Nat.le_refl _)) (by omega))
    have BABC : Hid (a + b + c < pw 128) := Lib.hid (lt128 (by have := add_lt hc (add_lt ha hb (Nat.le_refl _)) (by omega); rw [Nat.add_comm]; exact this : a + b + c < pw 22) (by omega))
    have MAB : Hid (a * b < pw 128) := Lib.hid (lt128 (mul_lt ha hb) (by omega))
    have MBC : Hid (b * c < pw 128) := Lib.hid (lt128 (mul_lt hb hc) (by omega))
    have MAC : Hid (a * c < pw 128) := Lib.hid (lt128 (mul_lt ha hc) (by omega))
    have MABC : Hid (a * b * c < pw 128) := Lib.hid (lt128 (mul_lt (mul_lt ha hb) hc) (by omega))
    have MA : Hid (a * (b + c) < pw 128) := Lib.hid (lt128 (mul_lt ha (add_lt hb hc (Nat.le_refl _))) (by omega))
    clear hf ha hb hc
    go_enter Tryd.func8, Tryd.ntmps8
    go_wp2_with fail
    refine (awake_any _).mono ?_
    rintro e w1 ⟨rfl, n1⟩
    have k1 := n1
    replace h_v0 := h_v0.up n1
    replace h_v1 := h_v1.up n1
    replace h_v2 := h_v2.up n1
    go_wp2_with fail
    refine (valid3_at 20 (by omega) w _ _ _ _ _ _ true _ k1 h_v0 h_v1 h_v2 HF.out).mono ?_
    rintro e w2 ⟨rfl, k2, n2⟩
    replace h_v0 := h_v0.up n2
    replace h_v1 := h_v1.up n2
    replace h_v2 := h_v2.up n2
    go_wp2_with fail
    refine (natAdd_ok w _ _ (nI (a)) (nI (b)) (a + b) _ k2 h_v0 h_v1 (rAdd BA.out BB.out BAB.out rfl)).mono ?_
    rintro e w3 ⟨ab, rfl, h_ab, k3, n3⟩
    replace h_v0 := h_v0.up n3
    replace h_v1 := h_v1.up n3
    replace h_v2 := h_v2.up n3
    go_wp2_with fail
    refine (natAdd_ok w _ _ (nI (b)) (nI (a)) (a + b) _ k3 h_v1 h_v0 (rAdd BB.out BA.out BAB.out (Nat.add_comm _ _))).mono ?_
    rintro e w4 ⟨ba, rfl, h_ba, k4, n4⟩
    replace h_v0 := h_v0.up n4
    replace h_v1 := h_v1.up n4
    replace h_v2 := h_v2.up n4
    replace h_ab := h_ab.up n4
    go_wp2_with fail
    refine (natAdd_ok w _ _ (nI (b)) (nI (c)) (b + c) _ k4 h_v1 h_v2 (rAdd BB.out BC.out BBC.out rfl)).mono ?_
    rintro e w5 ⟨bc, rfl, h_bc, k5, n5⟩
    replace h_v0 := h_v0.up n5
    replace h_v1 := h_v1.up n5
    replace h_v2 := h_v2.up n5
    replace h_ab := h_ab.up n5
    replace h_ba := h_ba.up n5
    go_wp2_with fail
    refine (natAdd_ok w _ _ (nI (a + b)) (nI (c)) (a + b + c) _ k5 h_ab h_v2 (rAdd BAB.out BC.out BABC.out rfl)).mono ?_
    rintro e w6 ⟨x, rfl, h_x, k6, n6⟩
    replace h_v0 := h_v0.up n6
    replace h_v1 := h_v1.up n6
    replace h_v2 := h_v2.up n6
    replace h_ab := h_ab.up n6
    replace h_ba := h_ba.up n6
    replace h_bc := h_bc.up n6
    go_wp2_with fail
    refine (natAdd_ok w _ _ (nI (a)) (nI (b + c)) (a + b + c) _ k6 h_v0 h_bc (rAdd BA.out BBC.out BABC.out (Nat.add_assoc _ _ _).symm)).mono ?_
    rintro e w7 ⟨y, rfl, h_y, k7, n7⟩
    replace h_v0 := h_v0.up n7
    replace h_v1 := h_v1.up n7
    replace h_v2 := h_v2.up n7
    replace h_ab := h_ab.up n7
    replace h_ba := h_ba.up n7
    replace h_bc := h_bc.up n7
    replace h_x := h_x.up n7
    go_wp2_with fail
    refine (natSub_ok w _ _ (nI (a + b)) (nI (b)) (a) _ k7 h_ab h_v1 (rSub BAB.out BB.out rfl)).mono ?_
    rintro e w8 ⟨back, rfl, h_back, k8, n8⟩
    replace h_v0 := h_v0.up n8
    replace h_v1 := h_v1.up n8
    replace h_v2 := h_v2.up n8
    replace h_ab := h_ab.up n8
    replace h_ba := h_ba.up n8
    replace h_bc := h_bc.up n8
    replace h_x := h_x.up n8
    replace h_y := h_y.up n8
    go_wp2_with fail
    refine (same_refl w _ _ _ _ k8 h_ab h_ba).mono ?_
    rintro e w9 ⟨rfl, k9, n9⟩
    replace h_v0 := h_v0.up n9
    replace h_v1 := h_v1.up n9
    replace h_v2 := h_v2.up n9
    replace h_ab := h_ab.up n9
    replace h_ba := h_ba.up n9
    replace h_bc := h_bc.up n9
    replace h_x := h_x.up n9
    replace h_y := h_y.up n9
    replace h_back := h_back.up n9
    go_wp2_with fail
    refine (same_refl w _ _ _ _ k9 h_x h_y).mono ?_
    rintro e w10 ⟨rfl, k10, n10⟩
    replace h_v0 := h_v0.up n10
    replace h_v1 := h_v1.up n10
    replace h_v2 := h_v2.up n10
    replace h_bc := h_bc.up n10
    replace h_x := h_x.up n10
    replace h_y := h_y.up n10
    replace h_back := h_back.up n10
    go_wp2_with fail
    refine (same_refl w _ _ _ _ k10 h_back h_v0).mono ?_
    rintro e w11 ⟨rfl, k11, n11⟩
    replace h_v0 := h_v0.up n11
    replace h_v1 := h_v1.up n11
    replace h_v2 := h_v2.up n11
    replace h_bc := h_bc.up n11
    replace h_back := h_back.up n11
    go_wp2_with fail
    refine (natMul_ok w _ _ (nI (a)) (nI (b)) (a * b) _ k11 h_v0 h_v1 (rMul BA.out BB.out MAB.out rfl)).mono ?_
    rintro e w12 ⟨p, rfl, h_p, k12, n12⟩
    replace h_v0 := h_v0.up n12
    replace h_v1 := h_v1.up n12
    replace h_v2 := h_v2.up n12
    replace h_bc := h_bc.up n12
    go_wp2_with fail
    refine (natMul_ok w _ _ (nI (b)) (nI (a)) (a * b) _ k12 h_v1 h_v0 (rMul BB.out BA.out MAB.out (Nat.mul_comm _ _))).mono ?_
    rintro e w13 ⟨q, rfl, h_q, k13, n13⟩
    replace h_v0 := h_v0.up n13
    replace h_v1 := h_v1.up n13
    replace h_v2 := h_v2.up n13
    replace h_bc := h_bc.up n13
    replace h_p := h_p.up n13
    go_wp2_with fail
    refine (natMul_ok w _ _ (nI (b)) (nI (c)) (b * c) _ k13 h_v1 h_v2 (rMul BB.out BC.out MBC.out rfl)).mono ?_
    rintro e w14 ⟨r, rfl, h_r, k14, n14⟩
    replace h_v0 := h_v0.up n14
    replace h_v1 := h_v1.up n14
    replace h_v2 := h_v2.up n14
    replace h_bc := h_bc.up n14
    replace h_p := h_p.up n14
    replace h_q := h_q.up n14
    go_wp2_with fail
    refine (natMul_ok w _ _ (nI (a * b)) (nI (c)) (a * b * c) _ k14 h_p h_v2 (rMul MAB.out BC.out MABC.out rfl)).mono ?_
    rintro e w15 ⟨u, rfl, h_u, k15, n15⟩
    replace h_v0 := h_v0.up n15
    replace h_v1 := h_v1.up n15
    replace h_v2 := h_v2.up n15
    replace h_bc := h_bc.up n15
    replace h_p := h_p.up n15
    replace h_q := h_q.up n15
    replace h_r := h_r.up n15
    go_wp2_with fail
    refine (natMul_ok w _ _ (nI (a)) (nI (b * c)) (a * b * c) _ k15 h_v0 h_r (rMul BA.out MBC.out MABC.out (Nat.mul_assoc _ _ _).symm)).mono ?_
    rintro e w16 ⟨v, rfl, h_v, k16, n16⟩
    replace h_v0 := h_v0.up n16
    replace h_v1 := h_v1.up n16
    replace h_v2 := h_v2.up n16
    replace h_bc := h_bc.up n16
    replace h_p := h_p.up n16
    replace h_q := h_q.up n16
    replace h_r := h_r.up n16
    replace h_u := h_u.up n16
    go_wp2_with fail
    refine (same_refl w _ _ _ _ k16 h_p h_q).mono ?_
    rintro e w17 ⟨rfl, k17, n17⟩
    replace h_v0 := h_v0.up n17
    replace h_v1 := h_v1.up n17
    replace h_v2 := h_v2.up n17
    replace h_bc := h_bc.up n17
    replace h_p := h_p.up n17
    replace h_q := h_q.up n17
    replace h_r := h_r.up n17
    replace h_u := h_u.up n17
    replace h_v := h_v.up n17
    go_wp2_with fail
    refine (same_refl w _ _ _ _ k17 h_u h_v).mono ?_
    rintro e w18 ⟨rfl, k18, n18⟩
    replace h_v0 := h_v0.up n18
    replace h_v1 := h_v1.up n18
    replace h_v2 := h_v2.up n18
    replace h_bc := h_bc.up n18
    replace h_p := h_p.up n18
    replace h_u := h_u.up n18
    replace h_v := h_v.up n18
    go_wp2_with fail
    refine (natMul_ok w _ _ (nI (a)) (nI (b + c)) (a * (b + c)) _ k18 h_v0 h_bc (rMul BA.out BBC.out MA.out rfl)).mono ?_
    rintro e w19 ⟨s, rfl, h_s, k19, n19⟩
    replace h_v0 := h_v0.up n19
    replace h_v1 := h_v1.up n19
    replace h_v2 := h_v2.up n19
    replace h_bc := h_bc.up n19
    replace h_p := h_p.up n19
    go_wp2_with fail
    refine (natMul_ok w _ _ (nI (a)) (nI (c)) (a * c) _ k19 h_v0 h_v2 (rMul BA.out BC.out MAC.out rfl)).mono ?_
    rintro e w20 ⟨t, rfl, h_t, k20, n20⟩
    replace h_v0 := h_v0.up n20
    replace h_v1 := h_v1.up n20
    replace h_v2 := h_v2.up n20
    replace h_bc := h_bc.up n20
    replace h_p := h_p.up n20
    replace h_s := h_s.up n20
    go_wp2_with fail
    refine (natAdd_ok w _ _ (nI (a * b)) (nI (a * c)) (a * (b + c)) _ k20 h_p h_t (rAdd MAB.out MAC.out MA.out (Nat.mul_add _ _ _).symm)).mono ?_
    rintro e w21 ⟨z, rfl, h_z, k21, n21⟩
    replace h_v0 := h_v0.up n21
    replace h_v1 := h_v1.up n21
    replace h_v2 := h_v2.up n21
    replace h_bc := h_bc.up n21
    replace h_p := h_p.up n21
    replace h_s := h_s.up n21
    replace h_t := h_t.up n21
    go_wp2_with fail
    refine (same_refl w _ _ _ _ k21 h_s h_z).mono ?_
    rintro e w22 ⟨rfl, k22, n22⟩
    replace h_s := h_s.up n22
    replace h_z := h_z.up n22
    go_wp2
    go_ret
    exact ⟨rfl, k22⟩

end Go.Proofs.YtheadamdhjhnpaaDoor
