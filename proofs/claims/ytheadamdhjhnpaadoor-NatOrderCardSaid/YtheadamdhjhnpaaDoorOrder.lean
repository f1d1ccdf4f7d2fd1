/-
  The body of the statement NatOrder.
-/
import Derived.Test.YtheadamdhjhnpaaDoorVal
namespace Go.Proofs.YtheadamdhjhnpaaDoor
open Go.RowKit

set_option maxRecDepth 20000 in
set_option maxHeartbeats 3200000 in
theorem order_0n (A0 A1 A2 : Option Addr) (n0 n1 n2 c0 c1 c2 : Nat) (a b c : Nat) (w : World) (h_v0 : Ints w (.slice A0 n0 c0) (nI a)) (h_v1 : Ints w (.slice A1 n1 c1) (nI b)) (h_v2 : Ints w (.slice A2 n2 c2) (nI c)) (HF : Hid ((okB 20 (nI a) && (okB 20 (nI b) && okB 20 (nI c))) = true)) (BA : Hid (a < pw 128)) (BB : Hid (b < pw 128)) (BC : Hid (c < pw 128)) (BAC : Hid (a + c < pw 128)) (BBC : Hid (b + c < pw 128)) (MAC : Hid (a * c < pw 128)) (MBC : Hid (b * c < pw 128)) (HX : Hid (cmpN a b = (-1))) (HY : Hid (cmpN b c = (-1))) (HZ : Hid (cmpN a c = (-1))) (hc : c ≠ 0) :
    Calls Tryd.prog 11 #[.slice A0 n0 c0, .slice A1 n1 c1, .slice A2 n2 c2] w fun e w' => e = .returned (.bool true) ∧ Below w.heap.size w w' := by
  have hlen := ints_len h_v2
  have t0 : ((n2 : Int) == 0) = false := beq_false_of_ne (by have := nI_ne hlen hc; omega)
  have HM : Hid (cmpN (a * c) (b * c) = (-1)) := Lib.hid (by rw [cmpN_mul hc]; exact HX.out)
  have HXN : Hid (cmpN b a = 1) := Lib.hid (by rw [cmpN_swap, HX.out] <;> rfl)
  have HSB : Hid (decide (nI a = nI b) = false) := Lib.hid (by rw [cmpN_zero, HX.out] <;> rfl)
  have HA : Hid (cmpN (a + c) (b + c) = (-1)) := Lib.hid (by rw [cmpN_add]; exact HX.out)
  clear hlen hc
  go_enter Tryd.func11, Tryd.ntmps11
  go_wp2_with fail
  refine (awake_any _).mono ?_
  rintro e w1 ⟨rfl, n1⟩
  have k1 := n1
  replace h_v0 := h_v0.up n1
  replace h_v1 := h_v1.up n1
  replace h_v2 := h_v2.up n1
  go_wp2_with fail
  refine (valid3_at 20 (by omega) w _ _ _ _ _ _ true _ k1 h_v0 h_v1 h_v2 HF.out).mono ?_
  rintro e w2 ⟨rfl, k2, n2⟩
  replace h_v0 := h_v0.up n2
  replace h_v1 := h_v1.up n2
  replace h_v2 := h_v2.up n2
  go_wp2_with fail
  refine (natCompare_at w _ _ _ _ (-1) _ k2 h_v0 h_v1 (rCmp BA.out BB.out HX.out)).mono ?_
  rintro e w3 ⟨rfl, k3, n3⟩
  replace h_v0 := h_v0.up n3
  replace h_v1 := h_v1.up n3
  replace h_v2 := h_v2.up n3
  go_wp2_with fail
  refine (natCompare_at w _ _ _ _ (-1) _ k3 h_v1 h_v2 (rCmp BB.out BC.out HY.out)).mono ?_
  rintro e w4 ⟨rfl, k4, n4⟩
  replace h_v0 := h_v0.up n4
  replace h_v1 := h_v1.up n4
  replace h_v2 := h_v2.up n4
  go_wp2_with fail
  refine (natCompare_at w _ _ _ _ (-1) _ k4 h_v0 h_v2 (rCmp BA.out BC.out HZ.out)).mono ?_
  rintro e w5 ⟨rfl, k5, n5⟩
  replace h_v0 := h_v0.up n5
  replace h_v1 := h_v1.up n5
  replace h_v2 := h_v2.up n5
  go_wp2_with fail
  refine (natCompare_at w _ _ _ _ 1 _ k5 h_v1 h_v0 (rCmp BB.out BA.out HXN.out)).mono ?_
  rintro e w6 ⟨rfl, k6, n6⟩
  replace h_v0 := h_v0.up n6
  replace h_v1 := h_v1.up n6
  replace h_v2 := h_v2.up n6
  go_wp2_with fail
  refine (same_at w _ _ _ _ false _ k6 h_v0 h_v1 HSB.out).mono ?_
  rintro e w7 ⟨rfl, k7, n7⟩
  replace h_v0 := h_v0.up n7
  replace h_v1 := h_v1.up n7
  replace h_v2 := h_v2.up n7
  go_wp2_with fail
  refine (natAdd_ok w _ _ (nI (a)) (nI (c)) (a + c) _ k7 h_v0 h_v2 (rAdd BA.out BC.out BAC.out rfl)).mono ?_
  rintro e w8 ⟨s, rfl, h_s, k8, n8⟩
  replace h_v0 := h_v0.up n8
  replace h_v1 := h_v1.up n8
  replace h_v2 := h_v2.up n8
  go_wp2_with fail
  refine (natAdd_ok w _ _ (nI (b)) (nI (c)) (b + c) _ k8 h_v1 h_v2 (rAdd BB.out BC.out BBC.out rfl)).mono ?_
  rintro e w9 ⟨t, rfl, h_t, k9, n9⟩
  replace h_v0 := h_v0.up n9
  replace h_v1 := h_v1.up n9
  replace h_v2 := h_v2.up n9
  replace h_s := h_s.up n9
  go_wp2_with fail
  refine (natMul_ok w _ _ (nI (a)) (nI (c)) (a * c) _ k9 h_v0 h_v2 (rMul BA.out BC.out MAC.out rfl)).mono ?_
  rintro e w10 ⟨p, rfl, h_p, k10, n10⟩
  replace h_v0 := h_v0.up n10
  replace h_v1 := h_v1.up n10
  replace h_v2 := h_v2.up n10
  replace h_s := h_s.up n10
  replace h_t := h_t.up n10
  go_wp2_with fail
  refine (natMul_ok w _ _ (nI (b)) (nI (c)) (b * c) _ k10 h_v1 h_v2 (rMul BB.out BC.out MBC.out rfl)).mono ?_
  rintro e w11 ⟨q, rfl, h_q, k11, n11⟩
  replace h_v0 := h_v0.up n11
  replace h_v1 := h_v1.up n11
  replace h_v2 := h_v2.up n11
  replace h_s := h_s.up n11
  replace h_t := h_t.up n11
  replace h_p := h_p.up n11
  go_wp2_with fail
  refine (natCompare_at w _ _ _ _ (-1) _ k11 h_s h_t (rCmp BAC.out BBC.out HA.out)).mono ?_
  rintro e w12 ⟨rfl, k12, n12⟩
  replace h_s := h_s.up n12
  replace h_t := h_t.up n12
  replace h_p := h_p.up n12
  replace h_q := h_q.up n12
  go_wp2_with fail
  refine (natCompare_at w _ _ _ _ (-1) _ k12 h_p h_q (rCmp MAC.out MBC.out HM.out)).mono ?_
  rintro e w13 ⟨rfl, k13, n13⟩
  replace h_s := h_s.up n13
  replace h_t := h_t.up n13
  replace h_p := h_p.up n13
  replace h_q := h_q.up n13
  go_wp2
  go_ret
  exact ⟨rfl, k13⟩

set_option maxRecDepth 20000 in
set_option maxHeartbeats 3200000 in
theorem order_1z (A0 A1 A2 : Option Addr) (n0 n1 n2 c0 c1 c2 : Nat) (a b c : Nat) (w : World) (h_v0 : Ints w (.slice A0 n0 c0) (nI a)) (h_v1 : Ints w (.slice A1 n1 c1) (nI b)) (h_v2 : Ints w (.slice A2 n2 c2) (nI c)) (HF : Hid ((okB 20 (nI a) && (okB 20 (nI b) && okB 20 (nI c))) = true)) (BA : Hid (a < pw 128)) (BB : Hid (b < pw 128)) (BC : Hid (c < pw 128)) (BAC : Hid (a + c < pw 128)) (BBC : Hid (b + c < pw 128)) (MAC : Hid (a * c < pw 128)) (MBC : Hid (b * c < pw 128)) (HX : Hid (cmpN a b = (-1))) (HY : Hid (cmpN b c = 0)) (HZ : Hid (cmpN a c = (-1))) (hc : c = 0) :
    Calls Tryd.prog 11 #[.slice A0 n0 c0, .slice A1 n1 c1, .slice A2 n2 c2] w fun e w' => e = .returned (.bool true) ∧ Below w.heap.size w w' := by
  have hlen := ints_len h_v2
  have t0 : ((n2 : Int) == 0) = true := by rw [← hlen, hc, nI_zero]; rfl
  have HXN : Hid (cmpN b a = 1) := Lib.hid (by rw [cmpN_swap, HX.out] <;> rfl)
  have HSB : Hid (decide (nI a = nI b) = false) := Lib.hid (by rw [cmpN_zero, HX.out] <;> rfl)
  have HA : Hid (cmpN (a + c) (b + c) = (-1)) := Lib.hid (by rw [cmpN_add]; exact HX.out)
  clear hlen hc
  go_enter Tryd.func11, Tryd.ntmps11
  go_wp2_with fail
  refine (awake_any _).mono ?_
  rintro e w1 ⟨rfl, n1⟩
  have k1 := n1
  replace h_v0 := h_v0.up n1
  replace h_v1 := h_v1.up n1
  replace h_v2 := h_v2.up n1
  go_wp2_with fail
  refine (valid3_at 20 (by omega) w _ _ _ _ _ _ true _ k1 h_v0 h_v1 h_v2 HF.out).mono ?_
  rintro e w2 ⟨rfl, k2, n2⟩
  replace h_v0 := h_v0.up n2
  replace h_v1 := h_v1.up n2
  replace h_v2 := h_v2.up n2
  go_wp2_with fail
  refine (natCompare_at w _ _ _ _ (-1) _ k2 h_v0 h_v1 (rCmp BA.out BB.out HX.out)).mono ?_
  rintro e w3 ⟨rfl, k3, n3⟩
  replace h_v0 := h_v0.up n3
  replace h_v1 := h_v1.up n3
  replace h_v2 := h_v2.up n3
  go_wp2_with fail
  refine (natCompare_at w _ _ _ _ 0 _ k3 h_v1 h_v2 (rCmp BB.out BC.out HY.out)).mono ?_
  rintro e w4 ⟨rfl, k4, n4⟩
  replace h_v0 := h_v0.up n4
  replace h_v1 := h_v1.up n4
  replace h_v2 := h_v2.up n4
  go_wp2_with fail
  refine (natCompare_at w _ _ _ _ (-1) _ k4 h_v0 h_v2 (rCmp BA.out BC.out HZ.out)).mono ?_
  rintro e w5 ⟨rfl, k5, n5⟩
  replace h_v0 := h_v0.up n5
  replace h_v1 := h_v1.up n5
  replace h_v2 := h_v2.up n5
  go_wp2_with fail
  refine (natCompare_at w _ _ _ _ 1 _ k5 h_v1 h_v0 (rCmp BB.out BA.out HXN.out)).mono ?_
  rintro e w6 ⟨rfl, k6, n6⟩
  replace h_v0 := h_v0.up n6
  replace h_v1 := h_v1.up n6
  replace h_v2 := h_v2.up n6
  go_wp2_with fail
  refine (same_at w _ _ _ _ false _ k6 h_v0 h_v1 HSB.out).mono ?_
  rintro e w7 ⟨rfl, k7, n7⟩
  replace h_v0 := h_v0.up n7
  replace h_v1 := h_v1.up n7
  replace h_v2 := h_v2.up n7
  go_wp2_with fail
  refine (natAdd_ok w _ _ (nI (a)) (nI (c)) (a + c) _ k7 h_v0 h_v2 (rAdd BA.out BC.out BAC.out rfl)).mono ?_
  rintro e w8 ⟨s, rfl, h_s, k8, n8⟩
  replace h_v0 := h_v0.up n8
  replace h_v1 := h_v1.up n8
  replace h_v2 := h_v2.up n8
  go_wp2_with fail
  refine (natAdd_ok w _ _ (nI (b)) (nI (c)) (b + c) _ k8 h_v1 h_v2 (rAdd BB.out BC.out BBC.out rfl)).mono ?_
  rintro e w9 ⟨t, rfl, h_t, k9, n9⟩
  replace h_v0 := h_v0.up n9
  replace h_v1 := h_v1.up n9
  replace h_v2 := h_v2.up n9
  replace h_s := h_s.up n9
  go_wp2_with fail
  refine (natMul_ok w _ _ (nI (a)) (nI (c)) (a * c) _ k9 h_v0 h_v2 (rMul BA.out BC.out MAC.out rfl)).mono ?_
  rintro e w10 ⟨p, rfl, h_p, k10, n10⟩
  replace h_v0 := h_v0.up n10
  replace h_v1 := h_v1.up n10
  replace h_v2 := h_v2.up n10
  replace h_s := h_s.up n10
  replace h_t := h_t.up n10
  go_wp2_with fail
  refine (natMul_ok w _ _ (nI (b)) (nI (c)) (b * c) _ k10 h_v1 h_v2 (rMul BB.out BC.out MBC.out rfl)).mono ?_
  rintro e w11 ⟨q, rfl, h_q, k11, n11⟩
  replace h_v0 := h_v0.up n11
  replace h_v1 := h_v1.up n11
  replace h_v2 := h_v2.up n11
  replace h_s := h_s.up n11
  replace h_t := h_t.up n11
  replace h_p := h_p.up n11
  go_wp2_with fail
  refine (natCompare_at w _ _ _ _ (-1) _ k11 h_s h_t (rCmp BAC.out BBC.out HA.out)).mono ?_
  rintro e w12 ⟨rfl, k12, n12⟩
  replace h_s := h_s.up n12
  replace h_t := h_t.up n12
  replace h_p := h_p.up n12
  replace h_q := h_q.up n12
  go_wp2
  go_ret
  exact ⟨rfl, k12⟩

set_option maxRecDepth 20000 in
set_option maxHeartbeats 3200000 in
theorem order_1n (A0 A1 A2 : Option Addr) (n0 n1 n2 c0 c1 c2 : Nat) (a b c : Nat) (w : World) (h_v0 : Ints w (.slice A0 n0 c0) (nI a)) (h_v1 : Ints w (.slice A1 n1 c1) (nI b)) (h_v2 : Ints w (.slice A2 n2 c2) (nI c)) (HF : Hid ((okB 20 (nI a) && (okB 20 (nI b) && okB 20 (nI c))) = true)) (BA : Hid (a < pw 128)) (BB : Hid (b < pw 128)) (BC : Hid (c < pw 128)) (BAC : Hid (a + c < pw 128)) (BBC : Hid (b + c < pw 128)) (MAC : Hid (a * c < pw 128)) (MBC : Hid (b * c < pw 128)) (HX : Hid (cmpN a b = (-1))) (HY : Hid (cmpN b c = 0)) (HZ : Hid (cmpN a c = (-1))) (hc : c ≠ 0) :
    Calls Tryd.prog 11 #[.slice A0 n0 c0, .slice A1 n1 c1, .slice A2 n2 c2] w fun e w' => e = .returned (.bool true) ∧ Below w.heap.size w w' := by
  have hlen := ints_len h_v2
  have t0 : ((n2 : Int) == 0) = false := beq_false_of_ne (by have := nI_ne hlen hc; omega)
  have HM : Hid (cmpN (a * c) (b * c) = (-1)) := Lib.hid (by rw [cmpN_mul hc]; exact HX.out)
  have HXN : Hid (cmpN b a = 1) := Lib.hid (by rw [cmpN_swap, HX.out] <;> rfl)
  have HSB : Hid (decide (nI a = nI b) = false) := Lib.hid (by rw [cmpN_zero, HX.out] <;> rfl)
  have HA : Hid (cmpN (a + c) (b + c) = (-1)) := Lib.hid (by rw [cmpN_add]; exact HX.out)
  clear hlen hc
  go_enter Tryd.func11, Tryd.ntmps11
  go_wp2_with fail
  refine (awake_any _).mono ?_
  rintro e w1 ⟨rfl, n1⟩
  have k1 := n1
  replace h_v0 := h_v0.up n1
  replace h_v1 := h_v1.up n1
  replace h_v2 := h_v2.up n1
  go_wp2_with fail
  refine (valid3_at 20 (by omega) w _ _ _ _ _ _ true _ k1 h_v0 h_v1 h_v2 HF.out).mono ?_
  rintro e w2 ⟨rfl, k2, n2⟩
  replace h_v0 := h_v0.up n2
  replace h_v1 := h_v1.up n2
  replace h_v2 := h_v2.up n2
  go_wp2_with fail
  refine (natCompare_at w _ _ _ _ (-1) _ k2 h_v0 h_v1 (rCmp BA.out BB.out HX.out)).mono ?_
  rintro e w3 ⟨rfl, k3, n3⟩
  replace h_v0 := h_v0.up n3
  replace h_v1 := h_v1.up n3
  replace h_v2 := h_v2.up n3
  go_wp2_with fail
  refine (natCompare_at w _ _ _ _ 0 _ k3 h_v1 h_v2 (rCmp BB.out BC.out HY.out)).mono ?_
  rintro e w4 ⟨rfl, k4, n4⟩
  replace h_v0 := h_v0.up n4
  replace h_v1 := h_v1.up n4
  replace h_v2 := h_v2.up n4
  go_wp2_with fail
  refine (natCompare_at w _ _ _ _ (-1) _ k4 h_v0 h_v2 (rCmp BA.out BC.out HZ.out)).mono ?_
  rintro e w5 ⟨rfl, k5, n5⟩
  replace h_v0 := h_v0.up n5
  replace h_v1 := h_v1.up n5
  replace h_v2 := h_v2.up n5
  go_wp2_with fail
  refine (natCompare_at w _ _ _ _ 1 _ k5 h_v1 h_v0 (rCmp BB.out BA.out HXN.out)).mono ?_
  rintro e w6 ⟨rfl, k6, n6⟩
  replace h_v0 := h_v0.up n6
  replace h_v1 := h_v1.up n6
  replace h_v2 := h_v2.up n6
  go_wp2_with fail
  refine (same_at w _ _ _ _ false _ k6 h_v0 h_v1 HSB.out).mono ?_
  rintro e w7 ⟨rfl, k7, n7⟩
  replace h_v0 := h_v0.up n7
  replace h_v1 := h_v1.up n7
  replace h_v2 := h_v2.up n7
  go_wp2_with fail
  refine (natAdd_ok w _ _ (nI (a)) (nI (c)) (a + c) _ k7 h_v0 h_v2 (rAdd BA.out BC.out BAC.out rfl)).mono ?_
  rintro e w8 ⟨s, rfl, h_s, k8, n8⟩
  replace h_v0 := h_v0.up n8
  replace h_v1 := h_v1.up n8
  replace h_v2 := h_v2.up n8
  go_wp2_with fail
  refine (natAdd_ok w _ _ (nI (b)) (nI (c)) (b + c) _ k8 h_v1 h_v2 (rAdd BB.out BC.out BBC.out rfl)).mono ?_
  rintro e w9 ⟨t, rfl, h_t, k9, n9⟩
  replace h_v0 := h_v0.up n9
  replace h_v1 := h_v1.up n9
  replace h_v2 := h_v2.up n9
  replace h_s := h_s.up n9
  go_wp2_with fail
  refine (natMul_ok w _ _ (nI (a)) (nI (c)) (a * c) _ k9 h_v0 h_v2 (rMul BA.out BC.out MAC.out rfl)).mono ?_
  rintro e w10 ⟨p, rfl, h_p, k10, n10⟩
  replace h_v0 := h_v0.up n10
  replace h_v1 := h_v1.up n10
  replace h_v2 := h_v2.up n10
  replace h_s := h_s.up n10
  replace h_t := h_t.up n10
  go_wp2_with fail
  refine (natMul_ok w _ _ (nI (b)) (nI (c)) (b * c) _ k10 h_v1 h_v2 (rMul BB.out BC.out MBC.out rfl)).mono ?_
  rintro e w11 ⟨q, rfl, h_q, k11, n11⟩
  replace h_v0 := h_v0.up n11
  replace h_v1 := h_v1.up n11
  replace h_v2 := h_v2.up n11
  replace h_s := h_s.up n11
  replace h_t := h_t.up n11
  replace h_p := h_p.up n11
  go_wp2_with fail
  refine (natCompare_at w _ _ _ _ (-1) _ k11 h_s h_t (rCmp BAC.out BBC.out HA.out)).mono ?_
  rintro e w12 ⟨rfl, k12, n12⟩
  replace h_s := h_s.up n12
  replace h_t := h_t.up n12
  replace h_p := h_p.up n12
  replace h_q := h_q.up n12
  go_wp2_with fail
  refine (natCompare_at w _ _ _ _ (-1) _ k12 h_p h_q (rCmp MAC.out MBC.out HM.out)).mono ?_
  rintro e w13 ⟨rfl, k13, n13⟩
  replace h_s := h_s.up n13
  replace h_t := h_t.up n13
  replace h_p := h_p.up n13
  replace h_q := h_q.up n13
  go_wp2
  go_ret
  exact ⟨rfl, k13⟩

set_option maxRecDepth 20000 in
set_option maxHeartbeats 3200000 in
theorem order_2z (A0 A1 A2 : Option Addr) (n0 n1 n2 c0 c1 c2 : Nat) (a b c : Nat) (Z : Int) (w : World) (h_v0 : Ints w (.slice A0 n0 c0) (nI a)) (h_v1 : Ints w (.slice A1 n1 c1) (nI b)) (h_v2 : Ints w (.slice A2 n2 c2) (nI c)) (HF : Hid ((okB 20 (nI a) && (okB 20 (nI b) && okB 20 (nI c))) = true)) (BA : Hid (a < pw 128)) (BB : Hid (b < pw 128)) (BC : Hid (c < pw 128)) (BAC : Hid (a + c < pw 128)) (BBC : Hid (b + c < pw 128)) (MAC : Hid (a * c < pw 128)) (MBC : Hid (b * c < pw 128)) (HX : Hid (cmpN a b = (-1))) (HY : Hid (cmpN b c = 1)) (HZ : Hid (cmpN a c = Z)) (hc : c = 0) :
    Calls Tryd.prog 11 #[.slice A0 n0 c0, .slice A1 n1 c1, .slice A2 n2 c2] w fun e w' => e = .returned (.bool true) ∧ Below w.heap.size w w' := by
  have hlen := ints_len h_v2
  have t0 : ((n2 : Int) == 0) = true := by rw [← hlen, hc, nI_zero]; rfl
  have HXN : Hid (cmpN b a = 1) := Lib.hid (by rw [cmpN_swap, HX.out] <;> rfl)
  have HSB : Hid (decide (nI a = nI b) = false) := Lib.hid (by rw [cmpN_zero, HX.out] <;> rfl)
  have HA : Hid (cmpN (a + c) (b + c) = (-1)) := Lib.hid (by rw [cmpN_add]; exact HX.out)
  clear hlen hc
  go_enter Tryd.func11, Tryd.ntmps11
  go_wp2_with fail
  refine (awake_any _).mono ?_
  rintro e w1 ⟨rfl, n1⟩
  have k1 := n1
  replace h_v0 := h_v0.up n1
  replace h_v1 := h_v1.up n1
  replace h_v2 := h_v2.up n1
  go_wp2_with fail
  refine (valid3_at 20 (by omega) w _ _ _ _ _ _ true _ k1 h_v0 h_v1 h_v2 HF.out).mono ?_
  rintro e w2 ⟨rfl, k2, n2⟩
  replace h_v0 := h_v0.up n2
  replace h_v1 := h_v1.up n2
  replace h_v2 := h_v2.up n2
  go_wp2_with fail
  refine (natCompare_at w _ _ _ _ (-1) _ k2 h_v0 h_v1 (rCmp BA.out BB.out HX.out)).mono ?_
  rintro e w3 ⟨rfl, k3, n3⟩
  replace h_v0 := h_v0.up n3
  replace h_v1 := h_v1.up n3
  replace h_v2 := h_v2.up n3
  go_wp2_with fail
  refine (natCompare_at w _ _ _ _ 1 _ k3 h_v1 h_v2 (rCmp BB.out BC.out HY.out)).mono ?_
  rintro e w4 ⟨rfl, k4, n4⟩
  replace h_v0 := h_v0.up n4
  replace h_v1 := h_v1.up n4
  replace h_v2 := h_v2.up n4
  go_wp2_with fail
  refine (natCompare_at w _ _ _ _ Z _ k4 h_v0 h_v2 (rCmp BA.out BC.out HZ.out)).mono ?_
  rintro e w5 ⟨rfl, k5, n5⟩
  replace h_v0 := h_v0.up n5
  replace h_v1 := h_v1.up n5
  replace h_v2 := h_v2.up n5
  go_wp2_with fail
  refine (natCompare_at w _ _ _ _ 1 _ k5 h_v1 h_v0 (rCmp BB.out BA.out HXN.out)).mono ?_
  rintro e w6 ⟨rfl, k6, n6⟩
  replace h_v0 := h_v0.up n6
  replace h_v1 := h_v1.up n6
  replace h_v2 := h_v2.up n6
  go_wp2_with fail
  refine (same_at w _ _ _ _ false _ k6 h_v0 h_v1 HSB.out).mono ?_
  rintro e w7 ⟨rfl, k7, n7⟩
  replace h_v0 := h_v0.up n7
  replace h_v1 := h_v1.up n7
  replace h_v2 := h_v2.up n7
  go_wp2_with fail
  refine (natAdd_ok w _ _ (nI (a)) (nI (c)) (a + c) _ k7 h_v0 h_v2 (rAdd BA.out BC.out BAC.out rfl)).mono ?_
  rintro e w8 ⟨s, rfl, h_s, k8, n8⟩
  replace h_v0 := h_v0.up n8
  replace h_v1 := h_v1.up n8
  replace h_v2 := h_v2.up n8
  go_wp2_with fail
  refine (natAdd_ok w _ _ (nI (b)) (nI (c)) (b + c) _ k8 h_v1 h_v2 (rAdd BB.out BC.out BBC.out rfl)).mono ?_
  rintro e w9 ⟨t, rfl, h_t, k9, n9⟩
  replace h_v0 := h_v0.up n9
  replace h_v1 := h_v1.up n9
  replace h_v2 := h_v2.up n9
  replace h_s := h_s.up n9
  go_wp2_with fail
  refine (natMul_ok w _ _ (nI (a)) (nI (c)) (a * c) _ k9 h_v0 h_v2 (rMul BA.out BC.out MAC.out rfl)).mono ?_
  rintro e w10 ⟨p, rfl, h_p, k10, n10⟩
  replace h_v0 := h_v0.up n10
  replace h_v1 := h_v1.up n10
  replace h_v2 := h_v2.up n10
  replace h_s := h_s.up n10
  replace h_t := h_t.up n10
  go_wp2_with fail
  refine (natMul_ok w _ _ (nI (b)) (nI (c)) (b * c) _ k10 h_v1 h_v2 (rMul BB.out BC.out MBC.out rfl)).mono ?_
  rintro e w11 ⟨q, rfl, h_q, k11, n11⟩
  replace h_v0 := h_v0.up n11
  replace h_v1 := h_v1.up n11
  replace h_v2 := h_v2.up n11
  replace h_s := h_s.up n11
  replace h_t := h_t.up n11
  replace h_p := h_p.up n11
  go_wp2_with fail
  refine (natCompare_at w _ _ _ _ (-1) _ k11 h_s h_t (rCmp BAC.out BBC.out HA.out)).mono ?_
  rintro e w12 ⟨rfl, k12, n12⟩
  replace h_s := h_s.up n12
  replace h_t := h_t.up n12
  replace h_p := h_p.up n12
  replace h_q := h_q.up n12
  go_wp2
  go_ret
  exact ⟨rfl, k12⟩

set_option maxRecDepth 20000 in
set_option maxHeartbeats 3200000 in
theorem order_2n (A0 A1 A2 : Option Addr) (n0 n1 n2 c0 c1 c2 : Nat) (a b c : Nat) (Z : Int) (w : World) (h_v0 : Ints w (.slice A0 n0 c0) (nI a)) (h_v1 : Ints w (.slice A1 n1 c1) (nI b)) (h_v2 : Ints w (.slice A2 n2 c2) (nI c)) (HF : Hid ((okB 20 (nI a) && (okB 20 (nI b) && okB 20 (nI c))) = true)) (BA : Hid (a < pw 128)) (BB : Hid (b < pw 128)) (BC : Hid (c < pw 128)) (BAC : Hid (a + c < pw 128)) (BBC : Hid (b + c < pw 128)) (MAC : Hid (a * c < pw 128)) (MBC : Hid (b * c < pw 128)) (HX : Hid (cmpN a b = (-1))) (HY : Hid (cmpN b c = 1)) (HZ : Hid (cmpN a c = Z)) (hc : c ≠ 0) :
    Calls Tryd.prog 11 #[.slice A0 n0 c0, .slice A1 n1 c1, .slice A2 n2 c2] w fun e w' => e = .returned (.bool true) ∧ Below w.heap.size w w' := by
  have hlen := ints_len h_v2
  have t0 : ((n2 : Int) == 0) = false := beq_false_of_ne (by have := nI_ne hlen hc; omega)
  have HM : Hid (cmpN (a * c) (b * c) = (-1)) := Lib.hid (by rw [cmpN_mul hc]; exact HX.out)
  have HXN : Hid (cmpN b a = 1) := Lib.hid (by rw [cmpN_swap, HX.out] <;> rfl)
  have HSB : Hid (decide (nI a = nI b) = false) := Lib.hid (by rw [cmpN_zero, HX.out] <;> rfl)
  have HA : Hid (cmpN (a + c) (b + c) = (-1)) := Lib.hid (by rw [cmpN_add]; exact HX.out)
  clear hlen hc
  go_enter Tryd.func11, Tryd.ntmps11
  go_wp2_with fail
  refine (awake_any _).mono ?_
  rintro e w1 ⟨rfl, n1⟩
  have k1 := n1
  replace h_v0 := h_v0.up n1
  replace h_v1 := h_v1.up n1
  replace h_v2 := h_v2.up n1
  go_wp2_with fail
  refine (valid3_at 20 (by omega) w _ _ _ _ _ _ true _ k1 h_v0 h_v1 h_v2 HF.out).mono ?_
  rintro e w2 ⟨rfl, k2, n2⟩
  replace h_v0 := h_v0.up n2
  replace h_v1 := h_v1.up n2
  replace h_v2 := h_v2.up n2
  go_wp2_with fail
  refine (natCompare_at w _ _ _ _ (-1) _ k2 h_v0 h_v1 (rCmp BA.out BB.out HX.out)).mono ?_
  rintro e w3 ⟨rfl, k3, n3⟩
  replace h_v0 := h_v0.up n3
  replace h_v1 := h_v1.up n3
  replace h_v2 := h_v2.up n3
  go_wp2_with fail
  refine (natCompare_at w _ _ _ _ 1 _ k3 h_v1 h_v2 (rCmp BB.out BC.out HY.out)).mono ?_
  rintro e w4 ⟨rfl, k4, n4⟩
  replace h_v0 := h_v0.up n4
  replace h_v1 := h_v1.up n4
  replace h_v2 := h_v2.up n4
  go_wp2_with fail
  refine (natCompare_at w _ _ _ _ Z _ k4 h_v0 h_v2 (rCmp BA.out BC.out HZ.out)).mono ?_
  rintro e w5 ⟨rfl, k5, n5⟩
  replace h_v0 := h_v0.up n5
  replace h_v1 := h_v1.up n5
  replace h_v2 := h_v2.up n5
  go_wp2_with fail
  refine (natCompare_at w _ _ _ _ 1 _ k5 h_v1 h_v0 (rCmp BB.out BA.out HXN.out)).mono ?_
  rintro e w6 ⟨rfl, k6, n6⟩
  replace h_v0 := h_v0.up n6
  replace h_v1 := h_v1.up n6
  replace h_v2 := h_v2.up n6
  go_wp2_with fail
  refine (same_at w _ _ _ _ false _ k6 h_v0 h_v1 HSB.out).mono ?_
  rintro e w7 ⟨rfl, k7, n7⟩
  replace h_v0 := h_v0.up n7
  replace h_v1 := h_v1.up n7
  replace h_v2 := h_v2.up n7
  go_wp2_with fail
  refine (natAdd_ok w _ _ (nI (a)) (nI (c)) (a + c) _ k7 h_v0 h_v2 (rAdd BA.out BC.out BAC.out rfl)).mono ?_
  rintro e w8 ⟨s, rfl, h_s, k8, n8⟩
  replace h_v0 := h_v0.up n8
  replace h_v1 := h_v1.up n8
  replace h_v2 := h_v2.up n8
  go_wp2_with fail
  refine (natAdd_ok w _ _ (nI (b)) (nI (c)) (b + c) _ k8 h_v1 h_v2 (rAdd BB.out BC.out BBC.out rfl)).mono ?_
  rintro e w9 ⟨t, rfl, h_t, k9, n9⟩
  replace h_v0 := h_v0.up n9
  replace h_v1 := h_v1.up n9
  replace h_v2 := h_v2.up n9
  replace h_s := h_s.up n9
  go_wp2_with fail
  refine (natMul_ok w _ _ (nI (a)) (nI (c)) (a * c) _ k9 h_v0 h_v2 (rMul BA.out BC.out MAC.out rfl)).mono ?_
  rintro e w10 ⟨p, rfl, h_p, k10, n10⟩
  replace h_v0 := h_v0.up n10
  replace h_v1 := h_v1.up n10
  replace h_v2 := h_v2.up n10
  replace h_s := h_s.up n10
  replace h_t := h_t.up n10
  go_wp2_with fail
  refine (natMul_ok w _ _ (nI (b)) (nI (c)) (b * c) _ k10 h_v1 h_v2 (rMul BB.out BC.out MBC.out rfl)).mono ?_
  rintro e w11 ⟨q, rfl, h_q, k11, n11⟩
  replace h_v0 := h_v0.up n11
  replace h_v1 := h_v1.up n11
  replace h_v2 := h_v2.up n11
  replace h_s := h_s.up n11
  replace h_t := h_t.up n11
  replace h_p := h_p.up n11
  go_wp2_with fail
  refine (natCompare_at w _ _ _ _ (-1) _ k11 h_s h_t (rCmp BAC.out BBC.out HA.out)).mono ?_
  rintro e w12 ⟨rfl, k12, n12⟩
  replace h_s := h_s.up n12
  replace h_t := h_t.up n12
  replace h_p := h_p.up n12
  replace h_q := h_q.up n12
  go_wp2_with fail
  refine (natCompare_at w _ _ _ _ (-1) _ k12 h_p h_q (rCmp MAC.out MBC.out HM.out)).mono ?_
  rintro e w13 ⟨rfl, k13, n13⟩
  replace h_s := h_s.up n13
  replace h_t := h_t.up n13
  replace h_p := h_p.up n13
  replace h_q := h_q.up n13
  go_wp2
  go_ret
  exact ⟨rfl, k13⟩

set_option maxRecDepth 20000 in
set_option maxHeartbeats 3200000 in
theorem order_3n (A0 A1 A2 : Option Addr) (n0 n1 n2 c0 c1 c2 : Nat) (a b c : Nat) (w : World) (h_v0 : Ints w (.slice A0 n0 c0) (nI a)) (h_v1 : Ints w (.slice A1 n1 c1) (nI b)) (h_v2 : Ints w (.slice A2 n2 c2) (nI c)) (HF : Hid ((okB 20 (nI a) && (okB 20 (nI b) && okB 20 (nI c))) = true)) (BA : Hid (a < pw 128)) (BB : Hid (b < pw 128)) (BC : Hid (c < pw 128)) (BAC : Hid (a + c < pw 128)) (BBC : Hid (b + c < pw 128)) (MAC : Hid (a * c < pw 128)) (MBC : Hid (b * c < pw 128)) (HX : Hid (cmpN a b = 0)) (HY : Hid (cmpN b c = (-1))) (HZ : Hid (cmpN a c = (-1))) (hc : c ≠ 0) :
    Calls Tryd.prog 11 #[.slice A0 n0 c0, .slice A1 n1 c1, .slice A2 n2 c2] w fun e w' => e = .returned (.bool true) ∧ Below w.heap.size w w' := by
  have hlen := ints_len h_v2
  have t0 : ((n2 : Int) == 0) = false := beq_false_of_ne (by have := nI_ne hlen hc; omega)
  have HM : Hid (cmpN (a * c) (b * c) = 0) := Lib.hid (by rw [cmpN_mul hc]; exact HX.out)
  have HXN : Hid (cmpN b a = 0) := Lib.hid (by rw [cmpN_swap, HX.out] <;> rfl)
  have HSB : Hid (decide (nI a = nI b) = true) := Lib.hid (by rw [cmpN_zero, HX.out] <;> rfl)
  have HA : Hid (cmpN (a + c) (b + c) = 0) := Lib.hid (by rw [cmpN_add]; exact HX.out)
  clear hlen hc
  go_enter Tryd.func11, Tryd.ntmps11
  go_wp2_with fail
  refine (awake_any _).mono ?_
  rintro e w1 ⟨rfl, n1⟩
  have k1 := n1
  replace h_v0 := h_v0.up n1
  replace h_v1 := h_v1.up n1
  replace h_v2 := h_v2.up n1
  go_wp2_with fail
  refine (valid3_at 20 (by omega) w _ _ _ _ _ _ true _ k1 h_v0 h_v1 h_v2 HF.out).mono ?_
  rintro e w2 ⟨rfl, k2, n2⟩
  replace h_v0 := h_v0.up n2
  replace h_v1 := h_v1.up n2
  replace h_v2 := h_v2.up n2
  go_wp2_with fail
  refine (natCompare_at w _ _ _ _ 0 _ k2 h_v0 h_v1 (rCmp BA.out BB.out HX.out)).mono ?_
  rintro e w3 ⟨rfl, k3, n3⟩
  replace h_v0 := h_v0.up n3
  replace h_v1 := h_v1.up n3
  replace h_v2 := h_v2.up n3
  go_wp2_with fail
  refine (natCompare_at w _ _ _ _ (-1) _ k3 h_v1 h_v2 (rCmp BB.out BC.out HY.out)).mono ?_
  rintro e w4 ⟨rfl, k4, n4⟩
  replace h_v0 := h_v0.up n4
  replace h_v1 := h_v1.up n4
  replace h_v2 := h_v2.up n4
  go_wp2_with fail
  refine (natCompare_at w _ _ _ _ (-1) _ k4 h_v0 h_v2 (rCmp BA.out BC.out HZ.out)).mono ?_
  rintro e w5 ⟨rfl, k5, n5⟩
  replace h_v0 := h_v0.up n5
  replace h_v1 := h_v1.up n5
  replace h_v2 := h_v2.up n5
  go_wp2_with fail
  refine (natCompare_at w _ _ _ _ 0 _ k5 h_v1 h_v0 (rCmp BB.out BA.out HXN.out)).mono ?_
  rintro e w6 ⟨rfl, k6, n6⟩
  replace h_v0 := h_v0.up n6
  replace h_v1 := h_v1.up n6
  replace h_v2 := h_v2.up n6
  go_wp2_with fail
  refine (same_at w _ _ _ _ true _ k6 h_v0 h_v1 HSB.out).mono ?_
  rintro e w7 ⟨rfl, k7, n7⟩
  replace h_v0 := h_v0.up n7
  replace h_v1 := h_v1.up n7
  replace h_v2 := h_v2.up n7
  go_wp2_with fail
  refine (natAdd_ok w _ _ (nI (a)) (nI (c)) (a + c) _ k7 h_v0 h_v2 (rAdd BA.out BC.out BAC.out rfl)).mono ?_
  rintro e w8 ⟨s, rfl, h_s, k8, n8⟩
  replace h_v0 := h_v0.up n8
  replace h_v1 := h_v1.up n8
  replace h_v2 := h_v2.up n8
  go_wp2_with fail
  refine (natAdd_ok w _ _ (nI (b)) (nI (c)) (b + c) _ k8 h_v1 h_v2 (rAdd BB.out BC.out BBC.out rfl)).mono ?_
  rintro e w9 ⟨t, rfl, h_t, k9, n9⟩
  replace h_v0 := h_v0.up n9
  replace h_v1 := h_v1.up n9
  replace h_v2 := h_v2.up n9
  replace h_s := h_s.up n9
  go_wp2_with fail
  refine (natMul_ok w _ _ (nI (a)) (nI (c)) (a * c) _ k9 h_v0 h_v2 (rMul BA.out BC.out MAC.out rfl)).mono ?_
  rintro e w10 ⟨p, rfl, h_p, k10, n10⟩
  replace h_v0 := h_v0.up n10
  replace h_v1 := h_v1.up n10
  replace h_v2 := h_v2.up n10
  replace h_s := h_s.up n10
  replace h_t := h_t.up n10
  go_wp2_with fail
  refine (natMul_ok w _ _ (nI (b)) (nI (c)) (b * c) _ k10 h_v1 h_v2 (rMul BB.out BC.out MBC.out rfl)).mono ?_
  rintro e w11 ⟨q, rfl, h_q, k11, n11⟩
  replace h_v0 := h_v0.up n11
  replace h_v1 := h_v1.up n11
  replace h_v2 := h_v2.up n11
  replace h_s := h_s.up n11
  replace h_t := h_t.up n11
  replace h_p := h_p.up n11
  go_wp2_with fail
  refine (natCompare_at w _ _ _ _ 0 _ k11 h_s h_t (rCmp BAC.out BBC.out HA.out)).mono ?_
  rintro e w12 ⟨rfl, k12, n12⟩
  replace h_s := h_s.up n12
  replace h_t := h_t.up n12
  replace h_p := h_p.up n12
  replace h_q := h_q.up n12
  go_wp2_with fail
  refine (natCompare_at w _ _ _ _ 0 _ k12 h_p h_q (rCmp MAC.out MBC.out HM.out)).mono ?_
  rintro e w13 ⟨rfl, k13, n13⟩
  replace h_s := h_s.up n13
  replace h_t := h_t.up n13
  replace h_p := h_p.up n13
  replace h_q := h_q.up n13
  go_wp2
  go_ret
  exact ⟨rfl, k13⟩

set_option maxRecDepth 20000 in
set_option maxHeartbeats 3200000 in
theorem order_4z (A0 A1 A2 : Option Addr) (n0 n1 n2 c0 c1 c2 : Nat) (a b c : Nat) (w : World) (h_v0 : Ints w (.slice A0 n0 c0) (nI a)) (h_v1 : Ints w (.slice A1 n1 c1) (nI b)) (h_v2 : Ints w (.slice A2 n2 c2) (nI c)) (HF : Hid ((okB 20 (nI a) && (okB 20 (nI b) && okB 20 (nI c))) = true)) (BA : Hid (a < pw 128)) (BB : Hid (b < pw 128)) (BC : Hid (c < pw 128)) (BAC : Hid (a + c < pw 128)) (BBC : Hid (b + c < pw 128)) (MAC : Hid (a * c < pw 128)) (MBC : Hid (b * c < pw 128)) (HX : Hid (cmpN a b = 0)) (HY : Hid (cmpN b c = 0)) (HZ : Hid (cmpN a c = 0)) (hc : c = 0) :
    Calls Tryd.prog 11 #[.slice A0 n0 c0, .slice A1 n1 c1, .slice A2 n2 c2] w fun e w' => e = .returned (.bool true) ∧ Below w.heap.size w w' := by
  have hlen := ints_len h_v2
  have t0 : ((n2 : Int) == 0) = true := by rw [← hlen, hc, nI_zero]; rfl
  have HXN : Hid (cmpN b a = 0) := Lib.hid (by rw [cmpN_swap, HX.out] <;> rfl)
  have HSB : Hid (decide (nI a = nI b) = true) := Lib.hid (by rw [cmpN_zero, HX.out] <;> rfl)
  have HA : Hid (cmpN (a + c) (b + c) = 0) := Lib.hid (by rw [cmpN_add]; exact HX.out)
  clear hlen hc
  go_enter Tryd.func11, Tryd.ntmps11
  go_wp2_with fail
  refine (awake_any _).mono ?_
  rintro e w1 ⟨rfl, n1⟩
  have k1 := n1
  replace h_v0 := h_v0.up n1
  replace h_v1 := h_v1.up n1
  replace h_v2 := h_v2.up n1
  go_wp2_with fail
  refine (valid3_at 20 (by omega) w _ _ _ _ _ _ true _ k1 h_v0 h_v1 h_v2 HF.out).mono ?_
  rintro e w2 ⟨rfl, k2, n2⟩
  replace h_v0 := h_v0.up n2
  replace h_v1 := h_v1.up n2
  replace h_v2 := h_v2.up n2
  go_wp2_with fail
  refine (natCompare_at w _ _ _ _ 0 _ k2 h_v0 h_v1 (rCmp BA.out BB.out HX.out)).mono ?_
  rintro e w3 ⟨rfl, k3, n3⟩
  replace h_v0 := h_v0.up n3
  replace h_v1 := h_v1.up n3
  replace h_v2 := h_v2.up n3
  go_wp2_with fail
  refine (natCompare_at w _ _ _ _ 0 _ k3 h_v1 h_v2 (rCmp BB.out BC.out HY.out)).mono ?_
  rintro e w4 ⟨rfl, k4, n4⟩
  replace h_v0 := h_v0.up n4
  replace h_v1 := h_v1.up n4
  replace h_v2 := h_v2.up n4
  go_wp2_with fail
  refine (natCompare_at w _ _ _ _ 0 _ k4 h_v0 h_v2 (rCmp BA.out BC.out HZ.out)).mono ?_
  rintro e w5 ⟨rfl, k5, n5⟩
  replace h_v0 := h_v0.up n5
  replace h_v1 := h_v1.up n5
  replace h_v2 := h_v2.up n5
  go_wp2_with fail
  refine (natCompare_at w _ _ _ _ 0 _ k5 h_v1 h_v0 (rCmp BB.out BA.out HXN.out)).mono ?_
  rintro e w6 ⟨rfl, k6, n6⟩
  replace h_v0 := h_v0.up n6
  replace h_v1 := h_v1.up n6
  replace h_v2 := h_v2.up n6
  go_wp2_with fail
  refine (same_at w _ _ _ _ true _ k6 h_v0 h_v1 HSB.out).mono ?_
  rintro e w7 ⟨rfl, k7, n7⟩
  replace h_v0 := h_v0.up n7
  replace h_v1 := h_v1.up n7
  replace h_v2 := h_v2.up n7
  go_wp2_with fail
  refine (natAdd_ok w _ _ (nI (a)) (nI (c)) (a + c) _ k7 h_v0 h_v2 (rAdd BA.out BC.out BAC.out rfl)).mono ?_
  rintro e w8 ⟨s, rfl, h_s, k8, n8⟩
  replace h_v0 := h_v0.up n8
  replace h_v1 := h_v1.up n8
  replace h_v2 := h_v2.up n8
  go_wp2_with fail
  refine (natAdd_ok w _ _ (nI (b)) (nI (c)) (b + c) _ k8 h_v1 h_v2 (rAdd BB.out BC.out BBC.out rfl)).mono ?_
  rintro e w9 ⟨t, rfl, h_t, k9, n9⟩
  replace h_v0 := h_v0.up n9
  replace h_v1 := h_v1.up n9
  replace h_v2 := h_v2.up n9
  replace h_s := h_s.up n9
  go_wp2_with fail
  refine (natMul_ok w _ _ (nI (a)) (nI (c)) (a * c) _ k9 h_v0 h_v2 (rMul BA.out BC.out MAC.out rfl)).mono ?_
  rintro e w10 ⟨p, rfl, h_p, k10, n10⟩
  replace h_v0 := h_v0.up n10
  replace h_v1 := h_v1.up n10
  replace h_v2 := h_v2.up n10
  replace h_s := h_s.up n10
  replace h_t := h_t.up n10
  go_wp2_with fail
  refine (natMul_ok w _ _ (nI (b)) (nI (c)) (b * c) _ k10 h_v1 h_v2 (rMul BB.out BC.out MBC.out rfl)).mono ?_
  rintro e w11 ⟨q, rfl, h_q, k11, n11⟩
  replace h_v0 := h_v0.up n11
  replace h_v1 := h_v1.up n11
  replace h_v2 := h_v2.up n11
  replace h_s := h_s.up n11
  replace h_t := h_t.up n11
  replace h_p := h_p.up n11
  go_wp2_with fail
  refine (natCompare_at w _ _ _ _ 0 _ k11 h_s h_t (rCmp BAC.out BBC.out HA.out)).mono ?_
  rintro e w12 ⟨rfl, k12, n12⟩
  replace h_s := h_s.up n12
  replace h_t := h_t.up n12
  replace h_p := h_p.up n12
  replace h_q := h_q.up n12
  go_wp2
  go_ret
  exact ⟨rfl, k12⟩

set_option maxRecDepth 20000 in
set_option maxHeartbeats 3200000 in
theorem order_4n (A0 A1 A2 : Option Addr) (n0 n1 n2 c0 c1 c2 : Nat) (a b c : Nat) (w : World) (h_v0 : Ints w (.slice A0 n0 c0) (nI a)) (h_v1 : Ints w (.slice A1 n1 c1) (nI b)) (h_v2 : Ints w (.slice A2 n2 c2) (nI c)) (HF : Hid ((okB 20 (nI a) && (okB 20 (nI b) && okB 20 (nI c))) = true)) (BA : Hid (a < pw 128)) (BB : Hid (b < pw 128)) (BC : Hid (c < pw 128)) (BAC : Hid (a + c < pw 128)) (BBC : Hid (b + c < pw 128)) (MAC : Hid (a * c < pw 128)) (MBC : Hid (b * c < pw 128)) (HX : Hid (cmpN a b = 0)) (HY : Hid (cmpN b c = 0)) (HZ : Hid (cmpN a c = 0)) (hc : c ≠ 0) :
    Calls Tryd.prog 11 #[.slice A0 n0 c0, .slice A1 n1 c1, .slice A2 n2 c2] w fun e w' => e = .returned (.bool true) ∧ Below w.heap.size w w' := by
  have hlen := ints_len h_v2
  have t0 : ((n2 : Int) == 0) = false := beq_false_of_ne (by have := nI_ne hlen hc; omega)
  have HM : Hid (cmpN (a * c) (b * c) = 0) := Lib.hid (by rw [cmpN_mul hc]; exact HX.out)
  have HXN : Hid (cmpN b a = 0) := Lib.hid (by rw [cmpN_swap, HX.out] <;> rfl)
  have HSB : Hid (decide (nI a = nI b) = true) := Lib.hid (by rw [cmpN_zero, HX.out] <;> rfl)
  have HA : Hid (cmpN (a + c) (b + c) = 0) := Lib.hid (by rw [cmpN_add]; exact HX.out)
  clear hlen hc
  go_enter Tryd.func11, Tryd.ntmps11
  go_wp2_with fail
  refine (awake_any _).mono ?_
  rintro e w1 ⟨rfl, n1⟩
  have k1 := n1
  replace h_v0 := h_v0.up n1
  replace h_v1 := h_v1.up n1
  replace h_v2 := h_v2.up n1
  go_wp2_with fail
  refine (valid3_at 20 (by omega) w _ _ _ _ _ _ true _ k1 h_v0 h_v1 h_v2 HF.out).mono ?_
  rintro e w2 ⟨rfl, k2, n2⟩
  replace h_v0 := h_v0.up n2
  replace h_v1 := h_v1.up n2
  replace h_v2 := h_v2.up n2
  go_wp2_with fail
  refine (natCompare_at w _ _ _ _ 0 _ k2 h_v0 h_v1 (rCmp BA.out BB.out HX.out)).mono ?_
  rintro e w3 ⟨rfl, k3, n3⟩
  replace h_v0 := h_v0.up n3
  replace h_v1 := h_v1.up n3
  replace h_v2 := h_v2.up n3
  go_wp2_with fail
  refine (natCompare_at w _ _ _ _ 0 _ k3 h_v1 h_v2 (rCmp BB.out BC.out HY.out)).mono ?_
  rintro e w4 ⟨rfl, k4, n4⟩
  replace h_v0 := h_v0.up n4
  replace h_v1 := h_v1.up n4
  replace h_v2 := h_v2.up n4
  go_wp2_with fail
  refine (natCompare_at w _ _ _ _ 0 _ k4 h_v0 h_v2 (rCmp BA.out BC.out HZ.out)).mono ?_
  rintro e w5 ⟨rfl, k5, n5⟩
  replace h_v0 := h_v0.up n5
  replace h_v1 := h_v1.up n5
  replace h_v2 := h_v2.up n5
  go_wp2_with fail
  refine (natCompare_at w _ _ _ _ 0 _ k5 h_v1 h_v0 (rCmp BB.out BA.out HXN.out)).mono ?_
  rintro e w6 ⟨rfl, k6, n6⟩
  replace h_v0 := h_v0.up n6
  replace h_v1 := h_v1.up n6
  replace h_v2 := h_v2.up n6
  go_wp2_with fail
  refine (same_at w _ _ _ _ true _ k6 h_v0 h_v1 HSB.out).mono ?_
  rintro e w7 ⟨rfl, k7, n7⟩
  replace h_v0 := h_v0.up n7
  replace h_v1 := h_v1.up n7
  replace h_v2 := h_v2.up n7
  go_wp2_with fail
  refine (natAdd_ok w _ _ (nI (a)) (nI (c)) (a + c) _ k7 h_v0 h_v2 (rAdd BA.out BC.out BAC.out rfl)).mono ?_
  rintro e w8 ⟨s, rfl, h_s, k8, n8⟩
  replace h_v0 := h_v0.up n8
  replace h_v1 := h_v1.up n8
  replace h_v2 := h_v2.up n8
  go_wp2_with fail
  refine (natAdd_ok w _ _ (nI (b)) (nI (c)) (b + c) _ k8 h_v1 h_v2 (rAdd BB.out BC.out BBC.out rfl)).mono ?_
  rintro e w9 ⟨t, rfl, h_t, k9, n9⟩
  replace h_v0 := h_v0.up n9
  replace h_v1 := h_v1.up n9
  replace h_v2 := h_v2.up n9
  replace h_s := h_s.up n9
  go_wp2_with fail
  refine (natMul_ok w _ _ (nI (a)) (nI (c)) (a * c) _ k9 h_v0 h_v2 (rMul BA.out BC.out MAC.out rfl)).mono ?_
  rintro e w10 ⟨p, rfl, h_p, k10, n10⟩
  replace h_v0 := h_v0.up n10
  replace h_v1 := h_v1.up n10
  replace h_v2 := h_v2.up n10
  replace h_s := h_s.up n10
  replace h_t := h_t.up n10
  go_wp2_with fail
  refine (natMul_ok w _ _ (nI (b)) (nI (c)) (b * c) _ k10 h_v1 h_v2 (rMul BB.out BC.out MBC.out rfl)).mono ?_
  rintro e w11 ⟨q, rfl, h_q, k11, n11⟩
  replace h_v0 := h_v0.up n11
  replace h_v1 := h_v1.up n11
  replace h_v2 := h_v2.up n11
  replace h_s := h_s.up n11
  replace h_t := h_t.up n11
  replace h_p := h_p.up n11
  go_wp2_with fail
  refine (natCompare_at w _ _ _ _ 0 _ k11 h_s h_t (rCmp BAC.out BBC.out HA.out)).mono ?_
  rintro e w12 ⟨rfl, k12, n12⟩
  replace h_s := h_s.up n12
  replace h_t := h_t.up n12
  replace h_p := h_p.up n12
  replace h_q := h_q.up n12
  go_wp2_with fail
  refine (natCompare_at w _ _ _ _ 0 _ k12 h_p h_q (rCmp MAC.out MBC.out HM.out)).mono ?_
  rintro e w13 ⟨rfl, k13, n13⟩
  replace h_s := h_s.up n13
  replace h_t := h_t.up n13
  replace h_p := h_p.up n13
  replace h_q := h_q.up n13
  go_wp2
  go_ret
  exact ⟨rfl, k13⟩

set_option maxRecDepth 20000 in
set_option maxHeartbeats 3200000 in
theorem order_5z (A0 A1 A2 : Option Addr) (n0 n1 n2 c0 c1 c2 : Nat) (a b c : Nat) (w : World) (h_v0 : Ints w (.slice A0 n0 c0) (nI a)) (h_v1 : Ints w (.slice A1 n1 c1) (nI b)) (h_v2 : Ints w (.slice A2 n2 c2) (nI c)) (HF : Hid ((okB 20 (nI a) && (okB 20 (nI b) && okB 20 (nI c))) = true)) (BA : Hid (a < pw 128)) (BB : Hid (b < pw 128)) (BC : Hid (c < pw 128)) (BAC : Hid (a + c < pw 128)) (BBC : Hid (b + c < pw 128)) (MAC : Hid (a * c < pw 128)) (MBC : Hid (b * c < pw 128)) (HX : Hid (cmpN a b = 0)) (HY : Hid (cmpN b c = 1)) (HZ : Hid (cmpN a c = 1)) (hc : c = 0) :
    Calls Tryd.prog 11 #[.slice A0 n0 c0, .slice A1 n1 c1, .slice A2 n2 c2] w fun e w' => e = .returned (.bool true) ∧ Below w.heap.size w w' := by
  have hlen := ints_len h_v2
  have t0 : ((n2 : Int) == 0) = true := by rw [← hlen, hc, nI_zero]; rfl
  have HXN : Hid (cmpN b a = 0) := Lib.hid (by rw [cmpN_swap, HX.out] <;> rfl)
  have HSB : Hid (decide (nI a = nI b) = true) := Lib.hid (by rw [cmpN_zero, HX.out] <;> rfl)
  have HA : Hid (cmpN (a + c) (b + c) = 0) := Lib.hid (by rw [cmpN_add]; exact HX.out)
  clear hlen hc
  go_enter Tryd.func11, Tryd.ntmps11
  go_wp2_with fail
  refine (awake_any _).mono ?_
  rintro e w1 ⟨rfl, n1⟩
  have k1 := n1
  replace h_v0 := h_v0.up n1
  replace h_v1 := h_v1.up n1
  replace h_v2 := h_v2.up n1
  go_wp2_with fail
  refine (valid3_at 20 (by omega) w _ _ _ _ _ _ true _ k1 h_v0 h_v1 h_v2 HF.out).mono ?_
  rintro e w2 ⟨rfl, k2, n2⟩
  replace h_v0 := h_v0.up n2
  replace h_v1 := h_v1.up n2
  replace h_v2 := h_v2.up n2
  go_wp2_with fail
  refine (natCompare_at w _ _ _ _ 0 _ k2 h_v0 h_v1 (rCmp BA.out BB.out HX.out)).mono ?_
  rintro e w3 ⟨rfl, k3, n3⟩
  replace h_v0 := h_v0.up n3
  replace h_v1 := h_v1.up n3
  replace h_v2 := h_v2.up n3
  go_wp2_with fail
  refine (natCompare_at w _ _ _ _ 1 _ k3 h_v1 h_v2 (rCmp BB.out BC.out HY.out)).mono ?_
  rintro e w4 ⟨rfl, k4, n4⟩
  replace h_v0 := h_v0.up n4
  replace h_v1 := h_v1.up n4
  replace h_v2 := h_v2.up n4
  go_wp2_with fail
  refine (natCompare_at w _ _ _ _ 1 _ k4 h_v0 h_v2 (rCmp BA.out BC.out HZ.out)).mono ?_
  rintro e w5 ⟨rfl, k5, n5⟩
  replace h_v0 := h_v0.up n5
  replace h_v1 := h_v1.up n5
  replace h_v2 := h_v2.up n5
  go_wp2_with fail
  refine (natCompare_at w _ _ _ _ 0 _ k5 h_v1 h_v0 (rCmp BB.out BA.out HXN.out)).mono ?_
  rintro e w6 ⟨rfl, k6, n6⟩
  replace h_v0 := h_v0.up n6
  replace h_v1 := h_v1.up n6
  replace h_v2 := h_v2.up n6
  go_wp2_with fail
  refine (same_at w _ _ _ _ true _ k6 h_v0 h_v1 HSB.out).mono ?_
  rintro e w7 ⟨rfl, k7, n7⟩
  replace h_v0 := h_v0.up n7
  replace h_v1 := h_v1.up n7
  replace h_v2 := h_v2.up n7
  go_wp2_with fail
  refine (natAdd_ok w _ _ (nI (a)) (nI (c)) (a + c) _ k7 h_v0 h_v2 (rAdd BA.out BC.out BAC.out rfl)).mono ?_
  rintro e w8 ⟨s, rfl, h_s, k8, n8⟩
  replace h_v0 := h_v0.up n8
  replace h_v1 := h_v1.up n8
  replace h_v2 := h_v2.up n8
  go_wp2_with fail
  refine (natAdd_ok w _ _ (nI (b)) (nI (c)) (b + c) _ k8 h_v1 h_v2 (rAdd BB.out BC.out BBC.out rfl)).mono ?_
  rintro e w9 ⟨t, rfl, h_t, k9, n9⟩
  replace h_v0 := h_v0.up n9
  replace h_v1 := h_v1.up n9
  replace h_v2 := h_v2.up n9
  replace h_s := h_s.up n9
  go_wp2_with fail
  refine (natMul_ok w _ _ (nI (a)) (nI (c)) (a * c) _ k9 h_v0 h_v2 (rMul BA.out BC.out MAC.out rfl)).mono ?_
  rintro e w10 ⟨p, rfl, h_p, k10, n10⟩
  replace h_v0 := h_v0.up n10
  replace h_v1 := h_v1.up n10
  replace h_v2 := h_v2.up n10
  replace h_s := h_s.up n10
  replace h_t := h_t.up n10
  go_wp2_with fail
  refine (natMul_ok w _ _ (nI (b)) (nI (c)) (b * c) _ k10 h_v1 h_v2 (rMul BB.out BC.out MBC.out rfl)).mono ?_
  rintro e w11 ⟨q, rfl, h_q, k11, n11⟩
  replace h_v0 := h_v0.up n11
  replace h_v1 := h_v1.up n11
  replace h_v2 := h_v2.up n11
  replace h_s := h_s.up n11
  replace h_t := h_t.up n11
  replace h_p := h_p.up n11
  go_wp2_with fail
  refine (natCompare_at w _ _ _ _ 0 _ k11 h_s h_t (rCmp BAC.out BBC.out HA.out)).mono ?_
  rintro e w12 ⟨rfl, k12, n12⟩
  replace h_s := h_s.up n12
  replace h_t := h_t.up n12
  replace h_p := h_p.up n12
  replace h_q := h_q.up n12
  go_wp2
  go_ret
  exact ⟨rfl, k12⟩

set_option maxRecDepth 20000 in
set_option maxHeartbeats 3200000 in
theorem order_5n (A0 A1 A2 : Option Addr) (n0 n1 n2 c0 c1 c2 : Nat) (a b c : Nat) (w : World) (h_v0 : Ints w (.slice A0 n0 c0) (nI a)) (h_v1 : Ints w (.slice A1 n1 c1) (nI b)) (h_v2 : Ints w (.slice A2 n2 c2) (nI c)) (HF : Hid ((okB 20 (nI a) && (okB 20 (nI b) && okB 20 (nI c))) = true)) (BA : Hid (a < pw 128)) (BB : Hid (b < pw 128)) (BC : Hid (c < pw 128)) (BAC : Hid (a + c < pw 128)) (BBC : Hid (b + c < pw 128)) (MAC : Hid (a * c < pw 128)) (MBC : Hid (b * c < pw 128)) (HX : Hid (cmpN a b = 0)) (HY : Hid (cmpN b c = 1)) (HZ : Hid (cmpN a c = 1)) (hc : c ≠ 0) :
    Calls Tryd.prog 11 #[.slice A0 n0 c0, .slice A1 n1 c1, .slice A2 n2 c2] w fun e w' => e = .returned (.bool true) ∧ Below w.heap.size w w' := by
  have hlen := ints_len h_v2
  have t0 : ((n2 : Int) == 0) = false := beq_false_of_ne (by have := nI_ne hlen hc; omega)
  have HM : Hid (cmpN (a * c) (b * c) = 0) := Lib.hid (by rw [cmpN_mul hc]; exact HX.out)
  have HXN : Hid (cmpN b a = 0) := Lib.hid (by rw [cmpN_swap, HX.out] <;> rfl)
  have HSB : Hid (decide (nI a = nI b) = true) := Lib.hid (by rw [cmpN_zero, HX.out] <;> rfl)
  have HA : Hid (cmpN (a + c) (b + c) = 0) := Lib.hid (by rw [cmpN_add]; exact HX.out)
  clear hlen hc
  go_enter Tryd.func11, Tryd.ntmps11
  go_wp2_with fail
  refine (awake_any _).mono ?_
  rintro e w1 ⟨rfl, n1⟩
  have k1 := n1
  replace h_v0 := h_v0.up n1
  replace h_v1 := h_v1.up n1
  replace h_v2 := h_v2.up n1
  go_wp2_with fail
  refine (valid3_at 20 (by omega) w _ _ _ _ _ _ true _ k1 h_v0 h_v1 h_v2 HF.out).mono ?_
  rintro e w2 ⟨rfl, k2, n2⟩
  replace h_v0 := h_v0.up n2
  replace h_v1 := h_v1.up n2
  replace h_v2 := h_v2.up n2
  go_wp2_with fail
  refine (natCompare_at w _ _ _ _ 0 _ k2 h_v0 h_v1 (rCmp BA.out BB.out HX.out)).mono ?_
  rintro e w3 ⟨rfl, k3, n3⟩
  replace h_v0 := h_v0.up n3
  replace h_v1 := h_v1.up n3
  replace h_v2 := h_v2.up n3
  go_wp2_with fail
  refine (natCompare_at w _ _ _ _ 1 _ k3 h_v1 h_v2 (rCmp BB.out BC.out HY.out)).mono ?_
  rintro e w4 ⟨rfl, k4, n4⟩
  replace h_v0 := h_v0.up n4
  replace h_v1 := h_v1.up n4
  replace h_v2 := h_v2.up n4
  go_wp2_with fail
  refine (natCompare_at w _ _ _ _ 1 _ k4 h_v0 h_v2 (rCmp BA.out BC.out HZ.out)).mono ?_
  rintro e w5 ⟨rfl, k5, n5⟩
  replace h_v0 := h_v0.up n5
  replace h_v1 := h_v1.up n5
  replace h_v2 := h_v2.up n5
  go_wp2_with fail
  refine (natCompare_at w _ _ _ _ 0 _ k5 h_v1 h_v0 (rCmp BB.out BA.out HXN.out)).mono ?_
  rintro e w6 ⟨rfl, k6, n6⟩
  replace h_v0 := h_v0.up n6
  replace h_v1 := h_v1.up n6
  replace h_v2 := h_v2.up n6
  go_wp2_with fail
  refine (same_at w _ _ _ _ true _ k6 h_v0 h_v1 HSB.out).mono ?_
  rintro e w7 ⟨rfl, k7, n7⟩
  replace h_v0 := h_v0.up n7
  replace h_v1 := h_v1.up n7
  replace h_v2 := h_v2.up n7
  go_wp2_with fail
  refine (natAdd_ok w _ _ (nI (a)) (nI (c)) (a + c) _ k7 h_v0 h_v2 (rAdd BA.out BC.out BAC.out rfl)).mono ?_
  rintro e w8 ⟨s, rfl, h_s, k8, n8⟩
  replace h_v0 := h_v0.up n8
  replace h_v1 := h_v1.up n8
  replace h_v2 := h_v2.up n8
  go_wp2_with fail
  refine (natAdd_ok w _ _ (nI (b)) (nI (c)) (b + c) _ k8 h_v1 h_v2 (rAdd BB.out BC.out BBC.out rfl)).mono ?_
  rintro e w9 ⟨t, rfl, h_t, k9, n9⟩
  replace h_v0 := h_v0.up n9
  replace h_v1 := h_v1.up n9
  replace h_v2 := h_v2.up n9
  replace h_s := h_s.up n9
  go_wp2_with fail
  refine (natMul_ok w _ _ (nI (a)) (nI (c)) (a * c) _ k9 h_v0 h_v2 (rMul BA.out BC.out MAC.out rfl)).mono ?_
  rintro e w10 ⟨p, rfl, h_p, k10, n10⟩
  replace h_v0 := h_v0.up n10
  replace h_v1 := h_v1.up n10
  replace h_v2 := h_v2.up n10
  replace h_s := h_s.up n10
  replace h_t := h_t.up n10
  go_wp2_with fail
  refine (natMul_ok w _ _ (nI (b)) (nI (c)) (b * c) _ k10 h_v1 h_v2 (rMul BB.out BC.out MBC.out rfl)).mono ?_
  rintro e w11 ⟨q, rfl, h_q, k11, n11⟩
  replace h_v0 := h_v0.up n11
  replace h_v1 := h_v1.up n11
  replace h_v2 := h_v2.up n11
  replace h_s := h_s.up n11
  replace h_t := h_t.up n11
  replace h_p := h_p.up n11
  go_wp2_with fail
  refine (natCompare_at w _ _ _ _ 0 _ k11 h_s h_t (rCmp BAC.out BBC.out HA.out)).mono ?_
  rintro e w12 ⟨rfl, k12, n12⟩
  replace h_s := h_s.up n12
  replace h_t := h_t.up n12
  replace h_p := h_p.up n12
  replace h_q := h_q.up n12
  go_wp2_with fail
  refine (natCompare_at w _ _ _ _ 0 _ k12 h_p h_q (rCmp MAC.out MBC.out HM.out)).mono ?_
  rintro e w13 ⟨rfl, k13, n13⟩
  replace h_s := h_s.up n13
  replace h_t := h_t.up n13
  replace h_p := h_p.up n13
  replace h_q := h_q.up n13
  go_wp2
  go_ret
  exact ⟨rfl, k13⟩

set_option maxRecDepth 20000 in
set_option maxHeartbeats 3200000 in
theorem order_6z (A0 A1 A2 : Option Addr) (n0 n1 n2 c0 c1 c2 : Nat) (a b c : Nat) (Y : Int) (Z : Int) (w : World) (h_v0 : Ints w (.slice A0 n0 c0) (nI a)) (h_v1 : Ints w (.slice A1 n1 c1) (nI b)) (h_v2 : Ints w (.slice A2 n2 c2) (nI c)) (HF : Hid ((okB 20 (nI a) && (okB 20 (nI b) && okB 20 (nI c))) = true)) (BA : Hid (a < pw 128)) (BB : Hid (b < pw 128)) (BC : Hid (c < pw 128)) (BAC : Hid (a + c < pw 128)) (BBC : Hid (b + c < pw 128)) (MAC : Hid (a * c < pw 128)) (MBC : Hid (b * c < pw 128)) (HX : Hid (cmpN a b = 1)) (HY : Hid (cmpN b c = Y)) (HZ : Hid (cmpN a c = Z)) (hc : c = 0) :
    Calls Tryd.prog 11 #[.slice A0 n0 c0, .slice A1 n1 c1, .slice A2 n2 c2] w fun e w' => e = .returned (.bool true) ∧ Below w.heap.size w w' := by
  have hlen := ints_len h_v2
  have t0 : ((n2 : Int) == 0) = true := by rw [← hlen, hc, nI_zero]; rfl
  have HXN : Hid (cmpN b a = (-1)) := Lib.hid (by rw [cmpN_swap, HX.out] <;> rfl)
  have HSB : Hid (decide (nI a = nI b) = false) := Lib.hid (by rw [cmpN_zero, HX.out] <;> rfl)
  have HA : Hid (cmpN (a + c) (b + c) = 1) := Lib.hid (by rw [cmpN_add]; exact HX.out)
  clear hlen hc
  go_enter Tryd.func11, Tryd.ntmps11
  go_wp2_with fail
  refine (awake_any _).mono ?_
  rintro e w1 ⟨rfl, n1⟩
  have k1 := n1
  replace h_v0 := h_v0.up n1
  replace h_v1 := h_v1.up n1
  replace h_v2 := h_v2.up n1
  go_wp2_with fail
  refine (valid3_at 20 (by omega) w _ _ _ _ _ _ true _ k1 h_v0 h_v1 h_v2 HF.out).mono ?_
  rintro e w2 ⟨rfl, k2, n2⟩
  replace h_v0 := h_v0.up n2
  replace h_v1 := h_v1.up n2
  replace h_v2 := h_v2.up n2
  go_wp2_with fail
  refine (natCompare_at w _ _ _ _ 1 _ k2 h_v0 h_v1 (rCmp BA.out BB.out HX.out)).mono ?_
  rintro e w3 ⟨rfl, k3, n3⟩
  replace h_v0 := h_v0.up n3
  replace h_v1 := h_v1.up n3
  replace h_v2 := h_v2.up n3
  go_wp2_with fail
  refine (natCompare_at w _ _ _ _ Y _ k3 h_v1 h_v2 (rCmp BB.out BC.out HY.out)).mono ?_
  rintro e w4 ⟨rfl, k4, n4⟩
  replace h_v0 := h_v0.up n4
  replace h_v1 := h_v1.up n4
  replace h_v2 := h_v2.up n4
  go_wp2_with fail
  refine (natCompare_at w _ _ _ _ Z _ k4 h_v0 h_v2 (rCmp BA.out BC.out HZ.out)).mono ?_
  rintro e w5 ⟨rfl, k5, n5⟩
  replace h_v0 := h_v0.up n5
  replace h_v1 := h_v1.up n5
  replace h_v2 := h_v2.up n5
  go_wp2_with fail
  refine (natCompare_at w _ _ _ _ (-1) _ k5 h_v1 h_v0 (rCmp BB.out BA.out HXN.out)).mono ?_
  rintro e w6 ⟨rfl, k6, n6⟩
  replace h_v0 := h_v0.up n6
  replace h_v1 := h_v1.up n6
  replace h_v2 := h_v2.up n6
  go_wp2_with fail
  refine (same_at w _ _ _ _ false _ k6 h_v0 h_v1 HSB.out).mono ?_
  rintro e w7 ⟨rfl, k7, n7⟩
  replace h_v0 := h_v0.up n7
  replace h_v1 := h_v1.up n7
  replace h_v2 := h_v2.up n7
  go_wp2_with fail
  refine (natAdd_ok w _ _ (nI (a)) (nI (c)) (a + c) _ k7 h_v0 h_v2 (rAdd BA.out BC.out BAC.out rfl)).mono ?_
  rintro e w8 ⟨s, rfl, h_s, k8, n8⟩
  replace h_v0 := h_v0.up n8
  replace h_v1 := h_v1.up n8
  replace h_v2 := h_v2.up n8
  go_wp2_with fail
  refine (natAdd_ok w _ _ (nI (b)) (nI (c)) (b + c) _ k8 h_v1 h_v2 (rAdd BB.out BC.out BBC.out rfl)).mono ?_
  rintro e w9 ⟨t, rfl, h_t, k9, n9⟩
  replace h_v0 := h_v0.up n9
  replace h_v1 := h_v1.up n9
  replace h_v2 := h_v2.up n9
  replace h_s := h_s.up n9
  go_wp2_with fail
  refine (natMul_ok w _ _ (nI (a)) (nI (c)) (a * c) _ k9 h_v0 h_v2 (rMul BA.out BC.out MAC.out rfl)).mono ?_
  rintro e w10 ⟨p, rfl, h_p, k10, n10⟩
  replace h_v0 := h_v0.up n10
  replace h_v1 := h_v1.up n10
  replace h_v2 := h_v2.up n10
  replace h_s := h_s.up n10
  replace h_t := h_t.up n10
  go_wp2_with fail
  refine (natMul_ok w _ _ (nI (b)) (nI (c)) (b * c) _ k10 h_v1 h_v2 (rMul BB.out BC.out MBC.out rfl)).mono ?_
  rintro e w11 ⟨q, rfl, h_q, k11, n11⟩
  replace h_v0 := h_v0.up n11
  replace h_v1 := h_v1.up n11
  replace h_v2 := h_v2.up n11
  replace h_s := h_s.up n11
  replace h_t := h_t.up n11
  replace h_p := h_p.up n11
  go_wp2_with fail
  refine (natCompare_at w _ _ _ _ 1 _ k11 h_s h_t (rCmp BAC.out BBC.out HA.out)).mono ?_
  rintro e w12 ⟨rfl, k12, n12⟩
  replace h_s := h_s.up n12
  replace h_t := h_t.up n12
  replace h_p := h_p.up n12
  replace h_q := h_q.up n12
  go_wp2
  go_ret
  exact ⟨rfl, k12⟩

set_option maxRecDepth 20000 in
set_option maxHeartbeats 3200000 in
theorem order_6n (A0 A1 A2 : Option Addr) (n0 n1 n2 c0 c1 c2 : Nat) (a b c : Nat) (Y : Int) (Z : Int) (w : World) (h_v0 : Ints w (.slice A0 n0 c0) (nI a)) (h_v1 : Ints w (.slice A1 n1 c1) (nI b)) (h_v2 : Ints w (.slice A2 n2 c2) (nI c)) (HF : Hid ((okB 20 (nI a) && (okB 20 (nI b) && okB 20 (nI c))) = true)) (BA : Hid (a < pw 128)) (BB : Hid (b < pw 128)) (BC : Hid (c < pw 128)) (BAC : Hid (a + c < pw 128)) (BBC : Hid (b + c < pw 128)) (MAC : Hid (a * c < pw 128)) (MBC : Hid (b * c < pw 128)) (HX : Hid (cmpN a b = 1)) (HY : Hid (cmpN b c = Y)) (HZ : Hid (cmpN a c = Z)) (hc : c ≠ 0) :
    Calls Tryd.prog 11 #[.slice A0 n0 c0, .slice A1 n1 c1, .slice A2 n2 c2] w fun e w' => e = .returned (.bool true) ∧ Below w.heap.size w w' := by
  have hlen := ints_len h_v2
  have t0 : ((n2 : Int) == 0) = false := beq_false_of_ne (by have := nI_ne hlen hc; omega)
  have HM : Hid (cmpN (a * c) (b * c) = 1) := Lib.hid (by rw [cmpN_mul hc]; exact HX.out)
  have HXN : Hid (cmpN b a = (-1)) := Lib.hid (by rw [cmpN_swap, HX.out] <;> rfl)
  have HSB : Hid (decide (nI a = nI b) = false) := Lib.hid (by rw [cmpN_zero, HX.out] <;> rfl)
  have HA : Hid (cmpN (a + c) (b + c) = 1) := Lib.hid (by rw [cmpN_add]; exact HX.out)
  clear hlen hc
  go_enter Tryd.func11, Tryd.ntmps11
  go_wp2_with fail
  refine (awake_any _).mono ?_
  rintro e w1 ⟨rfl, n1⟩
  have k1 := n1
  replace h_v0 := h_v0.up n1
  replace h_v1 := h_v1.up n1
  replace h_v2 := h_v2.up n1
  go_wp2_with fail
  refine (valid3_at 20 (by omega) w _ _ _ _ _ _ true _ k1 h_v0 h_v1 h_v2 HF.out).mono ?_
  rintro e w2 ⟨rfl, k2, n2⟩
  replace h_v0 := h_v0.up n2
  replace h_v1 := h_v1.up n2
  replace h_v2 := h_v2.up n2
  go_wp2_with fail
  refine (natCompare_at w _ _ _ _ 1 _ k2 h_v0 h_v1 (rCmp BA.out BB.out HX.out)).mono ?_
  rintro e w3 ⟨rfl, k3, n3⟩
  replace h_v0 := h_v0.up n3
  replace h_v1 := h_v1.up n3
  replace h_v2 := h_v2.up n3
  go_wp2_with fail
  refine (natCompare_at w _ _ _ _ Y _ k3 h_v1 h_v2 (rCmp BB.out BC.out HY.out)).mono ?_
  rintro e w4 ⟨rfl, k4, n4⟩
  replace h_v0 := h_v0.up n4
  replace h_v1 := h_v1.up n4
  replace h_v2 := h_v2.up n4
  go_wp2_with fail
  refine (natCompare_at w _ _ _ _ Z _ k4 h_v0 h_v2 (rCmp BA.out BC.out HZ.out)).mono ?_
  rintro e w5 ⟨rfl, k5, n5⟩
  replace h_v0 := h_v0.up n5
  replace h_v1 := h_v1.up n5
  replace h_v2 := h_v2.up n5
  go_wp2_with fail
  refine (natCompare_at w _ _ _ _ (-1) _ k5 h_v1 h_v0 (rCmp BB.out BA.out HXN.out)).mono ?_
  rintro e w6 ⟨rfl, k6, n6⟩
  replace h_v0 := h_v0.up n6
  replace h_v1 := h_v1.up n6
  replace h_v2 := h_v2.up n6
  go_wp2_with fail
  refine (same_at w _ _ _ _ false _ k6 h_v0 h_v1 HSB.out).mono ?_
  rintro e w7 ⟨rfl, k7, n7⟩
  replace h_v0 := h_v0.up n7
  replace h_v1 := h_v1.up n7
  replace h_v2 := h_v2.up n7
  go_wp2_with fail
  refine (natAdd_ok w _ _ (nI (a)) (nI (c)) (a + c) _ k7 h_v0 h_v2 (rAdd BA.out BC.out BAC.out rfl)).mono ?_
  rintro e w8 ⟨s, rfl, h_s, k8, n8⟩
  replace h_v0 := h_v0.up n8
  replace h_v1 := h_v1.up n8
  replace h_v2 := h_v2.up n8
  go_wp2_with fail
  refine (natAdd_ok w _ _ (nI (b)) (nI (c)) (b + c) _ k8 h_v1 h_v2 (rAdd BB.out BC.out BBC.out rfl)).mono ?_
  rintro e w9 ⟨t, rfl, h_t, k9, n9⟩
  replace h_v0 := h_v0.up n9
  replace h_v1 := h_v1.up n9
  replace h_v2 := h_v2.up n9
  replace h_s := h_s.up n9
  go_wp2_with fail
  refine (natMul_ok w _ _ (nI (a)) (nI (c)) (a * c) _ k9 h_v0 h_v2 (rMul BA.out BC.out MAC.out rfl)).mono ?_
  rintro e w10 ⟨p, rfl, h_p, k10, n10⟩
  replace h_v0 := h_v0.up n10
  replace h_v1 := h_v1.up n10
  replace h_v2 := h_v2.up n10
  replace h_s := h_s.up n10
  replace h_t := h_t.up n10
  go_wp2_with fail
  refine (natMul_ok w _ _ (nI (b)) (nI (c)) (b * c) _ k10 h_v1 h_v2 (rMul BB.out BC.out MBC.out rfl)).mono ?_
  rintro e w11 ⟨q, rfl, h_q, k11, n11⟩
  replace h_v0 := h_v0.up n11
  replace h_v1 := h_v1.up n11
  replace h_v2 := h_v2.up n11
  replace h_s := h_s.up n11
  replace h_t := h_t.up n11
  replace h_p := h_p.up n11
  go_wp2_with fail
  refine (natCompare_at w _ _ _ _ 1 _ k11 h_s h_t (rCmp BAC.out BBC.out HA.out)).mono ?_
  rintro e w12 ⟨rfl, k12, n12⟩
  replace h_s := h_s.up n12
  replace h_t := h_t.up n12
  replace h_p := h_p.up n12
  replace h_q := h_q.up n12
  go_wp2_with fail
  refine (natCompare_at w _ _ _ _ 1 _ k12 h_p h_q (rCmp MAC.out MBC.out HM.out)).mono ?_
  rintro e w13 ⟨rfl, k13, n13⟩
  replace h_s := h_s.up n13
  replace h_t := h_t.up n13
  replace h_p := h_p.up n13
  replace h_q := h_q.up n13
  go_wp2
  go_ret
  exact ⟨rfl, k13⟩

set_option maxRecDepth 20000 in
set_option maxHeartbeats 3200000 in
theorem natOrder_v (A0 A1 A2 : Option Addr) (n0 n1 n2 c0 c1 c2 : Nat) (xs ys zs : List Int) (w : World) (h_v0 : Ints w (.slice A0 n0 c0) xs) (h_v1 : Ints w (.slice A1 n1 c1) ys) (h_v2 : Ints w (.slice A2 n2 c2) zs) :
    Calls Tryd.prog 11 #[.slice A0 n0 c0, .slice A1 n1 c1, .slice A2 n2 c2] w fun e w' => e = .returned (.bool true) ∧ Below w.heap.size w w' := by
  cases hf : (okB 20 xs && (okB 20 ys && okB 20 zs)) with
  | false =>
    have HF := Lib.hid hf
    clear hf
    go_enter Tryd.func11, Tryd.ntmps11
    go_wp2_with fail
    refine (awake_any _).mono ?_
    rintro e w1 ⟨rfl, n1⟩
    have k1 := n1
    replace h_v0 := h_v0.up n1
    replace h_v1 := h_v1.up n1
    replace h_v2 := h_v2.up n1
    go_wp2_with fail
    refine (valid3_at 20 (by omega) w _ _ _ xs ys zs false _ k1 h_v0 h_v1 h_v2 HF.out).mono ?_
    rintro e w2 ⟨rfl, k2, n2⟩
    replace h_v0 := h_v0.up n2
    replace h_v1 := h_v1.up n2
    replace h_v2 := h_v2.up n2
    go_wp2_with fail
    refine (awake_any _).mono ?_
    rintro e w3 ⟨rfl, n3⟩
    have k3 := below_next k2 n3
    replace h_v0 := h_v0.up n3
    replace h_v1 := h_v1.up n3
    replace h_v2 := h_v2.up n3
    go_wp2
    go_ret
    exact ⟨rfl, k3⟩
  | true =>
    have HF := Lib.hid hf
    rw [Bool.and_eq_true, Bool.and_eq_true] at hf
    obtain ⟨a, ha, rfl⟩ := ok_num hf.1 (by omega)
    obtain ⟨b, hb, rfl⟩ := ok_num hf.2.1 (by omega)
    obtain ⟨c, hc, rfl⟩ := ok_num hf.2.2 (by omega)
    have BA : Hid (a < pw 128) := Lib.hid (lt128 ha (by omega))
    have BB : Hid (b < pw 128) := Lib.hid (lt128 hb (by omega))
    have BC : Hid (c < pw 128) := Lib.hid (lt128 hc (by omega))
    have BAC : Hid (a + c < pw 128) := Lib.hid (lt128 (add_lt ha hc (Nat.le_refl _)) (by omega))
    have BBC : Hid (b + c < pw 128) := Lib.hid (lt128 (add_lt hb hc (Nat.le_refl _)) (by omega))
    have MAC : Hid (a * c < pw 128) := Lib.hid (lt128 (mul_lt ha hc) (by omega))
    have MBC : Hid (b * c < pw 128) := Lib.hid (lt128 (mul_lt hb hc) (by omega))
    clear ha hb hc hf
    by_cases h0 : c = 0
    · rcases Nat.lt_trichotomy a b with h | h | h
      · rcases Nat.lt_trichotomy b c with h2 | h2 | h2
        · omega
        · exact order_1z A0 A1 A2 n0 n1 n2 c0 c1 c2 a b c w h_v0 h_v1 h_v2 HF BA BB BC BAC BBC MAC MBC (Lib.hid (cmpN_lt (by omega))) (Lib.hid (h2 ▸ cmpN_eq b)) (Lib.hid (cmpN_lt (by omega))) h0
        · exact order_2z A0 A1 A2 n0 n1 n2 c0 c1 c2 a b c _ w h_v0 h_v1 h_v2 HF BA BB BC BAC BBC MAC MBC (Lib.hid (cmpN_lt (by omega))) (Lib.hid (cmpN_gt (by omega))) (Lib.hid (rfl)) h0
      · have hx : cmpN a b = 0 := h ▸ cmpN_eq a
        rcases Nat.lt_trichotomy b c with h2 | h2 | h2
        · omega
        · exact order_4z A0 A1 A2 n0 n1 n2 c0 c1 c2 a b c w h_v0 h_v1 h_v2 HF BA BB BC BAC BBC MAC MBC (Lib.hid (hx)) (Lib.hid (h2 ▸ cmpN_eq b)) (Lib.hid ((h.trans h2) ▸ cmpN_eq a)) h0
        · exact order_5z A0 A1 A2 n0 n1 n2 c0 c1 c2 a b c w h_v0 h_v1 h_v2 HF BA BB BC BAC BBC MAC MBC (Lib.hid (hx)) (Lib.hid (cmpN_gt (by omega))) (Lib.hid (cmpN_gt (by omega))) h0
      · exact order_6z A0 A1 A2 n0 n1 n2 c0 c1 c2 a b c _ _ w h_v0 h_v1 h_v2 HF BA BB BC BAC BBC MAC MBC (Lib.hid (cmpN_gt (by omega))) (Lib.hid (rfl)) (Lib.hid (rfl)) h0
    · rcases Nat.lt_trichotomy a b with h | h | h
      · rcases Nat.lt_trichotomy b c with h2 | h2 | h2
        · exact order_0n A0 A1 A2 n0 n1 n2 c0 c1 c2 a b c w h_v0 h_v1 h_v2 HF BA BB BC BAC BBC MAC MBC (Lib.hid (cmpN_lt (by omega))) (Lib.hid (cmpN_lt (by omega))) (Lib.hid (cmpN_lt (by omega))) h0
        · exact order_1n A0 A1 A2 n0 n1 n2 c0 c1 c2 a b c w h_v0 h_v1 h_v2 HF BA BB BC BAC BBC MAC MBC (Lib.hid (cmpN_lt (by omega))) (Lib.hid (h2 ▸ cmpN_eq b)) (Lib.hid (cmpN_lt (by omega))) h0
        · exact order_2n A0 A1 A2 n0 n1 n2 c0 c1 c2 a b c _ w h_v0 h_v1 h_v2 HF BA BB BC BAC BBC MAC MBC (Lib.hid (cmpN_lt (by omega))) (Lib.hid (cmpN_gt (by omega))) (Lib.hid (rfl)) h0
      · have hx : cmpN a b = 0 := h ▸ cmpN_eq a
        rcases Nat.lt_trichotomy b c with h2 | h2 | h2
        · exact order_3n A0 A1 A2 n0 n1 n2 c0 c1 c2 a b c w h_v0 h_v1 h_v2 HF BA BB BC BAC BBC MAC MBC (Lib.hid (hx)) (Lib.hid (cmpN_lt (by omega))) (Lib.hid (cmpN_lt (by omega))) h0
        · exact order_4n A0 A1 A2 n0 n1 n2 c0 c1 c2 a b c w h_v0 h_v1 h_v2 HF BA BB BC BAC BBC MAC MBC (Lib.hid (hx)) (Lib.hid (h2 ▸ cmpN_eq b)) (Lib.hid ((h.trans h2) ▸ cmpN_eq a)) h0
        · exact order_5n A0 A1 A2 n0 n1 n2 c0 c1 c2 a b c w h_v0 h_v1 h_v2 HF BA BB BC BAC BBC MAC MBC (Lib.hid (hx)) (Lib.hid (cmpN_gt (by omega))) (Lib.hid (cmpN_gt (by omega))) h0
      · exact order_6n A0 A1 A2 n0 n1 n2 c0 c1 c2 a b c _ _ w h_v0 h_v1 h_v2 HF BA BB BC BAC BBC MAC MBC (Lib.hid (cmpN_gt (by omega))) (Lib.hid (rfl)) (Lib.hid (rfl)) h0

end Go.Proofs.YtheadamdhjhnpaaDoor
