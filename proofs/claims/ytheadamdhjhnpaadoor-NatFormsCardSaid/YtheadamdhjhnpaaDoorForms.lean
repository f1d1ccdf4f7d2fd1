/-
  The body of the statement NatForms.
-/
import Derived.Test.YtheadamdhjhnpaaDoorAwake
namespace Go.Proofs.YtheadamdhjhnpaaDoor
open Go.RowKit

set_option maxRecDepth 20000 in
set_option maxHeartbeats 3200000 in
theorem natForms_v (p : Int) (hp : p ≤ 9223372036854775807) (v0 v1 : Value) (xs ys : List Int) (w : World) (h_v0 : Ints w v0 xs) (h_v1 : Ints w v1 ys) :
    Calls Tryd.prog 3 #[.int .i64 p, v0, v1] w fun e w' => e = .returned (.bool true) ∧ Below w.heap.size w w' := by
  cases hf : (fewB xs.length && fewB ys.length) with
  | false =>
    have HF := Lib.hid hf
    clear hf
    go_enter Tryd.func3, Tryd.ntmps3
    go_wp2_with fail
    refine (awake_any _).mono ?_
    rintro e w1 ⟨rfl, n1⟩
    have k1 := n1
    replace h_v0 := h_v0.up n1
    replace h_v1 := h_v1.up n1
    go_wp2_with fail
    refine (few_at v0 v1 xs ys false _ h_v0 h_v1 HF.out).mono ?_
    rintro e w' ⟨rfl, rfl⟩
    go_wp2_with fail
    refine (awake_any _).mono ?_
    rintro e w2 ⟨rfl, n2⟩
    have k2 := below_next k1 n2
    replace h_v0 := h_v0.up n2
    replace h_v1 := h_v1.up n2
    go_wp2
    go_ret
    exact ⟨rfl, k2⟩
  | true =>
    have HF := Lib.hid hf
    clear hf
    obtain ⟨ro, HRO⟩ : ∃ r, Hid (ofR p = r) := ⟨_, Lib.hid rfl⟩
    obtain ⟨ri, HRI⟩ : ∃ r, Hid (intR (numOf xs) = r) := ⟨_, Lib.hid rfl⟩
    obtain ⟨rv, HRV⟩ : ∃ r, Hid (validB xs = r) := ⟨_, Lib.hid rfl⟩
    obtain ⟨rc, HRC⟩ : ∃ r, Hid (cmpR (numOf xs) (numOf ys) = r) := ⟨_, Lib.hid rfl⟩
    obtain ⟨rb, HRB⟩ : ∃ r, Hid (bitsR (numOf xs) = r) := ⟨_, Lib.hid rfl⟩
    go_enter Tryd.func3, Tryd.ntmps3
    go_wp2_with fail
    refine (awake_any _).mono ?_
    rintro e w1 ⟨rfl, n1⟩
    have k1 := n1
    replace h_v0 := h_v0.up n1
    replace h_v1 := h_v1.up n1
    go_wp2_with fail
    refine (few_at v0 v1 xs ys true _ h_v0 h_v1 HF.out).mono ?_
    rintro e w' ⟨rfl, rfl⟩
    go_wp2_with fail
    refine (natOf_at w p hp ro _ k1 HRO.out).mono ?_
    rintro e w2 ⟨u1, rfl, h_u1, k2, n2⟩
    replace h_v0 := h_v0.up n2
    replace h_v1 := h_v1.up n2
    go_wp2_with fail
    refine (refOf_at w p hp ro _ k2 HRO.out).mono ?_
    rintro e w3 ⟨u2, rfl, h_u2, k3, n3⟩
    replace h_v0 := h_v0.up n3
    replace h_v1 := h_v1.up n3
    replace h_u1 := h_u1.up n3
    go_wp2_with fail
    refine (natInt_at v0 xs ri _ h_v0 HRI.out).mono ?_
    rintro e w' ⟨rfl, rfl⟩
    go_wp2_with fail
    refine (refInt_at v0 xs ri _ h_v0 HRI.out).mono ?_
    rintro e w' ⟨rfl, rfl⟩
    go_wp2_with fail
    refine (same_refl w _ _ _ _ k3 h_u1 h_u2).mono ?_
    rintro e w4 ⟨rfl, k4, n4⟩
    replace h_v0 := h_v0.up n4
    replace h_v1 := h_v1.up n4
    replace h_u1 := h_u1.up n4
    replace h_u2 := h_u2.up n4
    go_wp2_with fail
    refine (natValid_at v0 xs rv _ h_v0 HRV.out).mono ?_
    rintro e w' ⟨rfl, rfl⟩
    go_wp2_with fail
    refine (refValid_at v0 xs rv _ h_v0 HRV.out).mono ?_
    rintro e w' ⟨rfl, rfl⟩
    go_wp2_with fail
    refine (natCompare_at w v0 v1 xs ys rc _ k4 h_v0 h_v1 HRC.out).mono ?_
    rintro e w5 ⟨rfl, k5, n5⟩
    replace h_v0 := h_v0.up n5
    replace h_v1 := h_v1.up n5
    go_wp2_with fail
    refine (refCompare_at w v0 v1 xs ys rc _ k5 h_v0 h_v1 HRC.out).mono ?_
    rintro e w6 ⟨rfl, k6, n6⟩
    replace h_v0 := h_v0.up n6
    replace h_v1 := h_v1.up n6
    go_wp2_with fail
    refine (natBits_at v0 xs rb _ h_v0 HRB.out).mono ?_
    rintro e w' ⟨rfl, rfl⟩
    go_wp2_with fail
    refine (refBits_at v0 xs rb _ h_v0 HRB.out).mono ?_
    rintro e w' ⟨rfl, rfl⟩
    go_wp2
    go_ret
    exact ⟨rfl, k6⟩

end Go.Proofs.YtheadamdhjhnpaaDoor
