/-
  The body of the statement RepertoireDecode.
-/
import Derived.Test.YtidbkllhlllnnaaDoorAwake
namespace Go.Proofs.YtidbkllhlllnnaaDoor
open Go.RowKit

set_option maxRecDepth 20000 in
set_option maxHeartbeats 3200000 in
theorem repDecode_v (s : List UInt8) (w : World) (hS : Spans w) (hlen : s.length ≤ 9223372036854775807) :
    Calls Tryd.prog 4 #[.string (str s)] w fun e w' => e = .returned (.bool true) ∧ Below w.heap.size w w' := by
  have hsz : (str s).size = s.length := rfl
  by_cases h5 : 500 < s.length
  · have t1 : decide (500 < (s.length : Int)) = true := by simp; omega
    go_enter Tryd.func4, Tryd.ntmps4
    go_wp2_with fail
    refine (awake_any _ hS).mono ?_
    rintro e w1 ⟨rfl, n1⟩
    have k1 := n1
    go_wp2
    go_ret
    exact ⟨rfl, k1⟩
  · have t1 : decide (500 < (s.length : Int)) = false := by simp; omega
    obtain ⟨r, HR⟩ : ∃ r, Hid (decR s = r) := ⟨_, Lib.hid rfl⟩
    obtain ⟨v, HV⟩ : ∃ r, Hid (validR s = r) := ⟨_, Lib.hid rfl⟩
    obtain ⟨sc, HS⟩ : ∃ r, Hid (scriptR s = r) := ⟨_, Lib.hid rfl⟩
    have HC : Hid (countR s = (resL r).length) := Lib.hid (by
      cases hr : r with
      | none => rw [countR_none (HR.out.trans hr)]; rfl
      | some l => rw [countR_some (HR.out.trans hr)]; exact (castL_len l).symm)
    have hs : s.length ≤ 10000 := by omega
    go_enter Tryd.func4, Tryd.ntmps4
    go_wp2_with fail
    refine (awake_any _ hS).mono ?_
    rintro e w1 ⟨rfl, n1⟩
    have k1 := n1
    go_wp2_with fail
    refine (prDecode_at w hS s r _ k1 hs HR.out).mono ?_
    rintro e w2 ⟨u1, rfl, h_u1, k2, n2⟩
    go_wp2_with fail
    refine (refDecode_at w s r _ k2 hs HR.out).mono ?_
    rintro e w3 ⟨u2, rfl, h_u2, k3, n3⟩
    replace h_u1 := h_u1.up n3
    obtain ⟨A2, m2, c2, rfl, hm2, ha2⟩ := h_u2
    have h_u2 : Ints w3 (.slice A2 m2 c2) (resL r) := ⟨_, _, _, rfl, hm2, ha2⟩
    have HL : Hid ((resL r).length = m2) := Lib.hid h_u2.len
    clear ha2
    go_wp2_with fail
    refine (same_at w _ _ _ _ true _ k3 h_u1 h_u2 (decide_eq_true rfl)).mono ?_
    rintro e w4 ⟨rfl, k4, n4⟩
    go_wp2_with fail
    refine (prCount_at w hS s m2 _ k4 hs (HC.out.trans HL.out)).mono ?_
    rintro e w5 ⟨rfl, k5, n5⟩
    go_wp2_with fail
    refine (prValid_at w hS s v _ k5 hs HV.out).mono ?_
    rintro e w6 ⟨rfl, k6, n6⟩
    go_wp2_with fail
    refine (refValid_at w s v _ k6 hs HV.out).mono ?_
    rintro e w7 ⟨rfl, k7, n7⟩
    go_wp2_with fail
    refine (prScript_at w hS s sc _ k7 HS.out).mono ?_
    rintro e w8 ⟨rfl, k8, n8⟩
    go_wp2_with fail
    refine (refScript_at w s sc _ k8 hs HS.out).mono ?_
    rintro e w9 ⟨rfl, k9, n9⟩
    go_wp2
    go_ret
    exact ⟨rfl, k9⟩

end Go.Proofs.YtidbkllhlllnnaaDoor
