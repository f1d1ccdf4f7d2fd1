/-
  The body of the statement RepertoireEncode.
-/
import Derived.Test.YtidbkllhlllnnaaDoorAwake
namespace Go.Proofs.YtidbkllhlllnnaaDoor
open Go.RowKit

theorem all_range {xs : List Int} (h : xs.all hasR = true) : castL (xs.map Int.toNat) = xs := by
  unfold castL
  rw [List.map_map]
  conv => rhs; rw [← List.map_id xs]
  refine List.map_congr_left fun x hx => ?_
  have h1 := has_range (List.all_eq_true.1 h x hx)
  show ((x.toNat : Nat) : Int) = x
  omega
theorem all_ok {xs : List Int} (h : xs.all hasR = true) : ∀ c ∈ xs.map Int.toNat, okC c := by
  intro c hc
  obtain ⟨x, hx, rfl⟩ := List.mem_map.1 hc
  have h1 := List.all_eq_true.1 h x hx
  have h2 := has_range h1
  refine ⟨by omega, ?_⟩
  rw [show ((x.toNat : Nat) : Int) = x by omega]
  exact has_kind.1 h1
theorem encR_back {xs : List Int} {b : List UInt8} (h : encR xs = some b) : decR b = some (xs.map Int.toNat) ∧ castL (xs.map Int.toNat) = xs ∧ b.length ≤ 3 * xs.length := by
  unfold encR at h
  split at h
  · rename_i ha
    injection h with h
    subst h
    exact ⟨dec_enc _ (all_ok ha), all_range ha, encI_len xs⟩
  · cases h

set_option maxRecDepth 20000 in
set_option maxHeartbeats 3200000 in
theorem repEncode_v (A : Option Addr) (n c : Nat) (xs : List Int) (w : World) (hS : Spans w) (h_v : Ints w (.slice A n c) xs) :
    Calls Tryd.prog 5 #[.slice A n c] w fun e w' => e = .returned (.bool true) ∧ Below w.heap.size w w' := by
  have HL := Lib.hid h_v.len
  by_cases h5 : 200 < n
  · have t1 : decide (200 < (n : Int)) = true := by simp; omega
    go_enter Tryd.func5, Tryd.ntmps5
    go_wp2_with fail
    refine (awake_any _ hS).mono ?_
    rintro e w1 ⟨rfl, n1⟩
    have k1 := n1
    go_wp2
    go_ret
    exact ⟨rfl, k1⟩
  · have t1 : decide (200 < (n : Int)) = false := by simp; omega
    have HX : Hid (xs.length ≤ 10000) := Lib.hid (by have := HL.out; omega)
    cases hr : encR xs with
    | none =>
      have HR := Lib.hid hr
      clear hr
      go_enter Tryd.func5, Tryd.ntmps5
      go_wp2_with fail
      refine (awake_any _ hS).mono ?_
      rintro e w1 ⟨rfl, n1⟩
      have k1 := n1
      replace h_v := h_v.up n1
      go_wp2_with fail
      refine (prEncode_at w hS _ xs _ _ k1 h_v HX.out HR.out).mono ?_
      rintro e w2 ⟨rfl, k2, n2⟩
      replace h_v := h_v.up n2
      go_wp2_with fail
      refine (refEncode_at w _ xs _ _ k2 h_v HX.out HR.out).mono ?_
      rintro e w3 ⟨rfl, k3, n3⟩
      go_wp2_with fail
      refine (prDecode_at w hS [] _ _ k3 (by decide) decR_nil).mono ?_
      rintro e w4 ⟨u1, rfl, h_u1, k4, n4⟩
      go_wp2
      go_ret
      exact ⟨rfl, k4⟩
    | some b =>
      have HR := Lib.hid hr
      obtain ⟨hb1, hb2, hb3⟩ := encR_back hr
      have HB := Lib.hid hb1
      have HE : Hid (resL (some (xs.map Int.toNat)) = xs) := Lib.hid hb2
      have hbl : b.length ≤ 10000 := by have := HL.out; omega
      clear hr hb1 hb2 hb3
      go_enter Tryd.func5, Tryd.ntmps5
      go_wp2_with fail
      refine (awake_any _ hS).mono ?_
      rintro e w1 ⟨rfl, n1⟩
      have k1 := n1
      replace h_v := h_v.up n1
      go_wp2_with fail
      refine (prEncode_at w hS _ xs _ _ k1 h_v HX.out HR.out).mono ?_
      rintro e w2 ⟨rfl, k2, n2⟩
      replace h_v := h_v.up n2
      go_wp2_with fail
      refine (refEncode_at w _ xs _ _ k2 h_v HX.out HR.out).mono ?_
      rintro e w3 ⟨rfl, k3, n3⟩
      replace h_v := h_v.up n3
      go_wp2_with fail
      refine (prDecode_at w hS b _ _ k3 hbl HB.out).mono ?_
      rintro e w4 ⟨u1, rfl, h_u1, k4, n4⟩
      replace h_v := h_v.up n4
      rw [HE.out] at h_u1
      go_wp2_with fail
      refine (same_at w _ _ _ _ true _ k4 h_u1 h_v (decide_eq_true rfl)).mono ?_
      rintro e w5 ⟨rfl, k5, n5⟩
      go_wp2
      go_ret
      exact ⟨rfl, k5⟩

end Go.Proofs.YtidbkllhlllnnaaDoor
