/-
  The body of the statement DigestParts.
-/
import Derived.Test.YtjmmhgdafjdmdaaJoinLaw
namespace Go.Proofs.Ytjmmhgdafjdmdaa
open Go.RowKit

theorem own_empty (w : World) : (w.alloc (.cells #[] 5)).ownsRow w.heap.size 5 1 (.slice (some ⟨w.heap.size, 0, none⟩) 0 0) ([] : List UInt8).length (([] : List UInt8).map bv) :=
  ⟨by simp, .inr ⟨w.heap.size, 0, _, rfl, Nat.le_refl _, heap_alloc_new w _, Nat.le_refl _, by unfold maxLen; omega, by simp, by simp⟩⟩

set_option maxHeartbeats 800000 in
theorem behind_any (v v' : Value) (a b : List UInt8) (B B' : Nat) (w : World) (h : Sl w B v a) (h' : Sl w B' v' b) (hB : B ≤ w.heap.size) (hB' : B' ≤ w.heap.size) (hlen : a.length + b.length ≤ 100000000000) :
    Calls Try.prog 26 #[v, v'] w fun e w' => ∃ r, e = .returned r ∧ w'.ownsRow w.heap.size 5 1 r (a ++ b).length ((a ++ b).map bv) ∧ Below w.heap.size w w' := by
  go_enter Try.func26, Try.ntmps26
  have h1 : Sl (w.alloc (.cells #[] 5)) B v a := h.below ((Below.refl _ _).alloc hB _)
  go_wp2_with (first | (at_builtin; refine append_bytes _ rfl (.tmp 5) (.tmp 6) rfl w.heap.size B (.slice (some ⟨w.heap.size, 0, none⟩) 0 0) [] rfl (own_empty w) a v rfl h1 (by simp; omega) (by simp) ?_; intro r1 w1 hown1 hb1) | (at_builtin; refine append_bytes _ rfl (.tmp 7) (.tmp 8) rfl w.heap.size B' r1 ([] ++ a) rfl hown1 b v' rfl ((h'.below ((Below.refl _ _).alloc hB' _)).below (hb1.mono hB')) (by simp; omega) (by have := hb1.size; simp at this; omega) ?_; intro r2 w2 hown2 hb2))
  go_ret
  exact ⟨_, rfl, hown2, ((Below.refl _ _).alloc (Nat.le_refl _) _).trans (hb1.trans hb2)⟩

theorem more_crc (a b : List UInt8) : more (crc a) b = crc (a ++ b) := by rw [← more_zero, more_append, more_zero]

/-- What stands below the call's base is read as before. -/
theorem Sl.at {w w' : World} {v : Value} {bs : List UInt8} (h : Sl w w.heap.size v bs) (hb : Below w.heap.size w w') : Sl w' w.heap.size v bs := h.below hb

set_option maxRecDepth 100000 in
set_option maxHeartbeats 1600000 in
theorem digestParts_any (A A' : Option Addr) (c c' : Nat) (a b : List UInt8) (w : World) (h : Sl w w.heap.size (.slice A a.length c) a) (h' : Sl w w.heap.size (.slice A' b.length c') b) (ha : a.length ≤ 9223372036854775807) (hb : b.length ≤ 9223372036854775807) :
    Calls Try.prog 7 #[.slice A a.length c, .slice A' b.length c'] w fun e w' => e = .returned (.bool true) ∧ Below w.heap.size w w' := by
  go_enter Try.func7, Try.ntmps7
  go_wp2_with fail
  refine (awake_any _).mono ?_
  rintro e w1 ⟨rfl, hb1⟩
  by_cases ha3 : a.length ≤ 300
  · by_cases hb3 : b.length ≤ 300
    · have t1 : decide (300 < (a.length : Int)) = false := by simp; omega
      have t2 : decide (300 < (b.length : Int)) = false := by simp; omega
      go_wp2_with fail
      refine (behind_any _ _ a b _ _ _ (h.at hb1) (h'.at hb1) hb1.size hb1.size (by omega)).mono ?_
      rintro e w2 ⟨r, rfl, hown, hb2⟩
      have k2 := hb1.trans (hb2.mono hb1.size)
      have hs2 := Sl.of_own hown
      clear hown
      go_wp2_with fail
      refine (of_any _ _ _ _ hs2 (Nat.le_refl _) (by rw [List.length_append]; omega)).mono ?_
      rintro e w3 ⟨rfl, hb3⟩
      have k3 := k2.trans (hb3.mono k2.size)
      clear hs2
      go_wp2_with fail
      refine (of_any _ a _ _ (h.at k3) k3.size (by omega)).mono ?_
      rintro e w4 ⟨rfl, hb4⟩
      have k4 := k3.trans (hb4.mono k3.size)
      go_wp2_with fail
      refine (more_any (crc a) _ b _ _ (h'.at k4) k4.size (by omega)).mono ?_
      rintro e w5 ⟨rfl, hb5⟩
      have k5 := k4.trans (hb5.mono k4.size)
      rw [more_crc]
      go_wp2_with fail
      refine (of_any _ a _ _ (h.at k5) k5.size (by omega)).mono ?_
      rintro e w6 ⟨rfl, hb6⟩
      have k6 := k5.trans (hb6.mono k5.size)
      go_wp2_with fail
      refine (of_any _ b _ _ (h'.at k6) k6.size (by omega)).mono ?_
      rintro e w7 ⟨rfl, hb7⟩
      have k7 := k6.trans (hb7.mono k6.size)
      go_wp2_with fail
      refine (join_any (crc a) (crc b) b.length _ (by omega)).mono ?_
      rintro e w8 ⟨rfl, hb8⟩
      have k8 := k7.trans (hb8.mono k7.size)
      rw [crc_append]
      go_wp2_with fail
      refine (of_any _ a _ _ (h.at k8) k8.size (by omega)).mono ?_
      rintro e w9 ⟨rfl, hb9⟩
      have k9 := k8.trans (hb9.mono k8.size)
      go_wp2_with fail
      refine (more_any (crc a) _ [] _ _ (Sl.nil_ _ 0) (by omega) (by simp)).mono ?_
      rintro e w10 ⟨rfl, hb10⟩
      have k10 := k9.trans (hb10.mono k9.size)
      rw [more_crc, List.append_nil]
      go_wp2_with fail
      refine (of_any _ a _ _ (h.at k10) k10.size (by omega)).mono ?_
      rintro e w11 ⟨rfl, hb11⟩
      have k11 := k10.trans (hb11.mono k10.size)
      go_wp2
      go_ret
      exact ⟨rfl, k11⟩
    · have t1 : decide (300 < (a.length : Int)) = false := by simp; omega
      have t2 : decide (300 < (b.length : Int)) = true := by simp; omega
      go_wp2
      go_ret
      exact ⟨rfl, hb1⟩
  · have t1 : decide (300 < (a.length : Int)) = true := by simp; omega
    go_wp2
    go_ret
    exact ⟨rfl, hb1⟩

theorem digestParts_at (A A' : Option Addr) (c c' n n' : Nat) (a b : List UInt8) (w : World) (h : Sl w w.heap.size (.slice A n c) a) (h' : Sl w w.heap.size (.slice A' n' c') b) (hn : a.length = n) (hn' : b.length = n') (ha : n ≤ 9223372036854775807) (hb : n' ≤ 9223372036854775807) :
    Calls Try.prog 7 #[.slice A n c, .slice A' n' c'] w fun e w' => e = .returned (.bool true) ∧ Below w.heap.size w w' := by
  subst hn hn'
  exact digestParts_any A A' c c' a b w h h' ha hb

end Go.Proofs.Ytjmmhgdafjdmdaa
