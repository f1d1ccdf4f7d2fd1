/-
  math/bits.Len at small numbers.
-/
import Derived.Test.YtheadamdhjhnpaaDoorCompare
import Derived.Test.YtheadamdhjhnpaaDoorRefInt
namespace Go.Proofs.YtheadamdhjhnpaaDoor
open Go.RowKit

theorem lb_256 {x : Nat} (h : 256 ≤ x) : lb x = lb (x / 256) + 8 := by
  have e : x = x % 256 + 2 ^ 8 * (x / 256) := by omega
  conv => lhs; rw [e]
  rw [lb_shift (x / 256) (by omega) 8 (x % 256) (by omega)]
  omega

/-- The same with fuel. -/
def lbf : Nat → Nat → Nat
  | 0, _ => 0
  | f + 1, n => if n = 0 then 0 else lbf f (n / 2) + 1
theorem lbf_eq : ∀ (f n : Nat), n < 2 ^ f → lbf f n = lb n
  | 0, n, h => by
    rw [Nat.pow_zero] at h
    obtain rfl : n = 0 := by omega
    rw [lb_zero]; rfl
  | f + 1, n, h => by
    by_cases h0 : n = 0
    · subst h0; rw [lb_zero]; rfl
    · rw [lb_pos h0, lbf, if_neg h0, lbf_eq f (n / 2) (by rw [Nat.pow_succ] at h; omega)]
def lenTab : ByteArray := { data := #[0, 1, 2, 2, 3, 3, 3, 3, 4, 4, 4, 4, 4, 4, 4, 4, 5, 5, 5, 5, 5, 5, 5, 5, 5, 5, 5, 5, 5, 5, 5, 5, 6, 6, 6, 6, 6, 6, 6, 6, 6, 6, 6, 6, 6, 6, 6, 6, 6, 6, 6, 6, 6, 6, 6, 6, 6, 6, 6, 6, 6, 6, 6, 6, 7, 7, 7, 7, 7, 7, 7, 7, 7, 7, 7, 7, 7, 7, 7, 7, 7, 7, 7, 7, 7, 7, 7, 7, 7, 7, 7, 7, 7, 7, 7, 7, 7, 7, 7, 7, 7, 7, 7, 7, 7, 7, 7, 7, 7, 7, 7, 7, 7, 7, 7, 7, 7, 7, 7, 7, 7, 7, 7, 7, 7, 7, 7, 7, 8, 8, 8, 8, 8, 8, 8, 8, 8, 8, 8, 8, 8, 8, 8, 8, 8, 8, 8, 8, 8, 8, 8, 8, 8, 8, 8, 8, 8, 8, 8, 8, 8, 8, 8, 8, 8, 8, 8, 8, 8, 8, 8, 8, 8, 8, 8, 8, 8, 8, 8, 8, 8, 8, 8, 8, 8, 8, 8, 8, 8, 8, 8, 8, 8, 8, 8, 8, 8, 8, 8, 8, 8, 8, 8, 8, 8, 8, 8, 8, 8, 8, 8, 8, 8, 8, 8, 8, 8, 8, 8, 8, 8, 8, 8, 8, 8, 8, 8, 8, 8, 8, 8, 8, 8, 8, 8, 8, 8, 8, 8, 8, 8, 8, 8, 8, 8, 8, 8, 8, 8, 8, 8, 8, 8, 8, 8, 8] }
theorem lenTab_size : lenTab.size = 256 := by decide +kernel
theorem lenTab_all : (List.range 256).all (fun k => lenTab.data.toList[k]?.map (·.toNat) == some (lbf 8 k)) = true := by decide +kernel
theorem lenTab_lb (k : Nat) (h : k < lenTab.size) : (lenTab[k]'h).toNat = lb k := by
  have h2 : k < 256 := by rw [lenTab_size] at h; exact h
  have h1 := List.all_eq_true.1 lenTab_all k (List.mem_range.2 h2)
  have h3 : lenTab.data.toList[k]? = some (lenTab[k]'h) := by
    rw [List.getElem?_eq_getElem (by simpa using h)]
    rfl
  rw [h3, lbf_eq 8 k (by omega)] at h1
  simpa using h1
theorem len_end8 {u : UInt8} {x : Nat} (hx : x < 65536) (h : 256 ≤ x) (hu : u.toNat = lb (x / 256)) : Ending.returned (.int .i64 (wrap64 (8 + wrap64 (u.toNat : Int)))) = Ending.returned (.int .i64 (lb x : Int)) := by
  have h1 : lb (x / 256) ≤ 8 := lb_le.2 (by omega)
  rw [lb_256 h, hu]
  have e1 : wrap64 ((lb (x / 256) : Nat) : Int) = (lb (x / 256) : Int) := by unfold wrap64; omega
  have e2 : wrap64 (8 + (lb (x / 256) : Int)) = 8 + (lb (x / 256) : Int) := by unfold wrap64; omega
  rw [e1, e2]
  exact ret_int (by omega)
theorem len_end {u : UInt8} {x : Nat} (hx : x < 256) (hu : u.toNat = lb x) : Ending.returned (.int .i64 (wrap64 (wrap64 (u.toNat : Int)))) = Ending.returned (.int .i64 (lb x : Int)) := by
  have h1 : lb x ≤ 8 := lb_le.2 (by omega)
  rw [hu]
  have e1 : wrap64 ((lb x : Nat) : Int) = (lb x : Int) := by unfold wrap64; omega
  rw [e1, e1]

set_option maxRecDepth 20000 in
set_option maxHeartbeats 1600000 in
theorem len64_any (x : Nat) (hx : x < 65536) (w : World) :
    Calls Tryd.prog 68 #[.int .u64 (x : Int)] w fun e w' => e = .returned (.int .i64 (lb x : Int)) ∧ w = w' := by
  have t1 : decide (4294967296 ≤ (x : Int)) = false := by simp; omega
  have t2 : decide (65536 ≤ (x : Int)) = false := by simp; omega
  by_cases h : 256 ≤ x
  · have t3 : decide (256 ≤ (x : Int)) = true := by simp; omega
    go_enter Tryd.func68, Tryd.ntmps68
    go_wp2
    go_ret
    exact ⟨len_end8 hx h (lenTab_lb _ _), rfl⟩
  · have t3 : decide (256 ≤ (x : Int)) = false := by simp; omega
    go_enter Tryd.func68, Tryd.ntmps68
    go_wp2
    go_ret
    exact ⟨len_end (by omega) (lenTab_lb _ _), rfl⟩

set_option maxHeartbeats 800000 in
theorem len_any (x : Nat) (hx : x < 65536) (w : World) :
    Calls Tryd.prog 48 #[.int .u64 (x : Int)] w fun e w' => e = .returned (.int .i64 (lb x : Int)) ∧ w = w' := by
  go_enter Tryd.func48, Tryd.ntmps48
  go_wp2_with fail
  refine (len64_any x hx _).mono ?_
  rintro e w1 ⟨rfl, rfl⟩
  go_wp2
  go_ret
  exact ⟨rfl, rfl⟩

end Go.Proofs.YtheadamdhjhnpaaDoor
