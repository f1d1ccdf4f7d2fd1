/-
  The reference's Bits and Int.
-/
import Derived.Test.YtheadamdhjhnpaaDoorRefPower
namespace Go.Proofs.YtheadamdhjhnpaaDoor
open Go.RowKit

/-- The number of binary digits. -/
def lb (n : Nat) : Nat := if n = 0 then 0 else lb (n / 2) + 1
termination_by n
decreasing_by omega
theorem lb_zero : lb 0 = 0 := by rw [lb]; simp
theorem lb_pos {n : Nat} (h : n ≠ 0) : lb n = lb (n / 2) + 1 := by rw [lb]; simp [h]
theorem lb_le {k n : Nat} : lb n ≤ k ↔ n < 2 ^ k := by
  induction k generalizing n with
  | zero =>
    rw [Nat.pow_zero]
    by_cases h : n = 0
    · subst h; rw [lb_zero]; omega
    · rw [lb_pos h]; omega
  | succ k ih =>
    by_cases h : n = 0
    · subst h; rw [lb_zero]; exact ⟨fun _ => Nat.pow_pos (by omega), fun _ => by omega⟩
    · rw [lb_pos h, Nat.pow_succ]
      have := ih (n := n / 2)
      constructor
      · intro h1
        have := this.1 (by omega)
        omega
      · intro h1
        have := this.2 (by omega)
        omega
theorem lb_shift (d : Nat) (hd : d ≠ 0) : ∀ (s x : Nat), x < 2 ^ s → lb (x + 2 ^ s * d) = s + lb d
  | 0, x, h => by
    rw [Nat.pow_zero] at h
    obtain rfl : x = 0 := by omega
    rw [Nat.pow_zero, Nat.one_mul, Nat.zero_add, Nat.zero_add]
  | s + 1, x, h => by
    rw [Nat.pow_succ] at h
    have hp : 0 < 2 ^ s * d := Nat.mul_pos (Nat.pow_pos (by omega)) (by omega)
    have e : 2 ^ (s + 1) * d = 2 * (2 ^ s * d) := by rw [Nat.pow_succ, Nat.mul_comm (2 ^ s) 2, Nat.mul_assoc]
    rw [e, lb_pos (by omega), show (x + 2 * (2 ^ s * d)) / 2 = x / 2 + 2 ^ s * d from by omega, lb_shift d hd s (x / 2) (by omega)]
    omega

def bitsR : Option Nat → Nat
  | some a => lb a
  | none => 0

/-- The top digit of a number. -/
theorem dg_top {a : Nat} (h : a ≠ 0) : ∃ d, d ≠ 0 ∧ d < 65536 ∧ (dg a)[(dg a).length - 1]? = some d ∧ lb a = 16 * ((dg a).length - 1) + lb d := by
  have hne : (dg a).length ≠ 0 := fun e => h (dg_eq_nil.1 (List.length_eq_zero_iff.1 e))
  obtain ⟨d, hd⟩ : ∃ d, (dg a)[(dg a).length - 1]? = some d := ⟨_, List.getElem?_eq_getElem (by omega)⟩
  have h1 := vl_take hd
  have e1 : (dg a).take ((dg a).length - 1 + 1) = dg a := List.take_of_length_le (by omega)
  have e2 := take_next hd
  rw [e1] at h1 e2
  have hd0 : d ≠ 0 := (can_dg a).2 _ d e2
  rw [vl_dg] at h1
  refine ⟨d, hd0, (dig_dg a).at_ hd, hd, ?_⟩
  have h2 := vl_lt ((dig_dg a).take ((dg a).length - 1))
  rw [List.length_take, Nat.min_eq_left (by omega)] at h2
  have hp : 65536 ^ ((dg a).length - 1) = 2 ^ (16 * ((dg a).length - 1)) := by rw [show (65536 : Nat) = 2 ^ 16 from rfl, ← Nat.pow_mul]
  rw [hp] at h1 h2
  conv => lhs; rw [h1]
  exact lb_shift d hd0 _ _ h2

set_option maxHeartbeats 1600000 in
theorem refBits_any (A : Option Addr) (n c : Nat) (xs : List Int) (w : World) (h : Arr iv w w.heap.size (.slice A n c) xs) (hn : n ≤ 9223372036854775807) :
    Calls Tryd.prog 24 #[.slice A n c] w fun e w' => e = .returned (.int .i64 (bitsR (numOf xs) : Int)) ∧ w = w' := by
  cases hx : numOf xs with
  | none =>
    have HV := Lib.hid (numOf_none hx)
    go_enter Tryd.func24, Tryd.ntmps24
    go_wp2_with fail
    refine (valid_of A n c xs false HV.out _ h hn).mono ?_
    rintro e w1 ⟨rfl, rfl⟩
    go_wp2
    go_ret
    exact ⟨rfl, rfl⟩
  | some a =>
    obtain ⟨hv, ha, hxs⟩ := numOf_some hx
    have HV := Lib.hid hv
    have hlen : n = (dg a).length := by rw [← h.len, hxs, List.length_map]
    have hl128 := dg_len_pw ha
    have hA : Arr nv w w.heap.size (.slice A n c) (dg a) := by
      have h2 := h
      rw [hxs] at h2
      exact h2.nat
    clear hv ha hx hxs
    by_cases h0 : a = 0
    · have t0 : ((n : Int) == 0) = true := by rw [hlen, h0, dg_zero]; rfl
      have HR : Hid (bitsR (some a) = 0) := Lib.hid (by rw [h0]; exact lb_zero)
      clear hlen
      go_enter Tryd.func24, Tryd.ntmps24
      go_wp2_with fail
      refine (valid_of A n c xs true HV.out _ h hn).mono ?_
      rintro e w1 ⟨rfl, rfl⟩
      go_wp2
      go_ret
      rw [HR.out]
      exact ⟨rfl, rfl⟩
    · obtain ⟨d, hd0, hd, hdt, hlb⟩ := dg_top h0
      rw [← hlen] at hl128 hdt hlb
      have hn0 : n ≠ 0 := by rw [hlen]; exact fun e => h0 (dg_eq_nil.1 (List.length_eq_zero_iff.1 e))
      have t0 : ((n : Int) == 0) = false := beq_false_of_ne (by omega)
      have HR := Lib.hid hlb
      obtain ⟨b0, o0, rfl, hB0, hc0⟩ := hA.some_ (by omega)
      have d0 := hc0 _ d hdt
      simp only [nv] at d0
      have i1 : ((n : Int) - 1).toNat = n - 1 := by omega
      have i2 : (0 : Int) ≤ (n : Int) - 1 := by omega
      have i3 : (n : Int) - 1 < (n : Int) := by omega
      clear hc0 hdt hlb hlen hA h0
      go_enter Tryd.func24, Tryd.ntmps24
      go_wp2_with fail
      refine (valid_of _ n c xs true HV.out _ h hn).mono ?_
      rintro e w1 ⟨rfl, rfl⟩
      go_wp2
      go_loop [3, 4] (fun m x => ∃ j y : Nat, m = .int .i64 (j : Int) ∧ x = .int .i64 (y : Int) ∧ Hid (j + lb y = bitsR (some a)) ∧ y < 65536 ∧ j + y ≤ 5000000) (fun _ x => (intOf x).toNat)
      case atStart => exact ⟨16 * (n - 1), d, by go_num, rfl, Lib.hid HR.out.symm, hd, by omega⟩
      case round =>
        obtain ⟨j, y, rfl, rfl, HJ, hy, hjy⟩ := hrel
        by_cases hy0 : y = 0
        · have t1 : decide (0 < y) = false := by simp; omega
          have HE : Hid (bitsR (some a) = j) := Lib.hid (by rw [← HJ.out, hy0, lb_zero]; rfl)
          clear hy0
          go_wp2
          go_ret
          rw [HE.out]
          exact ⟨rfl, rfl⟩
        · have t1 : decide (0 < y) = true := by simp; omega
          have HE : Hid (j + 1 + lb (y / 2) = bitsR (some a)) := Lib.hid (by rw [← HJ.out, lb_pos hy0]; omega)
          have hdec : y / 2 < y := by omega
          clear hy0
          go_wp2
          go_round
          case rel => exact ⟨j + 1, y / 2, by go_num, by go_num, HE, by omega, by omega⟩
          case measure => simp [intOf]; omega

end Go.Proofs.YtheadamdhjhnpaaDoor
