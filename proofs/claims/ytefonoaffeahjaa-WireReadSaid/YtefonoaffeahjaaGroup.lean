/-
  The reference's reader: what group hands back is what the decoder of groups does.
-/
import Derived.Test.YtefonoaffeahjaaBack
namespace Go.Proofs.Ytefonoaffeahjaa
open Go.RowKit

set_option maxHeartbeats 400000 in
theorem unfolded_any (u : Nat) (w : World) (h0 : u < 18446744073709551616) :
    Calls Try.prog 55 #[.int .u64 u] w fun e w' => e = .returned (.int .i64 (unzig u)) ∧ w = w' := by
  by_cases hu : u % 2 = 0
  · have ht : (((u : Int) % 2) == 0) = true := by simp; omega
    go_enter Try.func55, Try.ntmps55
    go_wp2
    go_ret
    exact ⟨end_int (by unfold unzig; rw [if_pos hu]; omega), rfl⟩
  · have ht : (((u : Int) % 2) == 0) = false := by simp; omega
    go_enter Try.func55, Try.ntmps55
    go_wp2
    go_ret
    exact ⟨end_int (by unfold unzig; rw [if_neg hu]; omega), rfl⟩

/-- k groups, all with the high bit, were read: their number is x, the first group is f. -/
def Pre (ds : List UInt8) (k x : Nat) : Prop :=
  decL 0 ds = decL x (ds.drop k) ∧ x < 128 ^ k ∧ k ≤ 10 ∧ (1 ≤ k → ∃ f : UInt8, ds[0]? = some f ∧ 128 ≤ f.toNat ∧ (f.toNat - 128) * 128 ^ (k - 1) ≤ x ∧ x < (f.toNat - 128 + 1) * 128 ^ (k - 1))

theorem Pre.zero (ds : List UInt8) : Pre ds 0 0 := ⟨rfl, by simp, by omega, fun h => absurd h (by omega)⟩

theorem Pre.small {ds : List UInt8} {k x : Nat} (h : Pre ds k x) (hk : k < 9) : x < 2 ^ 57 := by
  have h1 := h.2.1
  have h2 : 128 ^ k ≤ 128 ^ 8 := Nat.pow_le_pow_right (by omega) (by omega)
  omega

theorem Pre.nine {ds : List UInt8} {x : Nat} (h : Pre ds 9 x) {f : UInt8} (hf : ds[0]? = some f) : (129 < f.toNat ↔ 2 ^ 57 ≤ x) := by
  obtain ⟨f', hf', h8, hlo, hhi⟩ := h.2.2.2 (by omega)
  rw [hf] at hf'
  injection hf' with hf'
  subst hf'
  simp only [show 9 - 1 = 8 from rfl] at hlo hhi
  have e : (128 : Nat) ^ 8 = 2 ^ 56 := by decide
  rw [e] at hlo hhi
  omega

theorem Pre.step {ds : List UInt8} {k x : Nat} {c : UInt8} (h : Pre ds k x) (hk : k < 10) (hc : ds[k]? = some c) (h57 : x < 2 ^ 57) (h8 : 128 ≤ c.toNat) : Pre ds (k + 1) (x * 128 + c.toNat % 128) := by
  obtain ⟨h1, h2, h3, h4⟩ := h
  have hl := c.toNat_lt
  refine ⟨?_, by rw [Nat.pow_succ]; omega, by omega, fun _ => ?_⟩
  · rw [h1, decL_at hc, if_neg (by omega), if_neg (by omega)]
  · cases k with
    | zero =>
      simp at h2
      subst h2
      refine ⟨c, hc, h8, ?_, ?_⟩ <;> simp <;> omega
    | succ k =>
      obtain ⟨f, hf, hf8, hlo, hhi⟩ := h4 (by omega)
      refine ⟨f, hf, hf8, ?_, ?_⟩
      · simp only [Nat.add_sub_cancel] at hlo ⊢
        rw [Nat.pow_succ, ← Nat.mul_assoc]
        omega
      · simp only [Nat.add_sub_cancel] at hhi ⊢
        rw [Nat.pow_succ, ← Nat.mul_assoc]
        omega

/-- Behind ten groups with the high bit there is no number. -/
theorem Pre.ten {ds : List UInt8} {x : Nat} (h : Pre ds 10 x) {f : UInt8} (hf : ds[0]? = some f) (h128 : f ≠ 128) : decL 0 ds = none := by
  obtain ⟨f', hf', h8, hlo, _⟩ := h.2.2.2 (by omega)
  rw [hf] at hf'
  injection hf' with hf'
  subst hf'
  have hne : f.toNat ≠ 128 := fun e => h128 (UInt8.toNat_inj.1 e)
  have e : (128 : Nat) ^ (10 - 1) = 2 ^ 63 := by decide
  rw [e] at hlo
  rw [h.1]
  have hx : 2 ^ 57 ≤ x := by
    have : 1 * 2 ^ 63 ≤ (f.toNat - 128) * 2 ^ 63 := Nat.mul_le_mul_right _ (by omega)
    omega
  cases ds.drop 10 with
  | nil => rfl
  | cons c t => rw [decL, if_pos hx]

theorem Pre.end_ {ds : List UInt8} {k x : Nat} (h : Pre ds k x) (hk : ds.length ≤ k) : decL 0 ds = none := by
  rw [h.1, List.drop_of_length_le hk]; rfl

theorem dec_head {ds : List UInt8} {f : UInt8} (hf : ds[0]? = some f) : dec ds = if f = 128 then none else decL 0 ds := by
  cases ds with
  | nil => simp at hf
  | cons c t =>
    simp at hf
    subst hf
    by_cases h : c = 128
    · simp [dec, h]
    · simp [dec, h]

theorem dec_none_of {ds : List UInt8} (h : decL 0 ds = none) : dec ds = none := by
  cases ds with
  | nil => rfl
  | cons c t =>
    by_cases hc : c = 128
    · simp [dec, hc]
    · rw [dec_of_ne hc]; exact h

/-- What group hands back. -/
def GEnd (len : Nat) (o : Option (Nat × List UInt8)) (e : Ending) : Prop :=
  match o with
  | some (u, r) => e = .returned (.tuple #[.int .i64 (unzig u), .int .i64 ((len - r.length : Nat) : Int), .bool true])
  | none => ∃ x y : Int, e = .returned (.tuple #[.int .i64 x, .int .i64 y, .bool false])

end Go.Proofs.Ytefonoaffeahjaa
