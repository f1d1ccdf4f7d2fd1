/-
  Bits of the numbers that the encoding shifts and masks, in the spelling of the walk.
-/
import Derived.WalkKit
import Derived.Laws.DeepNot64
namespace Go.Proofs.Ytefonoaffeahjaa

theorem wraps_u64 (n : Int) (h0 : 0 ≤ n) (h1 : n < 2 ^ 64) : IntKind.u64.wrap n = n := by rw [IntKind.wrap_u64]; omega

theorem u64_and1 (u : Nat) (h : u < 2 ^ 64) : bits .and .u64 (u : Int) 1 = ((u % 2 : Nat) : Int) := by
  have := bits_mask .u64 64 (by decide) wraps_u64 1 (by decide) (u : Int) (by omega) (by exact_mod_cast h)
  simpa using this

theorem u64_and127 (u : Nat) (h : u < 2 ^ 64) : bits .and .u64 (u : Int) 127 = ((u % 128 : Nat) : Int) := by
  have := bits_mask .u64 64 (by decide) wraps_u64 7 (by decide) (u : Int) (by omega) (by exact_mod_cast h)
  simpa using this

theorem u8_and127 (u : Nat) (h : u < 256) : bits .and .u8 (u : Int) 127 = ((u % 128 : Nat) : Int) := by
  have := bits_mask .u8 8 (by decide) wraps_u8 7 (by decide) (u : Int) (by omega) (by exact_mod_cast h)
  simpa using this

set_option maxRecDepth 100000 in
theorem u8_and128 (u : Nat) (h : u < 256) : bits .and .u8 (u : Int) 128 = if u < 128 then 0 else 128 := by
  have h1 := (bits_nat .u8 8 (by decide) wraps_u8 u 128 (by omega) (by omega)).1
  have h2 : ∀ x : Fin 256, (x.val &&& 128) = if x.val < 128 then 0 else 128 := by decide
  have h3 := h2 ⟨u, h⟩
  simp only [] at h3
  have h4 : bits .and .u8 (u : Int) 128 = ((u &&& 128 : Nat) : Int) := h1
  rw [h4, h3]
  split <;> rfl

theorem u64_join (a b : Nat) (ha : a < 2 ^ 57) (hb : b < 128) : bits .or .u64 ((a : Int) * 128) (b : Int) = ((a * 128 + b : Nat) : Int) := by
  rw [bits_join .u64 64 (by decide) wraps_u64 7 ((a : Int) * 128) b (by omega) (by omega) (by omega) (by omega) (by omega) (by omega)]
  omega

theorem not64 (a : Nat) (ha : a < 2 ^ 64) : (2 ^ 64 - 1) ^^^ a = 2 ^ 64 - 1 - a := by
  apply Nat.eq_of_testBit_eq
  intro i
  have h := Nat.testBit_two_pow_sub_succ ha i
  rw [show 2 ^ 64 - 1 - a = 2 ^ 64 - (a + 1) from by omega, h, Nat.testBit_xor, Nat.testBit_two_pow_sub_one]
  by_cases hi : i < 64
  · simp [hi]
  · have : a.testBit i = false := Nat.testBit_lt_two_pow (Nat.lt_of_lt_of_le ha (Nat.pow_le_pow_right (by omega) (by omega)))
    simp [hi, this]

theorem u64_not (a : Nat) (ha : a < 2 ^ 64) : bits .xor .u64 IntKind.u64.max (a : Int) = ((2 ^ 64 - 1 - a : Nat) : Int) := by
  have h := bits_xor_u64_nat (2 ^ 64 - 1) a (by omega) (by omega)
  rw [not64 a ha] at h
  exact h

end Go.Proofs.Ytefonoaffeahjaa
