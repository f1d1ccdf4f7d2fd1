/-
  The bodies of the statements on Join: DigestJoin, DigestFar.
-/
import Derived.Test.YtjmmhgdafjdmdaaAwake
import Derived.Test.YtjmmhgdafjdmdaaMat
import Derived.Test.YtjmmhgdafjdmdaaRef
namespace Go.Proofs.Ytjmmhgdafjdmdaa
open Go.RowKit

theorem join_int (x y : BitVec 32) (n : Int) (w : World) (h1 : n ≤ 9223372036854775807) :
    Calls Try.prog 18 #[.int .u32 (x.toNat : Int), .int .u32 (y.toNat : Int), .int .i64 n] w fun o w' => o = .returned (.int .u32 (((if n < 0 then 0#32 else join x y n.toNat)).toNat : Int)) ∧ Below w.heap.size w w' := by
  by_cases hn : n < 0
  · rw [if_pos hn]
    exact (join_neg x y n w hn).mono fun o w' ⟨e, h⟩ => ⟨e, h ▸ Below.refl _ _⟩
  · rw [if_neg hn]
    have e : n = (n.toNat : Int) := by omega
    have := join_any x y n.toNat w (by omega)
    rw [← e] at this
    exact this
theorem refJoin_int (x y : BitVec 32) (n : Int) (w : World) (h1 : n ≤ 2000) :
    Calls Try.prog 19 #[.int .u32 (x.toNat : Int), .int .u32 (y.toNat : Int), .int .i64 n] w fun o w' => o = .returned (.int .u32 (((if n < 0 then 0#32 else join x y n.toNat)).toNat : Int)) ∧ Below w.heap.size w w' := by
  by_cases hn : n < 0
  · rw [if_pos hn]
    exact (refJoin_neg x y n w hn).mono fun o w' ⟨e, h⟩ => ⟨e, h ▸ Below.refl _ _⟩
  · rw [if_neg hn]
    have e : n = (n.toNat : Int) := by omega
    have := refJoin_any x y n.toNat w (by omega)
    rw [← e] at this
    exact this

/-- What Join hands back. -/
def joinI (x y : BitVec 32) (n : Int) : BitVec 32 := if n < 0 then 0#32 else join x y n.toNat

set_option maxHeartbeats 800000 in
theorem digestJoin_any (x y : BitVec 32) (n : Int) (w : World) (h1 : n ≤ 9223372036854775807) :
    Calls Try.prog 4 #[.int .u32 (x.toNat : Int), .int .u32 (y.toNat : Int), .int .i64 n] w fun e w' => e = .returned (.bool true) ∧ Below w.heap.size w w' := by
  go_enter Try.func4, Try.ntmps4
  go_wp2_with fail
  refine (awake_any _).mono ?_
  rintro e w1 ⟨rfl, hb1⟩
  by_cases h2 : n ≤ 2000
  · have ht : decide (2000 < n) = false := by simp; omega
    go_wp2_with fail
    refine (join_int x y n _ h1).mono ?_
    rintro e w2 ⟨rfl, hb2⟩
    rw [show (if n < 0 then 0#32 else join x y n.toNat) = joinI x y n from rfl]
    go_wp2_with fail
    refine (refJoin_int x y n _ h2).mono ?_
    rintro e w3 ⟨rfl, hb3⟩
    rw [show (if n < 0 then 0#32 else join x y n.toNat) = joinI x y n from rfl]
    go_wp2
    go_ret
    have h12 := hb1.trans (hb2.mono hb1.size)
    exact ⟨rfl, h12.trans (hb3.mono h12.size)⟩
  · have ht : decide (2000 < n) = true := by simp; omega
    go_wp2
    go_ret
    exact ⟨rfl, hb1⟩

theorem rem_nat (a : Int) : ∃ A : Nat, a % 100000000000000001 = (A : Int) ∧ A ≤ 100000000000000000 :=
  ⟨(a % 100000000000000001).toNat, by omega, by omega⟩
theorem join_sum (x y : BitVec 32) (A B : Nat) (w : World) (hn : A + B < 2 ^ 63) :
    Calls Try.prog 18 #[.int .u32 (x.toNat : Int), .int .u32 (y.toNat : Int), .int .i64 ((A : Int) + (B : Int))] w fun o w' => o = .returned (.int .u32 ((join x y (A + B)).toNat : Int)) ∧ Below w.heap.size w w' := join_any x y (A + B) w hn
theorem far (x y : BitVec 32) (A B : Nat) : join (join x y A) 0#32 B = join x (join y 0#32 B) (A + B) := by
  unfold join
  rw [BitVec.xor_zero, BitVec.xor_zero, shn_xor, ← shn_add, Nat.mul_add]

set_option maxRecDepth 100000 in
set_option maxHeartbeats 1600000 in
theorem digestFar_any (x y : BitVec 32) (a b : Int) (w : World) (ha : 0 ≤ a ∧ a ≤ 18446744073709551615) (hb : 0 ≤ b ∧ b ≤ 18446744073709551615) :
    Calls Try.prog 5 #[.int .u32 (x.toNat : Int), .int .u32 (y.toNat : Int), .agg #[.int .u64 a, .int .u64 b]] w fun e w' => e = .returned (.bool true) ∧ Below w.heap.size w w' := by
  go_enter Try.func5, Try.ntmps5
  go_wp2_with fail
  refine (awake_any _).mono ?_
  rintro e w1 ⟨rfl, hb1⟩
  have hbox : Box w1 w.heap.size 33 #[.int .u64 a, .int .u64 b] := (Box.made w 33 #[.int .u64 a, .int .u64 b]).below hb1 (by simp)
  have hc0 := hbox.cell 0
  have hc1 := hbox.cell 1
  simp at hc0 hc1
  obtain ⟨A, hA, hA2⟩ := rem_nat a
  obtain ⟨B, hB, hB2⟩ := rem_nat b
  go_wp2
  go_quiet (fail)
  clear hc0 hc1
  go_wp2_with fail
  refine (join_any x y A _ (by omega)).mono ?_
  rintro e w2 ⟨rfl, hb2⟩
  go_wp2_with fail
  refine (join_any (join x y A) 0#32 B _ (by omega)).mono ?_
  rintro e w3 ⟨rfl, hb3⟩
  go_wp2_with fail
  refine (join_any y 0#32 B _ (by omega)).mono ?_
  rintro e w4 ⟨rfl, hb4⟩
  go_wp2_with fail
  refine (join_sum x (join y 0#32 B) A B _ (by omega)).mono ?_
  rintro e w5 ⟨rfl, hb5⟩
  rw [← far x y A B]
  go_wp2_with fail
  refine (join_any x y 0 _ (by omega)).mono ?_
  rintro e w6 ⟨rfl, hb6⟩
  have hx : bits .xor .u32 (x.toNat : Int) (y.toNat : Int) = ((join x y 0).toNat : Int) := by rw [u32_xor]; rfl
  go_wp2
  go_ret
  refine ⟨rfl, ?_⟩
  have h1 := (((Below.refl _ _).alloc (Nat.le_refl _) _).trans (hb1.mono (by simp)) : Below w.heap.size w w1)
  have h2 := (below_drewN h1 nq).trans (hb2.mono h1.size)
  have h3 := h2.trans (hb3.mono h2.size)
  have h4 := h3.trans (hb4.mono h3.size)
  have h5 := h4.trans (hb5.mono h4.size)
  exact h5.trans (hb6.mono h5.size)

end Go.Proofs.Ytjmmhgdafjdmdaa
