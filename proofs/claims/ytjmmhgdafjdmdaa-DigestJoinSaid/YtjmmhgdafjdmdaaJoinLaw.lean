/-
  The bodies of the statements on Join: DigestJoin, DigestFar.
-/
import Derived.Test.YtjmmhgdafjdmdaaAwake
import Derived.Test.YtjmmhgdafjdmdaaMat
import Derived.Test.YtjmmhgdafjdmdaaRef
namespace Go.Proofs.Ytjmmhgdafjdmdaa
open Go.RowKit

theorem join_int (x y : BitVec 32) (n : Int) (w : World) (h0 : -9223372036854775808 ≤ n) (h1 : n ≤ 9223372036854775807) :
    Calls Try.prog 18 #[.int .u32 (x.toNat : Int), .int .u32 (y.toNat : Int), .int .i64 n] w fun o w' => o = .returned (.int .u32 (((if n < 0 then 0#32 else join x y n.toNat)).toNat : Int)) ∧ Below w.heap.size w w' := by
  by_cases hn : n < 0
  · rw [if_pos hn]
    exact (join_neg x y n w hn h0).mono fun o w' ⟨e, h⟩ => ⟨e, h ▸ Below.refl _ _⟩
  · rw [if_neg hn]
    have e : n = (n.toNat : Int) := by omega
    have := join_any x y n.toNat w (by omega)
    rw [← e] at this
    exact this
theorem refJoin_int (x y : BitVec 32) (n : Int) (w : World) (h1 : n ≤ 2000) :
    Calls Try.prog 19 #[.int .u32 (x.toNat : Int), .int .u32 (y.toNat : Int), .int .i64 n] w fun o w' => o = .returned (.int .u32 (((if n < 0 then 0#32 else join x y n.toNat)).toNat : Int)) ∧ Below w.heap.size w w' := by
  by_cases hn : n < 0
  · rw [if_pos hn]
    exact (refJoin_neg x y n w hn).mono fun o w' ⟨e, h⟩ => ⟨e, h ▸ Below.refl _ _⟩
  · rw [if_neg hn]
    have e : n = (n.toNat : Int) := by omega
    have := refJoin_any x y n.toNat w (by omega)
    rw [← e] at this
    exact this

/-- What Join hands back. -/
def joinI (x y : BitVec 32) (n : Int) : BitVec 32 := if n < 0 then 0#32 else join x y n.toNat

set_option maxHeartbeats 800000 in
theorem digestJoin_any (x y : BitVec 32) (n : Int) (w : World) (h0 : -9223372036854775808 ≤ n) (h1 : n ≤ 9223372036854775807) :
    Calls Try.prog 4 #[.int .u32 (x.toNat : Int), .int .u32 (y.toNat : Int), .int .i64 n] w fun e w' => e = .returned (.bool true) ∧ Below w.heap.size w w' := by
  go_enter Try.func4, Try.ntmps4
  go_wp2_with fail
  refine (awake_any _).mono ?_
  rintro e w1 ⟨rfl, hb1⟩
  by_cases h2 : n ≤ 2000
  · have ht : decide (2000 < n) = false := by simp; omega
    go_wp2_with fail
    refine (join_int x y n _ h0 h1).mono ?_
    rintro e w2 ⟨rfl, hb2⟩
    rw [show (if n < 0 then 0#32 else join x y n.toNat) = joinI x y n from rfl]
    go_wp2_with fail
    refine (refJoin_int x y n _ h2).mono ?_
    rintro e w3 ⟨rfl, hb3⟩
    rw [show (if n < 0 then 0#32 else join x y n.toNat) = joinI x y n from rfl]
    go_wp2
    go_ret
    have h12 := hb1.trans (hb2.mono hb1.size)
    exact ⟨rfl, h12.trans (hb3.mono h12.size)⟩
  · have ht : decide (2000 < n) = true := by simp; omega
    go_wp2
    go_ret
    exact ⟨rfl, hb1⟩

end Go.Proofs.Ytjmmhgdafjdmdaa
