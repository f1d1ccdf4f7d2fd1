/-
  The folded number and its inverse: contracts.
-/
import Derived.Test.YtefonoaffeahjaaBytes
import Derived.Test.YtefonoaffeahjaaBits
import Derived.Test.YtefonoaffeahjaaMath
namespace Go.Proofs.Ytefonoaffeahjaa
open Go.RowKit

theorem ret_int {k : IntKind} {a b : Int} (h : a = b) : Ending.returned (.int k a) = .returned (.int k b) := by rw [h]

theorem wrap2 (n : Int) (h0 : n < 0) (h1 : -9223372036854775808 ≤ n) : IntKind.u64.wrap (IntKind.u64.wrap n * 2) = ((2 ^ 64 - 1 - (-2 * n - 1).toNat : Nat) : Int) := by
  rw [IntKind.wrap_u64, IntKind.wrap_u64]; omega

theorem xor2 (n : Int) (h0 : n < 0) (h1 : -9223372036854775808 ≤ n) : bits .xor .u64 IntKind.u64.max ((2 ^ 64 - 1 - (-2 * n - 1).toNat : Nat) : Int) = ((-2 * n - 1).toNat : Int) := by
  rw [u64_not _ (by omega)]; omega

set_option maxHeartbeats 400000 in
theorem fold_any (n : Int) (w : World) (h0 : -9223372036854775808 ≤ n) (h1 : n ≤ 9223372036854775807) :
    Calls Try.prog 39 #[.int .i64 n] w fun e w' => e = .returned (.int .u64 (zig n)) ∧ w = w' := by
  by_cases hn : 0 ≤ n
  · go_enter Try.func39, Try.ntmps39
    go_wp2
    go_ret
    exact ⟨ret_int (by unfold zig; rw [if_pos hn]; omega), rfl⟩
  · have hw : bits .xor .u64 IntKind.u64.max (IntKind.u64.wrap (IntKind.u64.wrap n * 2)) = (zig n : Int) := by
      rw [wrap2 n (by omega) h0, xor2 n (by omega) h0]; unfold zig; rw [if_neg hn]
    have HW := Lib.hid hw
    clear hw
    go_enter Try.func39, Try.ntmps39
    go_wp2
    go_ret
    exact ⟨ret_int HW.out, rfl⟩

set_option maxHeartbeats 400000 in
theorem unfold_any (u : Nat) (w : World) (h0 : u < 18446744073709551616)  :
    Calls Try.prog 52 #[.int .u64 u] w fun e w' => e = .returned (.int .i64 (unzig u)) ∧ w = w' := by
  have ha := u64_and1 u h0
  have hn : ¬ u % 2 = 0 → bits BinOp.xor IntKind.i64 (-1) ((u : Int) / 2) = unzig u := fun hu => by
    have e : ((u : Int) / 2) = ((u / 2 : Nat) : Int) := by omega
    rw [e, i64_not (u / 2) (by omega)]; unfold unzig; rw [if_neg hu]; omega
  by_cases hu : u % 2 = 0
  · have ht : (bits BinOp.and IntKind.u64 (u : Int) 1 == 1) = false := by rw [ha, hu]; rfl
    clear ha hn
    go_enter Try.func52, Try.ntmps52
    go_wp2
    go_ret
    exact ⟨ret_int (by unfold unzig; rw [if_pos hu]; rfl), rfl⟩
  · have ht : (bits BinOp.and IntKind.u64 (u : Int) 1 == 1) = true := by rw [ha, show u % 2 = 1 from by omega]; rfl
    have HN := Lib.hid (hn hu)
    clear ha hn
    go_enter Try.func52, Try.ntmps52
    go_wp2
    go_ret
    exact ⟨ret_int HN.out, rfl⟩

end Go.Proofs.Ytefonoaffeahjaa
