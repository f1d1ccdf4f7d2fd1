/-
  The numbers of the walk as registers of 32 bits; the contract of the shift and of the reference's step.
-/
import Derived.Test.YtjmmhgdafjdmdaaCrc
import Derived.Test.YtjmmhgdafjdmdaaProg
import Derived.WalkKit
import Derived.WalkSpells
import Derived.Lib.Hide
import Derived.Outline
namespace Go.Proofs.Ytjmmhgdafjdmdaa
open Go.RowKit

theorem ret_int {k : IntKind} {a b : Int} (h : a = b) : Ending.returned (.int k a) = .returned (.int k b) := by rw [h]

theorem wraps32 (n : Int) (h0 : 0 ≤ n) (h1 : n < 2 ^ 32) : IntKind.u32.wrap n = n := by rw [IntKind.wrap_u32]; omega

theorem u32_and (a b : Nat) (ha : a < 2 ^ 32) (hb : b < 2 ^ 32) : bits .and .u32 (a : Int) (b : Int) = ((a &&& b : Nat) : Int) := (bits_nat .u32 32 (by decide) wraps32 a b ha hb).1
theorem u32_or (a b : Nat) (ha : a < 2 ^ 32) (hb : b < 2 ^ 32) : bits .or .u32 (a : Int) (b : Int) = ((a ||| b : Nat) : Int) := (bits_nat .u32 32 (by decide) wraps32 a b ha hb).2
theorem u32_xor (a b : BitVec 32) : bits .xor .u32 (a.toNat : Int) (b.toNat : Int) = ((a ^^^ b).toNat : Int) := by
  show IntKind.u32.wrap ((BitVec.ofInt 32 (a.toNat : Int) ^^^ BitVec.ofInt 32 (b.toNat : Int)).toNat : Int) = _
  rw [BitVec.ofInt_natCast, BitVec.ofInt_natCast, BitVec.ofNat_toNat, BitVec.ofNat_toNat, BitVec.setWidth_eq, BitVec.setWidth_eq]
  exact wraps32 _ (by omega) (by have := (a ^^^ b).isLt; omega)

theorem lsb_mod (r : BitVec 32) : r.toNat % 2 = if r.getLsbD 0 then 1 else 0 := by
  have h : r.getLsbD 0 = decide (r.toNat % 2 = 1) := by
    have : r.getLsbD 0 = r.toNat.testBit 0 := rfl
    rw [this, Nat.testBit_zero]
  rw [h]
  by_cases h1 : r.toNat % 2 = 1
  · simp [h1]
  · simp [h1]; omega

theorem lsb_and (r : BitVec 32) : bits .and .u32 (r.toNat : Int) 1 = if r.getLsbD 0 then 1 else 0 := by
  have h := bits_mask .u32 32 (by decide) wraps32 1 (by decide) (r.toNat : Int) (by omega) (by have := r.isLt; omega)
  have h2 : bits .and .u32 (r.toNat : Int) 1 = ((r.toNat % 2 : Nat) : Int) := by simpa using h
  rw [h2, lsb_mod]
  cases r.getLsbD 0 <;> rfl

theorem half (r : BitVec 32) : (r.toNat : Int) / (2 : Int) = ((r >>> 1).toNat : Int) := by
  rw [BitVec.toNat_ushiftRight, Nat.shiftRight_eq_div_pow]; rfl

theorem sh_true {r : BitVec 32} (h : r.getLsbD 0 = true) : bits .xor .u32 ((r.toNat : Int) / (2 : Int)) 2197175160 = ((sh r).toNat : Int) := by
  have e : (2197175160 : Int) = (poly.toNat : Int) := rfl
  rw [half, e, u32_xor]; unfold sh; rw [if_pos h]
theorem sh_false {r : BitVec 32} (h : r.getLsbD 0 = false) : (r.toNat : Int) / (2 : Int) = ((sh r).toNat : Int) := by
  rw [half]; unfold sh; rw [h]; simp

set_option maxHeartbeats 400000 in
theorem shift_any (r : BitVec 32) (w : World) :
    Calls Try.prog 36 #[.int .u32 (r.toNat : Int)] w fun e w' => e = .returned (.int .u32 ((sh r).toNat : Int)) ∧ w = w' := by
  have hlt := r.isLt
  cases hr : r.getLsbD 0 with
  | true =>
    have ht : (bits .and .u32 (r.toNat : Int) 1 == 1) = true := by rw [lsb_and, hr]; rfl
    have HS := Lib.hid (sh_true hr)
    clear hr
    go_enter Try.func36, Try.ntmps36
    go_wp2
    go_ret
    exact ⟨ret_int HS.out, rfl⟩
  | false =>
    have ht : (bits .and .u32 (r.toNat : Int) 1 == 1) = false := by rw [lsb_and, hr]; rfl
    have HS := Lib.hid (sh_false hr)
    clear hr
    go_enter Try.func36, Try.ntmps36
    go_wp2
    go_ret
    exact ⟨ret_int HS.out, rfl⟩

set_option maxHeartbeats 400000 in
theorem shifted_any (r : BitVec 32) (b : Bool) (w : World) :
    Calls Try.prog 37 #[.int .u32 (r.toNat : Int), .int .u32 (if b then 1 else 0)] w fun e w' => e = .returned (.int .u32 ((sh (r ^^^ (if b then 1#32 else 0#32))).toNat : Int)) ∧ w = w' := by
  have hlt := r.isLt
  have hm := lsb_mod r
  have hx : (r ^^^ (if b then 1#32 else 0#32)) >>> 1 = r >>> 1 := by rw [BitVec.ushiftRight_xor_distrib]; cases b <;> simp
  have hx0 : (r ^^^ (if b then 1#32 else 0#32)).getLsbD 0 = (r.getLsbD 0 ^^ b) := by rw [BitVec.getLsbD_xor]; cases b <;> simp
  have hs : sh (r ^^^ (if b then 1#32 else 0#32)) = (r >>> 1) ^^^ (if (r.getLsbD 0 ^^ b) then poly else 0#32) := by unfold sh; rw [hx, hx0]
  rw [hs]
  clear hs hx hx0
  cases hr : r.getLsbD 0 <;> cases b <;> rw [hr] at hm
  all_goals
    simp only [Bool.false_xor, Bool.true_xor, Bool.not_true, Bool.not_false, Bool.false_eq_true, ↓reduceIte] at hm ⊢
    have HM := Lib.hid hm
    clear hm hr
  · have ht : ((r.toNat : Int) % 2 != 0) = false := by have := HM.out; simp; omega
    have HS := Lib.hid (half r)
    go_enter Try.func37, Try.ntmps37
    go_wp2
    go_ret
    exact ⟨ret_int (by rw [HS.out, BitVec.xor_zero]), rfl⟩
  · have ht : ((r.toNat : Int) % 2 != 1) = true := by have := HM.out; simp; omega
    have HS := Lib.hid (half r)
    go_enter Try.func37, Try.ntmps37
    go_wp2
    go_ret
    exact ⟨ret_int (by rw [HS.out]; exact u32_xor _ poly), rfl⟩
  · have ht : ((r.toNat : Int) % 2 != 0) = true := by have := HM.out; simp; omega
    have HS := Lib.hid (half r)
    go_enter Try.func37, Try.ntmps37
    go_wp2
    go_ret
    exact ⟨ret_int (by rw [HS.out]; exact u32_xor _ poly), rfl⟩
  · have ht : ((r.toNat : Int) % 2 != 1) = false := by have := HM.out; simp; omega
    have HS := Lib.hid (half r)
    go_enter Try.func37, Try.ntmps37
    go_wp2
    go_ret
    exact ⟨ret_int (by rw [HS.out, BitVec.xor_zero]), rfl⟩

end Go.Proofs.Ytjmmhgdafjdmdaa
