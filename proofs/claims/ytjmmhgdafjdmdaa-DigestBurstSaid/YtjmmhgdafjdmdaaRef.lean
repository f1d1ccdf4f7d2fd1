/-
  The reference's register, More and Of.
-/
import Derived.Test.YtjmmhgdafjdmdaaMore
namespace Go.Proofs.Ytjmmhgdafjdmdaa
open Go.RowKit

/-- The register behind k bits of a byte. -/
def part (H : BitVec 32) (u : UInt8) (k : Nat) : BitVec 32 := shn k (H ^^^ low k (w8 u))
theorem part_zero (H : BitVec 32) (u : UInt8) : part H u 0 = H := by unfold part; rw [low_zero]; simp [shn]
theorem w8_lsb (u : UInt8) (k : Nat) : (w8 u).getLsbD k = u.toNat.testBit k := by
  have h := u.toNat_lt
  unfold w8
  rw [BitVec.getLsbD_ofNat]
  by_cases hk : k < 32
  · simp [hk]
  · simp only [hk, decide_false, Bool.false_and]
    exact (Nat.testBit_lt_two_pow (Nat.lt_of_lt_of_le h (Nat.pow_le_pow_right (j := k) (i := 8) (by omega) (by omega)))).symm
theorem part_succ (H : BitVec 32) (u : UInt8) (k : Nat) (hk : k < 8) : part H u (k + 1) = sh (part H u k ^^^ (if u.toNat.testBit k then 1#32 else 0#32)) := by
  unfold part
  rw [shn_succ', low_succ, w8_lsb, ← BitVec.xor_assoc, shn_xor]
  cases u.toNat.testBit k with
  | false => simp [shn_zero]
  | true =>
    rw [if_pos rfl, if_pos rfl, shn_bit k k (by omega) (by omega), Nat.sub_self]
    rfl
theorem part_eight (H : BitVec 32) (u : UInt8) : part H u 8 = shn 8 (H ^^^ w8 u) := by
  have : low 8 (w8 u) = w8 u := by
    apply BitVec.eq_of_getLsbD_eq
    intro i hi
    rw [low_lsb, w8_lsb]
    by_cases h : i < 8
    · simp [h]
    · simp only [h, decide_false, Bool.false_and]
      exact (Nat.testBit_lt_two_pow (Nat.lt_of_lt_of_le u.toNat_lt (Nat.pow_le_pow_right (by omega) (by omega)))).symm
  unfold part
  rw [this]

theorem bit_at (n m : Nat) : ((n : Int) / 2 ^ m).tmod 2 = if n.testBit m then 1 else 0 := by
  have e : ((n : Int) / 2 ^ m) = ((n / 2 ^ m : Nat) : Int) := by simp
  rw [e, Int.tmod_eq_emod_of_nonneg (Int.natCast_nonneg _)]
  have h : n.testBit m = decide (n / 2 ^ m % 2 = 1) := by rw [Nat.testBit_eq_decide_div_mod_eq]
  rw [h]
  by_cases h1 : n / 2 ^ m % 2 = 1
  · rw [decide_eq_true h1, if_pos rfl]; omega
  · rw [decide_eq_false h1, if_neg (by simp)]; omega

theorem shifted_at (r : BitVec 32) (b : Bool) (n : Int) (hn : n = if b then 1 else 0) (w : World) :
    Calls Try.prog 37 #[.int .u32 (r.toNat : Int), .int .u32 n] w fun e w' => e = .returned (.int .u32 ((sh (r ^^^ (if b then 1#32 else 0#32))).toNat : Int)) ∧ w = w' := by
  subst hn
  exact shifted_any r b w

set_option maxRecDepth 100000 in
set_option maxHeartbeats 1600000 in
theorem register_any (r : BitVec 32) (v : Value) (bs : List UInt8) (B : Nat) (w : World) (hs : Sl w B v bs) (hlen : bs.length ≤ 1000000000000) :
    Calls Try.prog 28 #[.int .u32 (r.toNat : Int), v] w fun e w' => e = .returned (.int .u32 ((reg r bs).toNat : Int)) ∧ w = w' := by
  rcases hs.split with ⟨rfl, A, c, rfl⟩ | ⟨hpos, b, off, c, rfl, hc, hb, hcell⟩
  · clear hs
    go_enter Try.func28, Try.ntmps28
    go_wp2
    go_loop [0, 5, 6] (fun x i k => x = .int .u32 (r.toNat : Int) ∧ i = .int .i64 0) (fun _ _ _ => 0)
    case atStart => exact ⟨rfl, rfl⟩
    case round =>
      obtain ⟨rfl, rfl⟩ := hrel
      go_wp2
      go_ret
      exact ⟨rfl, rfl⟩
  · have HC := Lib.hid hcell
    clear hcell hs
    have hpos' : (0 : Int) < (bs.length : Int) := by omega
    go_enter Try.func28, Try.ntmps28
    go_wp2
    go_loop [0, 5, 6] (fun x i _ => ∃ k : Nat, k ≤ bs.length ∧ x = .int .u32 ((reg r (bs.take k)).toNat : Int) ∧ i = .int .i64 (k : Int)) (fun _ i _ => bs.length - (intOf i).toNat)
    case atStart => exact ⟨0, by omega, rfl, rfl⟩
    case round =>
      obtain ⟨k, hk, rfl, rfl⟩ := hrel
      by_cases hlt : k < bs.length
      · obtain ⟨u, hu⟩ : ∃ u, bs[k]? = some u := ⟨_, List.getElem?_eq_getElem hlt⟩
        have hcu := HC.out k u hu
        have hsn := reg_snoc r hu
        have hu8 := u.toNat_lt
        obtain ⟨R, hR⟩ : ∃ R, R = reg r (bs.take k) := ⟨_, rfl⟩
        rw [← hR] at hsn ⊢
        rw [← part_eight] at hsn
        have HS := Lib.hid hsn
        have HR := Lib.hid hR
        have HU := Lib.hid hu
        clear hsn hR hu
        simp only [bv] at hcu
        go_wp2
        go_loop [0, 6] (fun x j => ∃ m : Nat, m ≤ 8 ∧ x = .int .u32 ((part R u m).toNat : Int) ∧ j = .int .i64 (m : Int)) (fun _ j => 8 - (intOf j).toNat)
        case atStart => exact ⟨0, by omega, by rw [part_zero], rfl⟩
        case round =>
          obtain ⟨m, hm, rfl, rfl⟩ := hrel
          by_cases hm8 : m < 8
          · go_wp2_with fail
            refine (shifted_at (part R u m) (u.toNat.testBit m) _ (bit_at u.toNat m) _).mono ?_
            rintro e w' ⟨rfl, rfl⟩
            have hps := part_succ R u m hm8
            go_wp2
            go_round
            case rel => exact ⟨m + 1, by omega, by rw [hps], by go_num⟩
            case measure => simp [intOf]; omega
          · obtain rfl : m = 8 := by omega
            go_wp2
            go_round
            case rel => exact ⟨k + 1, by omega, by rw [HS.out], by go_num⟩
            case measure => simp [intOf]; omega
      · obtain rfl : k = bs.length := by omega
        rw [List.take_of_length_le (Nat.le_refl _)]
        go_wp2
        go_ret
        exact ⟨rfl, rfl⟩

set_option maxHeartbeats 800000 in
theorem refMore_any (r : BitVec 32) (v : Value) (bs : List UInt8) (B : Nat) (w : World) (hs : Sl w B v bs) (hlen : bs.length ≤ 1000000000000) :
    Calls Try.prog 14 #[.int .u32 (r.toNat : Int), v] w fun e w' => e = .returned (.int .u32 ((more r bs).toNat : Int)) ∧ w = w' := by
  have hnot := u32_not r
  have hnot2 := u32_not (reg (inv r) bs)
  go_enter Try.func14, Try.ntmps14
  go_wp2_with fail
  go_wp2_with (go_at_call 28; refine (register_any (inv r) _ _ _ _ hs hlen).mono ?_; rintro e w1 ⟨rfl, rfl⟩)
  go_ret
  exact ⟨rfl, rfl⟩

set_option maxHeartbeats 800000 in
theorem refOf_any (v : Value) (bs : List UInt8) (B : Nat) (w : World) (hs : Sl w B v bs) (hlen : bs.length ≤ 1000000000000) :
    Calls Try.prog 12 #[v] w fun e w' => e = .returned (.int .u32 ((crc bs).toNat : Int)) ∧ w = w' := by
  go_enter Try.func12, Try.ntmps12
  go_wp2_with (go_at_call 14; refine (refMore_any 0#32 _ _ _ _ hs hlen).mono ?_; rintro e w1 ⟨rfl, rfl⟩)
  go_ret
  exact ⟨rfl, rfl⟩

theorem join_step (x : BitVec 32) (k : Nat) : reg (shn (8 * k) x) [0] = shn (8 * (k + 1)) x := by
  have : w8 0 = 0#32 := by decide
  rw [reg, reg, this, BitVec.xor_zero, ← shn_add, show 8 * k + 8 = 8 * (k + 1) from by omega]

theorem sl_one (w : World) (t : TypeId) : Sl (w.alloc (.cells #[.int .u8 0] t)) (w.heap.size + 1) (.slice (some ⟨w.heap.size, 0, none⟩) 1 1) [0] := by
  refine .inr ⟨⟨w.heap.size, 0, none⟩, 1, rfl, by simp, fun _ => by simp, fun i u hu => ?_⟩
  have hb := Box.made w t #[.int .u8 0]
  cases i with
  | zero => simp at hu; subst hu; rw [plain_add, hb.cell]; rfl
  | succ i => simp at hu

set_option maxHeartbeats 400000 in
theorem refJoin_neg (x y : BitVec 32) (n : Int) (w : World) (h0 : n < 0) :
    Calls Try.prog 19 #[.int .u32 (x.toNat : Int), .int .u32 (y.toNat : Int), .int .i64 n] w fun o w' => o = .returned (.int .u32 0) ∧ w = w' := by
  go_enter Try.func19, Try.ntmps19
  go_wp2
  go_ret
  exact ⟨rfl, rfl⟩

set_option maxRecDepth 100000 in
set_option maxHeartbeats 1600000 in
theorem refJoin_any (x y : BitVec 32) (n : Nat) (w : World) (hn : n < 2 ^ 62) :
    Calls Try.prog 19 #[.int .u32 (x.toNat : Int), .int .u32 (y.toNat : Int), .int .i64 (n : Int)] w fun o w' => o = .returned (.int .u32 ((join x y n).toNat : Int)) ∧ Below w.heap.size w w' := by
  go_enter Try.func19, Try.ntmps19
  go_wp2
  go_loopw [0, 7] (fun x_ i wr => ∃ k : Nat, k ≤ n ∧ x_ = .int .u32 ((shn (8 * k) x).toNat : Int) ∧ i = .int .i64 (k : Int) ∧ Below w.heap.size w wr) (fun _ i _ => n - (intOf i).toNat)
  case atStart => exact ⟨0, by omega, rfl, rfl, Below.refl _ _⟩
  case round =>
    obtain ⟨k, hk, rfl, rfl, hbel⟩ := hrel
    by_cases hlt : k < n
    · have HJ := Lib.hid (join_step x k)
      go_wp2_with fail
      refine (register_any (shn (8 * k) x) _ [0] _ _ (sl_one wr _) (by simp)).mono ?_
      rintro o w1 ⟨rfl, rfl⟩
      go_wp2
      go_roundw
      case rel => exact ⟨k + 1, by omega, by rw [HJ.out], by go_num, hbel.alloc hbel.size _⟩
      case measure => simp [intOf]; omega
    · obtain rfl : k = n := by omega
      have hx : bits .xor .u32 ((shn (8 * k) x).toNat : Int) (y.toNat : Int) = ((join x y k).toNat : Int) := by rw [u32_xor]; rfl
      go_wp2
      go_ret
      exact ⟨rfl, hbel⟩

end Go.Proofs.Ytjmmhgdafjdmdaa
