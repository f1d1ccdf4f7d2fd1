/-
  The program's leading, estimate, takeMultiple.
-/
import Derived.Test.YtheadamdhjhnpaaDoorMul
namespace Go.Proofs.YtheadamdhjhnpaaDoor
open Go.RowKit

theorem wraps_u64 (n : Int) (h0 : 0 ≤ n) (h1 : n < 18446744073709551616) : IntKind.u64.wrap n = n := by rw [IntKind.wrap_u64]; omega
theorem or_digit (m d : Nat) (hm : m < 281474976710656) (hd : d < 65536) : bits .or .u64 (((m * 65536 : Nat)) : Int) (d : Int) = ((m * 65536 + d : Nat) : Int) := by
  rw [bits_or_u64_nat _ _ (by omega) (by omega), Nat.mul_comm m 65536]
  congr 1
  exact (Nat.two_pow_add_eq_or_of_lt (i := 16) hd m).symm

theorem vl_drop_next {l : List Nat} {k d : Nat} (h : l[k]? = some d) : vl (l.drop k) = vl (l.drop (k + 1)) * 65536 + d := by
  rw [vl_drop1 h]; omega
theorem vl_drop_lt {l : List Nat} (h : Dig l) {k m : Nat} (hk : l.length ≤ k + m) : vl (l.drop k) < pw m := by
  have h1 : Dig (l.drop k) := fun d hd => h d (List.mem_of_mem_drop hd)
  have h2 := vl_lt' h1
  rw [List.length_drop] at h2
  exact Nat.lt_of_lt_of_le h2 (pw_mono (by omega))

set_option maxHeartbeats 1600000 in
theorem leading_any (A : Option Addr) (n c : Nat) (l : List Nat) (B : Nat) (w : World) (h : Arr nv w B (.slice A n c) l) (hl : Dig l) (hn : n ≤ 4) :
    Calls Tryd.prog 45 #[.slice A n c] w fun e w' => e = .returned (.int .u64 (vl l : Int)) ∧ w = w' := by
  have HL := Lib.hid h.len
  go_enter Tryd.func45, Tryd.ntmps45
  go_wp2
  go_loop [3, 4, 7] (fun m _ i => ∃ j k M : Nat, k + j = n ∧ i = .int .i64 (j : Int) ∧ m = .int .u64 (M : Int) ∧ Hid (vl (l.drop k) = M)) (fun _ _ i => n - (intOf i).toNat)
  case atStart => exact ⟨0, n, 0, by omega, rfl, rfl, Lib.hid (by rw [List.drop_of_length_le (by have := HL.out; omega)]; rfl)⟩
  case round =>
    obtain ⟨j, k, M, hk, rfl, rfl, HM⟩ := hrel
    cases k with
    | zero =>
      obtain rfl : j = n := by omega
      have HE : Hid (vl l = M) := Lib.hid (by have := HM.out; rwa [List.drop_zero] at this)
      go_wp2
      go_ret
      exact ⟨by rw [HE.out]; rfl, rfl⟩
    | succ k =>
      obtain ⟨b0, o0, rfl, hB0, hc0⟩ := h.some_ (by omega)
      obtain ⟨x, hat⟩ : ∃ x, l[k]? = some x := ⟨_, List.getElem?_eq_getElem (by have := HL.out; omega)⟩
      have d0 := hc0 k x hat
      simp only [nv] at d0
      have hx := hl.at_ hat
      have hM : M < 281474976710656 := by
        have h1 := vl_drop_lt hl (k := k + 1) (m := 3) (by have := HL.out; omega)
        rw [HM.out] at h1
        have h2 : pw 3 = 281474976710656 := by decide
        omega
      have i0 : (j : Int) < (n : Int) := by omega
      have i1 : (n : Int) - 1 - (j : Int) = (k : Int) := by omega
      have s0 : IntKind.u64.wrap ((M : Int) * 65536) = (M : Int) * 65536 := wraps_u64 _ (by omega) (by omega)
      have hor := or_digit M x hM hx
      have hcast : ((M * 65536 : Nat) : Int) = (M : Int) * 65536 := by simp
      rw [hcast] at hor
      have HS : Hid (vl (l.drop k) = M * 65536 + x) := Lib.hid (by rw [vl_drop_next hat, HM.out])
      clear hc0 hat
      go_wp2
      go_round
      case rel => exact ⟨j + 1, k, M * 65536 + x, by omega, by go_num, by go_num, HS⟩
      case measure => simp [intOf]; omega

end Go.Proofs.YtheadamdhjhnpaaDoor
