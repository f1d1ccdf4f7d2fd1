/-
  The contract of the reference's Parse.
-/
import Derived.Test.YtjmmhgdafjdmdaaParse
namespace Go.Proofs.Ytjmmhgdafjdmdaa
open Go.RowKit

theorem mod_step (a d : Nat) (h : d < 16) : 16 * (a % 4294967296) % 4294967296 + d = (16 * a + d) % 4294967296 := by omega

set_option maxRecDepth 100000 in
set_option maxHeartbeats 1600000 in
theorem refParse_any (s : List UInt8) (w : World) (hlen : s.length ≤ 1000000000000) :
    Calls Try.prog 23 #[.string (str s)] w fun e w' => ParseEnd s e ∧ w = w' := by
  have hsz : (str s).size = s.length := rfl
  go_enter Try.func23, Try.ntmps23
  go_wp2
  go_loop [4, 5] (fun x i => ∃ k X : Nat, k ≤ s.length ∧ Hid (X = acc (s.take k) % 4294967296) ∧ Hid (allHex (s.take k) = true) ∧ X < 4294967296 ∧ x = .int .u32 (X : Int) ∧ i = .int .i64 (k : Int)) (fun _ i => s.length - (intOf i).toNat)
  case atStart => exact ⟨0, 0, by omega, Lib.hid rfl, Lib.hid rfl, by omega, rfl, rfl⟩
  case round =>
    obtain ⟨k, X, hk, HX, HA, hX, rfl, rfl⟩ := hrel
    by_cases hlt : k < s.length
    · have hkl : k < (str s).size := hlt
      have hat := str_at s k hkl
      have h16 := hexVal_le ((str s)[k])
      by_cases hv : hexVal ((str s)[k]) < 16
      · have ht : ((hexVal ((str s)[k]) : Int) == 16) = false := by simp; omega
        have HN : Hid (16 * X % 4294967296 + hexVal ((str s)[k]) = acc (s.take (k + 1)) % 4294967296) := Lib.hid (by rw [take_next hat, acc_snoc, HX.out]; exact mod_step _ _ hv)
        have HA2 : Hid (allHex (s.take (k + 1)) = true) := Lib.hid (by rw [take_next hat, allHex_snoc, HA.out, decide_eq_true hv]; rfl)
        have HAT := Lib.hid hat
        clear hat
        go_wp2_with fail
        refine (digit_any _ _).mono ?_
        rintro e w' ⟨rfl, rfl⟩
        go_wp2_with fail
        refine (digit_any _ _).mono ?_
        rintro e w' ⟨rfl, rfl⟩
        go_wp2
        go_round
        case rel => exact ⟨k + 1, 16 * X % 4294967296 + hexVal ((str s)[k]), by omega, HN, HA2, by omega, by go_num, by go_num⟩
        case measure => simp [intOf]; omega
      · have ht : ((hexVal ((str s)[k]) : Int) == 16) = true := by simp; omega
        have hbad := allHex_take hat hv
        have HE := Lib.hid (ParseEnd.bad (s := s) (by rw [hbad]; simp))
        clear hbad hat
        go_wp2_with fail
        refine (digit_any _ _).mono ?_
        rintro e w' ⟨rfl, rfl⟩
        go_wp2
        go_ret2
        exact ⟨HE.out, rfl⟩
    · obtain rfl : k = s.length := by omega
      have e8 : s.take s.length = s := List.take_of_length_le (Nat.le_refl _)
      have hall : allHex s = true := by have := HA.out; rwa [e8] at this
      by_cases h8 : s.length = 8
      · have ht : ((s.length : Int) != 8) = false := by rw [h8]; rfl
        have HE : Hid (ParseEnd s (.returned (.tuple #[.int .u32 (X : Int), .int .i64 0]))) := Lib.hid (ParseEnd.good h8 hall (by rw [HX.out, e8]; exact Nat.mod_eq_of_lt (parse_good h8 hall).2.2))
        clear e8 h8 hall
        go_wp2
        go_ret2
        exact ⟨HE.out, rfl⟩
      · have ht : ((s.length : Int) != 8) = true := by simp; omega
        have HE := Lib.hid (ParseEnd.bad (s := s) (fun h => h8 h.1))
        clear e8 hall
        go_wp2
        go_ret2
        exact ⟨HE.out, rfl⟩

end Go.Proofs.Ytjmmhgdafjdmdaa
