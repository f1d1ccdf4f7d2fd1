/-
  The contracts of Parse, of the program and of the reference.
-/
import Derived.Test.YtjmmhgdafjdmdaaPrint
import Derived.Lib.Bytealg
namespace Go.Proofs.Ytjmmhgdafjdmdaa
open Go.RowKit

/-- What IndexByte hands back at the digits. -/
def idxVal (c : UInt8) : Int := if hexVal c < 16 then (hexVal c : Int) else -1

theorem index_hex (c : UInt8) : Lib.indexByte hexL c = idxVal c := by
  unfold idxVal
  have key : ∀ x : Fin 256, Lib.indexByte hexL (UInt8.ofNat x.val) = if hexVal (UInt8.ofNat x.val) < 16 then (hexVal (UInt8.ofNat x.val) : Int) else -1 := by decide +kernel
  have h := key ⟨c.toNat, c.toNat_lt⟩
  simpa using h

set_option maxHeartbeats 400000 in
theorem liteIndex_any (s : ByteArray) (c : Int) (w : World) :
    Calls Try.prog 39 #[.string s, .int .u8 c] w fun e w' => e = .returned (.int .i64 (Lib.indexByte s.data.toList c.toNat.toUInt8)) ∧ w = w' := by
  go_enter Try.func39, Try.ntmps39
  go_wp2
  rw [run_callFunc_extern Try.func40 (by kernel_rfl) (by kernel_rfl) (by kernel_rfl) (e := Extern.BytealgIndexByte.indexByte) (by kernel_rfl), Lib.run_indexByteString]
  simp only [Result.andThen]
  rw [Oper.upon_value]
  go_wp2
  go_ret
  exact ⟨rfl, rfl⟩

set_option maxHeartbeats 400000 in
theorem index_any (c : UInt8) (w : World) :
    Calls Try.prog 34 #[.string hexS, .int .u8 (c.toNat : Int)] w fun e w' => e = .returned (.int .i64 (idxVal c)) ∧ w = w' := by
  go_enter Try.func34, Try.ntmps34
  go_wp2_with (go_at_call 39; refine (liteIndex_any _ _ _).mono ?_; rintro e w' ⟨rfl, rfl⟩)
  go_ret
  refine ⟨?_, rfl⟩
  have h := index_hex c
  rw [← h]
  exact ret_int rfl

set_option maxRecDepth 100000 in
set_option maxHeartbeats 400000 in
theorem digit_any (c : UInt8) (w : World) :
    Calls Try.prog 35 #[.int .u8 (c.toNat : Int)] w fun e w' => e = .returned (.int .u32 (hexVal c : Int)) ∧ w = w' := by
  go_enter Try.func35, Try.ntmps35
  go_wp2
  go_loop [3] (fun x => ∃ k : Nat, k ≤ 16 ∧ x = .int .u32 (k : Int) ∧ Hid (∀ j, j < k → hexAt j ≠ c)) (fun x => 16 - (intOf x).toNat)
  case atStart => exact ⟨0, by omega, rfl, Lib.hid fun j hj => absurd hj (by omega)⟩
  case round =>
    obtain ⟨k, hk, rfl, HN⟩ := hrel
    by_cases hlt : k < 16
    · have hS := hexS_at k hlt
      have HS := Lib.hid hS
      clear hS
      go_wp2
      · have h : ((hexS[k]).toNat : Int) = (c.toNat : Int) := beq_iff_eq.1 (by assumption)
        rw [HS.out] at h
        have h2 : hexAt k = c := UInt8.toNat_inj.1 (by omega)
        have h3 := hexVal_hexAt ⟨k, hlt⟩
        simp only at h3
        rw [h2] at h3
        have H3 := Lib.hid h3
        clear h h2 h3
        go_ret
        exact ⟨ret_int (by rw [H3.out]), rfl⟩
      · have h : ¬ ((hexS[k]).toNat : Int) = (c.toNat : Int) := by
          have hf : (((hexS[k]).toNat : Int) == (c.toNat : Int)) = false := by assumption
          intro e; rw [e, beq_self_eq_true] at hf; cases hf
        rw [HS.out] at h
        have h2 : hexAt k ≠ c := fun e => h (by rw [e])
        have H2 : Hid (∀ j, j < k + 1 → hexAt j ≠ c) := Lib.hid fun j hj => by
          by_cases e : j = k
          · subst e; exact h2
          · exact HN.out j (by omega)
        clear h h2
        go_round
        case rel => exact ⟨k + 1, by omega, by go_num, H2⟩
        case measure => simp [intOf]; omega
    · obtain rfl : k = 16 := by omega
      have h16 : hexVal c = 16 := by
        have h1 := hexVal_le c
        by_cases h2 : hexVal c < 16
        · exact absurd (hexAt_hexVal h2) (HN.out _ h2)
        · omega
      go_wp2
      go_ret
      exact ⟨rfl, rfl⟩

theorem index_yes (c : UInt8) (w : World) (h : hexVal c < 16) :
    Calls Try.prog 34 #[.string hexS, .int .u8 (c.toNat : Int)] w fun e w' => e = .returned (.int .i64 (hexVal c : Int)) ∧ w = w' :=
  (index_any c w).mono fun e w' ⟨h1, h2⟩ => ⟨by rw [h1]; unfold idxVal; rw [if_pos h], h2⟩
theorem index_no (c : UInt8) (w : World) (h : ¬ hexVal c < 16) :
    Calls Try.prog 34 #[.string hexS, .int .u8 (c.toNat : Int)] w fun e w' => e = .returned (.int .i64 (-1)) ∧ w = w' :=
  (index_any c w).mono fun e w' ⟨h1, h2⟩ => ⟨by rw [h1]; unfold idxVal; rw [if_neg h], h2⟩

theorem str_at (s : List UInt8) (k : Nat) (h : k < (str s).size) : s[k]? = some ((str s)[k]) := List.getElem?_eq_getElem h

theorem take_next {s : List UInt8} {k : Nat} {c : UInt8} (h : s[k]? = some c) : s.take (k + 1) = s.take k ++ [c] := by
  obtain ⟨hl, he⟩ := List.getElem?_eq_some_iff.1 h
  rw [List.take_succ_eq_append_getElem hl, he]

theorem or_digit (x d : Nat) (hx : x < 268435456) (hd : d < 16) : bits .or .u32 ((x : Int) * 16) (d : Int) = ((16 * x + d : Nat) : Int) := by
  rw [bits_join .u32 32 (by decide) wraps32 4 ((x : Int) * 16) d (by omega) (by omega) (by omega) (by omega) (by omega) (by omega)]
  omega

/-- What both hand back. -/
def ParseEnd (s : List UInt8) (e : Ending) : Prop := e = .returned (.tuple #[.int .u32 (parseN s : Int), .int .i64 (parseE s : Int)])

theorem ParseEnd.bad {s : List UInt8} (h : ¬ (s.length = 8 ∧ allHex s = true)) : ParseEnd s (.returned (.tuple #[.int .u32 0, .int .i64 7])) := by
  obtain ⟨h1, h2⟩ := parse_bad h
  unfold ParseEnd; rw [h1, h2]; rfl
theorem ParseEnd.good {s : List UInt8} (h1 : s.length = 8) (h2 : allHex s = true) {x : Nat} (hx : x = acc s) : ParseEnd s (.returned (.tuple #[.int .u32 (x : Int), .int .i64 0])) := by
  obtain ⟨h1, h2, _⟩ := parse_good h1 h2
  unfold ParseEnd; rw [h1, h2, hx]; rfl

set_option maxRecDepth 100000 in
set_option maxHeartbeats 1600000 in
theorem parse_any (s : List UInt8) (w : World) :
    Calls Try.prog 22 #[.string (str s)] w fun e w' => ParseEnd s e ∧ w = w' := by
  by_cases h8 : s.length = 8
  · have hsz : (str s).size = 8 := h8
    go_enter Try.func22, Try.ntmps22
    go_wp2
    go_loop [4, 5, 6, 12] (fun x _ _ i => ∃ k X : Nat, k ≤ 8 ∧ Hid (X = acc (s.take k)) ∧ Hid (allHex (s.take k) = true) ∧ X < 16 ^ k ∧ x = .int .u32 (X : Int) ∧ i = .int .i64 (k : Int)) (fun _ _ _ i => 8 - (intOf i).toNat)
    case atStart => exact ⟨0, 0, by omega, Lib.hid rfl, Lib.hid rfl, by omega, rfl, rfl⟩
    case round =>
      obtain ⟨k, X, hk, HX, HA, hX, rfl, rfl⟩ := hrel
      by_cases hlt : k < 8
      · have hkl : k < (str s).size := by rw [hsz]; exact hlt
        have hat := str_at s k hkl
        have h7 : X < 268435456 := Nat.lt_of_lt_of_le hX (Nat.pow_le_pow_right (j := 7) (by omega) (by omega))
        by_cases hv : hexVal ((str s)[k]) < 16
        · have hor := or_digit X _ h7 hv
          have HN : Hid (16 * X + hexVal ((str s)[k]) = acc (s.take (k + 1))) := Lib.hid (by rw [take_next hat, acc_snoc, ← HX.out])
          have HA2 : Hid (allHex (s.take (k + 1)) = true) := Lib.hid (by rw [take_next hat, allHex_snoc, HA.out, decide_eq_true hv]; rfl)
          have HB : Hid (16 * X + hexVal ((str s)[k]) < 16 ^ (k + 1)) := Lib.hid (by rw [Nat.pow_succ]; omega)
          have HAT := Lib.hid hat
          clear hat hX
          go_wp2_with fail
          refine (index_yes _ _ hv).mono ?_
          rintro e w' ⟨rfl, rfl⟩
          go_wp2
          go_round
          case rel => exact ⟨k + 1, _, by omega, HN, HA2, HB.out, rfl, by go_num⟩
          case measure => simp [intOf]; omega
        · have hbad := allHex_take hat hv
          have HE := Lib.hid (ParseEnd.bad (s := s) (by rw [hbad]; simp))
          clear hbad hat hX
          go_wp2_with fail
          refine (index_no _ _ hv).mono ?_
          rintro e w' ⟨rfl, rfl⟩
          go_wp2
          go_ret2
          exact ⟨HE.out, rfl⟩
      · obtain rfl : k = 8 := by omega
        have e8 : s.take 8 = s := List.take_of_length_le (by omega)
        have HE : Hid (ParseEnd s (.returned (.tuple #[.int .u32 (X : Int), .int .i64 0]))) := Lib.hid (ParseEnd.good h8 (by have := HA.out; rwa [e8] at this) (by rw [HX.out, e8]))
        clear e8
        go_wp2
        go_ret2
        exact ⟨HE.out, rfl⟩
  · have hne : ((s.length : Int) != 8) = true := by simp; omega
    have HE := Lib.hid (ParseEnd.bad (s := s) (fun h => h8 h.1))
    have hsz : (str s).size = s.length := rfl
    go_enter Try.func22, Try.ntmps22
    go_wp2
    go_ret2
    exact ⟨HE.out, rfl⟩

end Go.Proofs.Ytjmmhgdafjdmdaa
