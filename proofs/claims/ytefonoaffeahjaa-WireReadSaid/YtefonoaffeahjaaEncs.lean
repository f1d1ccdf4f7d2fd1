/-
  The contracts of wire.Texts and wire.Ints over a row of the call's own.
-/
import Derived.Test.YtefonoaffeahjaaEncList
namespace Go.Proofs.Ytefonoaffeahjaa
open Go.RowKit

set_option maxHeartbeats 1600000 in
theorem appendTexts (v lv : Value) (bs : List UInt8) (xs : List (List UInt8)) (base : Nat) (w : World)
    (hown : w.ownsRow base 5 1 v bs.length (bs.map bv)) (hl : Arr sv w base lv xs) (hbase : base ≤ w.heap.size) (hlen : (bs ++ encList encT xs).length ≤ 100000000000) (hxl : xs.length ≤ 100000000000) :
    Calls Try.prog 37 #[v, lv, .func (.func 22) #[] #[]] w fun e w' => ∃ v', e = .returned v' ∧ w'.ownsRow base 5 1 v' (bs ++ encList encT xs).length ((bs ++ encList encT xs).map bv) ∧ Below base w w' := by
  obtain ⟨A, n, c, rfl⟩ := hl.form
  have hn := hl.len
  have hbl : bs.length + 10 ≤ 1000000000000 := by rw [List.length_append] at hlen; omega
  have HN := Lib.hid hn
  have hnl : n ≤ 100000000000 := by omega
  clear hn
  go_enter Try.func37, Try.ntmps37
  go_wp2_with fail
  refine (int_own v bs n base w (by omega) (by omega) hown hbase hbl).mono ?_
  rintro e w1 ⟨v1, rfl, hown1, hb1⟩
  go_wp2_with fail
  go_loopw [0, 15] (fun vb vi wr => ∃ k : Nat, k ≤ n ∧ vi = .int .i64 k ∧ wr.ownsRow base 5 1 vb (bs ++ (encI n ++ encs encT (xs.take k))).length ((bs ++ (encI n ++ encs encT (xs.take k))).map bv) ∧ Below base w wr) (fun _ vi _ => n - (intOf vi).toNat)
  case atStart => exact ⟨0, by omega, rfl, by simpa [encs] using hown1, hb1⟩
  case round =>
    obtain ⟨k, hk, rfl, hownr, hbr⟩ := hrel
    by_cases hkn : k < n
    · obtain ⟨b, off, u, hA, hu, hcell⟩ := (hl.below hbr).at_ hkn
      simp only [sv] at hcell
      have hroom := enc_room encT bs xs (k + 1) hlen
      rw [HN.out, encs_take encT xs hu] at hroom
      have hroom2 : (bs ++ (encI n ++ encs encT (xs.take k))).length + u.length + 10 ≤ 1000000000000 := by
        unfold encT at hroom ⊢
        simp only [List.length_append] at hroom ⊢
        omega
      have HT := Lib.hid (encs_take encT xs hu)
      have hbase2 : base ≤ wr.heap.size := by have := hbr.size; omega
      clear hu hroom
      rw [hA]
      go_wp2_with fail
      refine (text_own _ _ u base wr hownr hbase2 hroom2).mono ?_
      rintro e w2 ⟨v2, rfl, hown2, hb2⟩
      go_wp2_with fail
      go_roundw
      case rel => exact ⟨k + 1, by omega, value_int (by omega), by rw [HT.out]; simpa [List.append_assoc] using hown2, hbr.trans hb2⟩
      case measure => simp [intOf]; omega
    · have hkn' : k = n := by omega
      subst hkn'
      clear hkn
      go_wp2
      go_ret
      have hn := HN.out
      rw [List.take_of_length_le (by omega)] at hownr
      refine ⟨_, rfl, ?_, hbr⟩
      unfold encList
      rw [hn]
      exact hownr

set_option maxHeartbeats 800000 in
theorem ints_own (v lv : Value) (bs : List UInt8) (xs : List Int) (base : Nat) (w : World) (hx : ∀ x ∈ xs, -9223372036854775808 ≤ x ∧ x ≤ 9223372036854775807)
    (hown : w.ownsRow base 5 1 v bs.length (bs.map bv)) (hl : Arr iv w base lv xs) (hbase : base ≤ w.heap.size) (hlen : (bs ++ encList encI xs).length ≤ 100000000000) (hxl : xs.length ≤ 100000000000) :
    Calls Try.prog 19 #[v, lv] w fun e w' => ∃ v', e = .returned v' ∧ w'.ownsRow base 5 1 v' (bs ++ encList encI xs).length ((bs ++ encList encI xs).map bv) ∧ Below base w w' := by
  go_enter Try.func19, Try.ntmps19
  go_wp2_with fail
  refine (appendInts v lv bs xs base w hx hown hl hbase hlen hxl).mono ?_
  rintro e w1 ⟨v1, rfl, hown1, hb1⟩
  go_wp2_with fail
  go_ret
  exact ⟨_, rfl, hown1, hb1⟩

set_option maxHeartbeats 800000 in
theorem texts_own (v lv : Value) (bs : List UInt8) (xs : List (List UInt8)) (base : Nat) (w : World)
    (hown : w.ownsRow base 5 1 v bs.length (bs.map bv)) (hl : Arr sv w base lv xs) (hbase : base ≤ w.heap.size) (hlen : (bs ++ encList encT xs).length ≤ 100000000000) (hxl : xs.length ≤ 100000000000) :
    Calls Try.prog 18 #[v, lv] w fun e w' => ∃ v', e = .returned v' ∧ w'.ownsRow base 5 1 v' (bs ++ encList encT xs).length ((bs ++ encList encT xs).map bv) ∧ Below base w w' := by
  go_enter Try.func18, Try.ntmps18
  go_wp2_with fail
  refine (appendTexts v lv bs xs base w hown hl hbase hlen hxl).mono ?_
  rintro e w1 ⟨v1, rfl, hown1, hb1⟩
  go_wp2_with fail
  go_ret
  exact ⟨_, rfl, hown1, hb1⟩

end Go.Proofs.Ytefonoaffeahjaa
