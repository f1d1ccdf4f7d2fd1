/-
  Of two integers, that with the lesser folded number has the shorter encoding, or the lesser one of the same length: in plain mathematics, and the contract of the reference's Folded.
-/
import Derived.Test.YtefonoaffeahjaaAwake
namespace Go.Proofs.Ytefonoaffeahjaa
open Go.RowKit

theorem less_cons (c d : UInt8) (s t : List UInt8) : Op.bytesLess (c :: s) (d :: t) = (decide (c.toNat < d.toNat) || (decide (c.toNat = d.toNat) && Op.bytesLess s t)) := by
  rw [Op.bytesLess]
  have h1 : decide (c < d) = decide (c.toNat < d.toNat) := by rw [decide_eq_decide]; exact UInt8.lt_iff_toNat_lt
  have h2 : (c == d) = decide (c.toNat = d.toNat) := by
    rw [Bool.eq_iff_iff, beq_iff_eq, decide_eq_true_iff]; exact UInt8.toNat_inj.symm
  rw [h1, h2]

theorem less_hi (u : Nat) : ∀ (v : Nat) (s t : List UInt8), (hi u).length = (hi v).length → Op.bytesLess (hi u ++ s) (hi v ++ t) = (decide (u < v) || (decide (u = v) && Op.bytesLess s t)) := by
  induction u using Nat.strongRecOn with
  | ind u ih =>
    intro v s t hl
    by_cases hu : u = 0
    · subst hu
      by_cases hv : v = 0
      · subst hv; rw [hi_zero]; simp
      · rw [hi_zero, hi_succ hv, List.length_append] at hl; simp at hl
    · by_cases hv : v = 0
      · rw [hv, hi_zero, hi_succ hu, List.length_append] at hl; simp at hl
      · rw [hi_succ hu, hi_succ hv] at hl ⊢
        rw [List.length_append, List.length_append] at hl
        simp only [List.length_cons, List.length_nil] at hl
        rw [List.append_assoc, List.append_assoc, ih (u / 128) (by omega) _ _ _ (by omega)]
        simp only [List.cons_append, List.nil_append]
        rw [less_cons, toNat_of _ (by omega), toNat_of _ (by omega)]
        by_cases h1 : u / 128 < v / 128
        · rw [decide_eq_true h1, decide_eq_true (show u < v by omega)]; rfl
        · by_cases h2 : u / 128 = v / 128
          · by_cases h3 : u % 128 + 128 < v % 128 + 128
            · rw [decide_eq_true h3, decide_eq_true h2, decide_eq_true (show u < v by omega)]; simp
            · by_cases h4 : u = v
              · subst h4; simp
              · have h5 : ¬ u % 128 + 128 = v % 128 + 128 := by omega
                rw [decide_eq_false h3, decide_eq_false h5, decide_eq_false h4, decide_eq_false (show ¬ u < v by omega)]; simp; omega
          · rw [decide_eq_false h1, decide_eq_false h2, decide_eq_false (show ¬ u < v by omega), decide_eq_false (show ¬ u = v by omega)]; rfl

theorem less_enc (u v : Nat) (hl : (enc u).length = (enc v).length) : Op.bytesLess (enc u) (enc v) = decide (u < v) := by
  unfold enc at hl ⊢
  rw [List.length_append, List.length_append] at hl
  simp only [List.length_cons, List.length_nil] at hl
  rw [less_hi _ _ _ _ (by omega), less_cons, toNat_of _ (by omega), toNat_of _ (by omega)]
  have h0 : Op.bytesLess [] [] = false := rfl
  rw [h0, Bool.and_false, Bool.or_false, Bool.eq_iff_iff]
  simp only [Bool.or_eq_true, Bool.and_eq_true, decide_eq_true_eq]
  omega

theorem enc_lt {u v : Nat} (h : (enc u).length < (enc v).length) : u < v := by
  rcases Nat.lt_or_ge u v with h1 | h1
  · exact h1
  · have := enc_len v u h1; omega

theorem enc_inj {u v : Nat} (h : enc u = enc v) (hu : u < 2 ^ 64) : u = v := by
  by_cases hv : v < 2 ^ 64
  · have h1 := dec_enc u [] hu
    have h2 := dec_enc v [] hv
    rw [h, h2] at h1
    simpa using h1.symm
  · have h1 := dec_enc u [] hu
    rw [List.append_nil, h] at h1
    have := dec_canon h1
    have h3 := less_enc u v (by rw [h])
    have h4 := less_enc v u (by rw [h])
    rw [h] at h3
    rw [h] at h4
    rw [h3] at h4
    by_cases h5 : u < v
    · rw [decide_eq_true h5, decide_eq_false (by omega)] at h4; cases h4
    · omega

theorem encI_inj {x y : Int} (h : encI x = encI y) (h0 : -9223372036854775808 ≤ x) (h1 : x ≤ 9223372036854775807) : x = y := by
  have := enc_inj h (zig_lt x h0 h1)
  rw [← unzig_zig x, ← unzig_zig y, this]

set_option maxHeartbeats 400000 in
theorem folded_any (n : Int) (w : World) (h0 : -9223372036854775808 ≤ n) (h1 : n ≤ 9223372036854775807) :
    Calls Try.prog 31 #[.int .i64 n] w fun e w' => e = .returned (.int .u64 (zig n)) ∧ w = w' := by
  by_cases hn : 0 ≤ n
  · go_enter Try.func31, Try.ntmps31
    go_wp2
    go_ret
    exact ⟨end_int (by unfold zig; rw [if_pos hn]; omega), rfl⟩
  · have hz : (zig n : Int) = 2 * (-(n + 1)) + 1 := by unfold zig; rw [if_neg hn]; omega
    have HZ := Lib.hid hz
    clear hz
    go_enter Try.func31, Try.ntmps31
    go_wp2
    go_ret
    exact ⟨end_int (by rw [HZ.out]), rfl⟩

theorem order_all (x y : Int) (h0 : -9223372036854775808 ≤ x) (h1 : x ≤ 9223372036854775807) :
    ((encI x).length < (encI y).length → decide (zig x < zig y) = true) ∧ ((encI x).length = (encI y).length → Op.bytesLess (encI x) (encI y) = decide (zig x < zig y)) ∧
    (¬ (encI x).length < (encI y).length → ¬ (encI x).length = (encI y).length → decide (zig x < zig y) = false) ∧ (encI x == encI y) = (x == y) := by
  refine ⟨fun h => decide_eq_true (enc_lt h), fun h => less_enc _ _ h, fun h h' => ?_, ?_⟩
  · have : zig y < zig x := enc_lt (by unfold encI at h h'; omega)
    exact decide_eq_false (by omega)
  · by_cases h : x = y
    · subst h; simp
    · have : encI x ≠ encI y := fun e => h (encI_inj e h0 h1)
      rw [beq_false_of_ne this, beq_false_of_ne h]

set_option maxHeartbeats 1600000 in
theorem wireOrder_any (x y : Int) (w : World) (h0 : -9223372036854775808 ≤ x) (h1 : x ≤ 9223372036854775807) (k0 : -9223372036854775808 ≤ y) (k1 : y ≤ 9223372036854775807) :
    Calls Try.prog 7 #[.int .i64 x, .int .i64 y] w fun e w' => e = .returned (.bool true) ∧ Below w.heap.size w w' := by
  obtain ⟨hlt, heq, hgt, hsame⟩ := order_all x y h0 h1
  have HS := Lib.hid hsame
  clear hsame
  go_enter Try.func7, Try.ntmps7
  go_wp2_with fail
  refine (awake_any w).mono ?_
  rintro e w1 ⟨rfl, hb1⟩
  go_wp2_with fail
  refine (int_own _ [] x _ _ h0 h1 (World.ownsRow_nil _ w1.heap.size _ _) (by simp) (by simp)).mono ?_
  rintro e w2 ⟨v2, rfl, hown2, hb2⟩
  rw [List.nil_append] at hown2
  have hs2 := Sl.of_own hown2
  go_wp2_with fail
  refine (int_own _ [] y _ _ k0 k1 (World.ownsRow_nil _ w2.heap.size _ _) (by simp) (by simp)).mono ?_
  rintro e w3 ⟨v3, rfl, hown3, hb3⟩
  rw [List.nil_append] at hown3
  have hs3 := Sl.of_own hown3
  have hs2' := hs2.up (grown_of_below none hb3)
  have hall : Below w.heap.size w w3 := ((below_of_grown hb1).trans (hb2.mono hb1.size)).trans (hb3.mono (Nat.le_trans hb1.size hb2.size))
  have k1' := conv_bytes (P := Try.prog) hs2' 22 5 9 Try.underlying22 Try.underlying5 Try.underlying9
  have k2' := conv_bytes (P := Try.prog) hs3 22 5 9 Try.underlying22 Try.underlying5 Try.underlying9
  obtain ⟨A2, c2, hv2⟩ := hs2'.form
  obtain ⟨A3, c3, hv3⟩ := hs3.form
  obtain ⟨n2, hn2⟩ : ∃ n, (encI x).length = n := ⟨_, rfl⟩
  obtain ⟨n3, hn3⟩ : ∃ n, (encI y).length = n := ⟨_, rfl⟩
  rw [hn2] at hv2 hlt heq hgt
  rw [hn3] at hv3 hlt heq hgt
  have HS2 := Lib.hid hs2'
  have HS3 := Lib.hid hs3
  clear hown2 hown3 hb1 hb2 hb3 hs2 hs2' hs3 hn2 hn3
  rw [hv2] at k1' HS2 ⊢
  rw [hv3] at k2' HS3 ⊢
  clear hv2 hv3
  by_cases c1 : n2 < n3
  · have d2 : zig x < zig y := of_decide_eq_true (hlt c1)
    clear hlt heq hgt
    go_wp2_with fail
    refine (folded_any x _ h0 h1).mono ?_
    rintro e w4 ⟨rfl, rfl⟩
    go_wp2_with fail
    refine (folded_any y _ k0 k1).mono ?_
    rintro e w4 ⟨rfl, rfl⟩
    go_wp2_with fail
    refine (same_any _ _ _ _ _ _ HS2.out HS3.out).mono ?_
    rintro e w4 ⟨rfl, rfl⟩
    rw [HS.out]
    go_wp2_with fail
    go_ret
    exact ⟨rfl, hall⟩
  · by_cases c2 : n2 = n3
    · have d2 : Op.bytesLess (str (encI x)).toList (str (encI y)).toList = decide (zig x < zig y) := by rw [str_toList, str_toList]; exact heq c2
      subst c2
      clear hlt heq hgt
      by_cases c3 : zig x < zig y
      · rw [decide_eq_true c3] at d2
        go_wp2_with fail
        refine (folded_any x _ h0 h1).mono ?_
        rintro e w4 ⟨rfl, rfl⟩
        go_wp2_with fail
        refine (folded_any y _ k0 k1).mono ?_
        rintro e w4 ⟨rfl, rfl⟩
        go_wp2_with fail
        refine (same_any _ _ _ _ _ _ HS2.out HS3.out).mono ?_
        rintro e w4 ⟨rfl, rfl⟩
        rw [HS.out]
        go_wp2_with fail
        go_ret
        exact ⟨rfl, hall⟩

      · rw [decide_eq_false c3] at d2
        go_wp2_with fail
        refine (folded_any x _ h0 h1).mono ?_
        rintro e w4 ⟨rfl, rfl⟩
        go_wp2_with fail
        refine (folded_any y _ k0 k1).mono ?_
        rintro e w4 ⟨rfl, rfl⟩
        go_wp2_with fail
        refine (same_any _ _ _ _ _ _ HS2.out HS3.out).mono ?_
        rintro e w4 ⟨rfl, rfl⟩
        rw [HS.out]
        go_wp2_with fail
        go_ret
        exact ⟨rfl, hall⟩

    · have d2 := of_decide_eq_false (hgt c1 c2)
      clear hlt heq hgt
      go_wp2_with fail
      refine (folded_any x _ h0 h1).mono ?_
      rintro e w4 ⟨rfl, rfl⟩
      go_wp2_with fail
      refine (folded_any y _ k0 k1).mono ?_
      rintro e w4 ⟨rfl, rfl⟩
      go_wp2_with fail
      refine (same_any _ _ _ _ _ _ HS2.out HS3.out).mono ?_
      rintro e w4 ⟨rfl, rfl⟩
      rw [HS.out]
      go_wp2_with fail
      go_ret
      exact ⟨rfl, hall⟩

end Go.Proofs.Ytefonoaffeahjaa
