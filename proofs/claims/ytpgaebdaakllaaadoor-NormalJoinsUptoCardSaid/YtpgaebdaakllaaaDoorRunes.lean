/-
  The characters of a range over a string, and those of the reference.
-/
import Derived.Test.YtpgaebdaakllaaaDoorRefCut
import Derived.Laws.RangeAny
import Derived.Lib.OthersKept
namespace Go.Proofs.YtpgaebdaakllaaaDoor
open Go.RowKit

theorem get_str (s : List UInt8) (j : Nat) : (str s).get! j = s.getD j 0 := by
  show (s.toArray)[j]! = _
  simp [List.getD]
  rfl
/-- The character at the beginning of a list of bytes, as Go reads it, and its width. -/
def runeAt (t : List UInt8) : Nat × Nat := Utf8.decode (str t) 0
theorem decode_drop (s : List UInt8) (k : Nat) : Utf8.decode (str s) k = runeAt (s.drop k) := by
  have hg : ∀ j, (str s).get! (k + j) = (str (s.drop k)).get! (0 + j) := by
    intro j
    rw [get_str, get_str]
    simp [List.getD]
  have hl : ∀ j, (k + j < (str s).size) = (0 + j < (str (s.drop k)).size) := by
    intro j
    show (k + j < s.length) = (0 + j < (s.drop k).length)
    rw [List.length_drop]
    simp
    omega
  unfold runeAt Utf8.decode
  simp only [hg, hl]

theorem rune_ascii {b : UInt8} {t : List UInt8} (h : b.toNat < 128) : runeAt (b :: t) = (b.toNat, 1) := by
  unfold runeAt Utf8.decode
  simp only [get_str]
  simp [h]
def goodU (c : Nat) : Bool := decide (c < 55296) || decide (57344 ≤ c)
theorem rune_two {b c1 : UInt8} {t : List UInt8} (h : ¬ b.toNat < 128) (h2 : is2 b.toNat c1.toNat = true) : runeAt (b :: c1 :: t) = (v2 b.toNat c1.toNat, 2) := by
  obtain ⟨k1, k2, k3⟩ := is2_of h2
  have e1 : b.toNat / 32 = 6 := by omega
  have e2 : b.toNat % 32 * 64 + c1.toNat % 64 = v2 b.toNat c1.toNat := by unfold v2; omega
  have e3 : 128 ≤ v2 b.toNat c1.toNat := by unfold v2; omega
  have e4 : (0 + 1 < (str (b :: c1 :: t)).size) = True := by simp [str_size]
  unfold runeAt Utf8.decode
  simp only [get_str, e4]
  simp [h, e1, k3, e2, e3]
theorem valid_nat {c : Nat} (h : c < 65536) : Utf8.valid (c : Int) = goodU c := by
  unfold Utf8.valid goodU
  rw [Bool.eq_iff_iff]
  simp only [Bool.or_eq_true, Bool.and_eq_true, decide_eq_true_eq]
  omega
theorem rune_three {b c1 c2 : UInt8} {t : List UInt8} (h : ¬ b.toNat < 128) (h3 : is3 b.toNat c1.toNat c2.toNat = true) :
    runeAt (b :: c1 :: c2 :: t) = if goodU (v3 b.toNat c1.toNat c2.toNat) = true then (v3 b.toNat c1.toNat c2.toNat, 3) else (65533, 1) := by
  obtain ⟨k1, k2, k3, k4, k5⟩ := is3_of h3
  have e1 : ¬ b.toNat / 32 = 6 := by omega
  have e1' : b.toNat / 16 = 14 := by omega
  have e2 : b.toNat % 16 * 4096 + c1.toNat % 64 * 64 + c2.toNat % 64 = v3 b.toNat c1.toNat c2.toNat := by unfold v3; omega
  have e4 : (0 + 1 < (str (b :: c1 :: c2 :: t)).size) = True := by simp [str_size]
  have e5 : (0 + 2 < (str (b :: c1 :: c2 :: t)).size) = True := by simp [str_size]
  have e6 : v3 b.toNat c1.toNat c2.toNat < 65536 := by unfold v3; omega
  have e7 := valid_nat e6
  unfold runeAt Utf8.decode
  simp only [get_str, e4, e5]
  have g0 : (b :: c1 :: c2 :: t).getD (0 + 0) 0 = b := rfl
  have g1 : (b :: c1 :: c2 :: t).getD (0 + 1) 0 = c1 := rfl
  have g2 : (b :: c1 :: c2 :: t).getD (0 + 2) 0 = c2 := rfl
  rw [g0, g1, g2, e2, e7]
  generalize v3 b.toNat c1.toNat c2.toNat = V at *
  simp [h, e1, e1', k3, k4, k5, Utf8.runeError]

theorem no_kind_65533 : kindR 65533 = 0 := by kernel_rfl
theorem memB_none {l : List Nat} {c : Int} (hl : ∀ x ∈ l, x < 55296) (h : 55296 ≤ c) : memB l c = false := by
  unfold memB
  rw [List.any_eq_false]
  intro d hd
  have := hl d hd
  simp
  omega
theorem latin_low : ∀ x ∈ latinL, x < 55296 := of_decide_eq_true (by kernel_rfl)
theorem greek_low : ∀ x ∈ greekL, x < 55296 := of_decide_eq_true (by kernel_rfl)
theorem cyr_low : ∀ x ∈ cyrL, x < 55296 := of_decide_eq_true (by kernel_rfl)
theorem inB_false {c lo hi : Int} (h : ¬ (lo ≤ c ∧ c ≤ hi)) : inB c lo hi = false := by
  unfold inB
  rw [Bool.and_eq_false_iff]
  by_cases h1 : lo ≤ c
  · exact .inr (by simp; omega)
  · exact .inl (by simp; omega)
theorem kind_surrogate {c : Nat} (h : 55296 ≤ c) (h2 : c < 57344) : kindR (c : Int) = 0 := by
  unfold kindR clsR
  rw [inB_false (by omega), if_neg (by decide)]
  unfold clsN
  rw [inB_false (by omega), inB_false (by omega), inB_false (by omega), inB_false (by omega), inB_false (by omega), inB_false (by omega), inB_false (by omega), inB_false (by omega), inB_false (by omega), inB_false (by omega), inB_false (by omega),
    memB_none latin_low (by omega), memB_none greek_low (by omega), memB_none cyr_low (by omega)]
  have e : ∀ d : Int, d < 55296 ∨ 57344 ≤ d → ((c : Int) == d) = false := fun d hd => eqb_false (by omega)
  rw [e 32 (by omega), e 160 (by omega), e 178 (by omega), e 179 (by omega), e 185 (by omega), e 383 (by omega), e 64257 (by omega), e 64258 (by omega), e 803 (by omega), e 807 (by omega), e 808 (by omega)]
  rfl

theorem kind_big {c : Nat} (h : 65536 ≤ c) : kindR (c : Int) = 0 := by
  by_cases hk : kindR (c : Int) = 0
  · exact hk
  · have h1 : hasR (c : Int) = true := has_kind.2 hk
    have := has_range h1
    omega
theorem pair_snd {a b c d : Nat} (h : (a, b) = (c, d)) : b = d := congrArg Prod.snd h
theorem at_none_facts {t : List UInt8} (h0 : t ≠ []) (h : atR t = (0, 0)) :
    ¬ (t.getD 0 0).toNat < 128 ∧ (1 < t.length → is2 (t.getD 0 0).toNat (t.getD 1 0).toNat = false) ∧ (2 < t.length → is3 (t.getD 0 0).toNat (t.getD 1 0).toNat (t.getD 2 0).toNat = false) := by
  match t with
  | [] => exact absurd rfl h0
  | b :: t =>
    have hb : ¬ b.toNat < 128 := fun hb => by rw [at_ascii hb] at h; exact absurd (pair_snd h) (by decide)
    refine ⟨hb, ?_, ?_⟩
    · intro hl
      match t with
      | [] => simp at hl
      | c1 :: t =>
        show is2 b.toNat c1.toNat = false
        refine bool_false fun h2 => ?_
        rw [at_two hb h2] at h
        exact absurd (pair_snd h) (by decide)
    · intro hl
      match t with
      | [] => simp at hl
      | [_] => simp at hl
      | c1 :: c2 :: t =>
        show is3 b.toNat c1.toNat c2.toNat = false
        refine bool_false fun h3 => ?_
        have h2 : is2 b.toNat c1.toNat = false := is2_no (is3_of h3).1
        rw [at_three hb h2 h3] at h
        exact absurd (pair_snd h) (by decide)
theorem rune_none {t : List UInt8} (h0 : t ≠ []) (h : atR t = (0, 0)) : kindR ((runeAt t).1 : Int) = 0 := by
  obtain ⟨h1, h2, h3⟩ := at_none_facts h0 h
  have hl : (str t).size = t.length := rfl
  unfold runeAt Utf8.decode
  simp only [get_str, hl, Nat.zero_add]
  generalize (t.getD 0 0).toNat = b0 at *
  generalize (t.getD 1 0).toNat = b1 at *
  generalize (t.getD 2 0).toNat = b2 at *
  generalize (t.getD 3 0).toNat = b3 at *
  rw [if_neg h1]
  split
  · rename_i hc
    simp only [Bool.and_eq_true, beq_iff_eq, decide_eq_true_eq] at hc
    have h4 := of_decide_eq_false (h2 hc.2.1)
    rw [if_neg (by omega)]
    exact no_kind_65533
  · split
    · rename_i hc
      simp only [Bool.and_eq_true, beq_iff_eq, decide_eq_true_eq] at hc
      have h4 := of_decide_eq_false (h3 hc.2.1)
      unfold v3 at h4
      rw [if_neg (by
        simp only [Bool.and_eq_true, decide_eq_true_eq]
        rintro ⟨h5, _⟩
        omega)]
      exact no_kind_65533
    · split
      · split
        · rename_i hc
          simp only [Bool.and_eq_true, decide_eq_true_eq] at hc
          exact kind_big hc.1
        · exact no_kind_65533
      · exact no_kind_65533

/-- A character of a range is one of the repertoire exactly if the reference finds it there. -/
theorem rune_good {t : List UInt8} (h0 : t ≠ []) (h : kindR ((runeAt t).1 : Int) ≠ 0) : atR t = runeAt t := by
  rcases at_cases t with rfl | ⟨b, t, rfl, hb⟩ | ⟨b, c1, t, rfl, hb, h2⟩ | ⟨b, c1, c2, t, rfl, hb, h2, h3⟩ | ⟨_, hn⟩
  · exact absurd rfl h0
  · rw [at_ascii hb, rune_ascii hb]
  · rw [at_two hb h2, rune_two hb h2]
  · rw [at_three hb h2 h3, rune_three hb h3] at *
    split
    · rfl
    · rename_i hg
      rw [if_neg hg] at h
      exact absurd no_kind_65533 h
  · exact absurd (rune_none h0 hn) h
theorem rune_bad {t : List UInt8} (h0 : t ≠ []) (h : kindR ((runeAt t).1 : Int) = 0) : (atR t).2 = 0 ∨ kindR ((atR t).1 : Int) = 0 := by
  rcases at_cases t with rfl | ⟨b, t, rfl, hb⟩ | ⟨b, c1, t, rfl, hb, h2⟩ | ⟨b, c1, c2, t, rfl, hb, h2, h3⟩ | ⟨_, hn⟩
  · exact absurd rfl h0
  · rw [rune_ascii hb] at h
    rw [at_ascii hb]
    exact .inr h
  · rw [rune_two hb h2] at h
    rw [at_two hb h2]
    exact .inr h
  · rw [rune_three hb h3] at h
    rw [at_three hb h2 h3]
    by_cases hg : goodU (v3 b.toNat c1.toNat c2.toNat) = true
    · rw [if_pos hg] at h
      exact .inr h
    · refine .inr (kind_surrogate ?_ ?_)
      · unfold goodU at hg
        simp only [Bool.or_eq_true, decide_eq_true_eq, not_or] at hg
        show 55296 ≤ v3 _ _ _
        omega
      · unfold goodU at hg
        simp only [Bool.or_eq_true, decide_eq_true_eq, not_or] at hg
        show v3 _ _ _ < 57344
        omega
  · exact .inl (by rw [hn])
theorem Past.rune {s : List UInt8} {k c n : Nat} {l : List Nat} (h : Past s k l) (hk : k < s.length) (ha : Utf8.decode (str s) k = (c, n)) (hc : hasR (c : Int) = true) : Past s (k + n) (l ++ [c]) ∧ n ≠ 0 := by
  have hne : s.drop k ≠ [] := fun e => by rw [List.drop_eq_nil_iff] at e; omega
  rw [decode_drop] at ha
  have h1 := rune_good hne (by rw [ha]; exact has_kind.1 hc)
  rw [ha] at h1
  have h0 : n ≠ 0 := by
    intro h0
    subst h0
    rcases at_cases (s.drop k) with e | ⟨b, t, e, hb⟩ | ⟨b, c1, t, e, hb, h2⟩ | ⟨b, c1, c2, t, e, hb, h2, h3⟩ | ⟨_, hn⟩
    · exact hne e
    · rw [e, at_ascii hb] at h1; exact absurd (pair_snd h1) (by decide)
    · rw [e, at_two hb h2] at h1; exact absurd (pair_snd h1) (by decide)
    · rw [e, at_three hb h2 h3] at h1; exact absurd (pair_snd h1) (by decide)
    · rw [hn] at h1
      injection h1 with e1 e2
      rw [← e1] at hc
      exact absurd hc (by decide)
  exact ⟨h.next hk h1 h0 (has_kind.1 hc), h0⟩
theorem Past.rune_bad {s : List UInt8} {k c n : Nat} {l : List Nat} (h : Past s k l) (hk : k < s.length) (ha : Utf8.decode (str s) k = (c, n)) (hc : hasR (c : Int) = false) : decR s = none := by
  have hne : s.drop k ≠ [] := fun e => by rw [List.drop_eq_nil_iff] at e; omega
  rw [decode_drop] at ha
  have h1 := Go.Proofs.YtpgaebdaakllaaaDoor.rune_bad hne (by rw [ha]; exact has_kind_no hc)
  exact h.bad hk rfl h1

/-! Rows of the call's own beside an iterator. -/
theorem own_iter {w : World} {B e size n : Nat} {v : Value} {xs : List Value} {k : Nat} {s : ByteArray} {pos : Nat} (h : w.ownsRow B e size v n xs) (hk : w.heap[k]? = some (.stringIter s pos)) (pos' : Nat) : (w.iterAt k s pos').ownsRow B e size v n xs := by
  refine ⟨h.1, ?_⟩
  rcases h.2 with h0 | ⟨g, cap, cur, hv, hb, hg, rest⟩
  · exact .inl h0
  · exact .inr ⟨g, cap, cur, hv, hb, (Lib.iterAt_other _ _ _ _ _ (fun e => by subst e; rw [hk] at hg; cases hg)).trans hg, rest⟩
theorem own_not_iter {w : World} {B e size n : Nat} {v : Value} {xs : List Value} {k : Nat} {s : ByteArray} {pos : Nat} (h : w.ownsRow B e size v n xs) (hk : w.heap[k]? = some (.stringIter s pos)) : v.ownBlock ≠ some k := by
  rcases h.2 with ⟨rfl, _⟩ | ⟨g, cap, cur, rfl, hb, hg, rest⟩
  · simp [Value.ownBlock]
  · intro e
    simp only [Value.ownBlock, Option.some.injEq] at e
    subst e
    rw [hk] at hg
    cases hg

end Go.Proofs.YtpgaebdaakllaaaDoor
