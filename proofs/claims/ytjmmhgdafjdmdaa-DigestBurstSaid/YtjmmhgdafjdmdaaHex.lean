/-
  The hexadecimal digits in plain mathematics.
-/
namespace Go.Proofs.Ytjmmhgdafjdmdaa

def hexL : List UInt8 := [48, 49, 50, 51, 52, 53, 54, 55, 56, 57, 97, 98, 99, 100, 101, 102]
def hexAt (x : Nat) : UInt8 := hexL.getD x 0
/-- The value of a digit, or 16. -/
def hexVal (c : UInt8) : Nat := (hexL.findIdx? (· == c)).getD 16

theorem hexVal_hexAt : ∀ x : Fin 16, hexVal (hexAt x.val) = x.val := by decide
theorem hexVal_le (c : UInt8) : hexVal c ≤ 16 := by
  unfold hexVal
  cases h : hexL.findIdx? (· == c) with
  | none => simp
  | some i =>
    have := (List.findIdx?_eq_some_iff_getElem.1 h).1
    simp [hexL] at this
    simp; omega
theorem hexAt_hexVal {c : UInt8} (h : hexVal c < 16) : hexAt (hexVal c) = c := by
  unfold hexVal at h ⊢
  cases h2 : hexL.findIdx? (· == c) with
  | none => rw [h2] at h; simp at h
  | some i =>
    obtain ⟨hi, hc, _⟩ := List.findIdx?_eq_some_iff_getElem.1 h2
    simp only [Option.getD_some]
    unfold hexAt
    rw [List.getD_eq_getElem?_getD, List.getElem?_eq_getElem hi]
    simpa using hc

/-- The digits of a number, n of them. -/
def dig (H : Nat) : Nat → List UInt8
  | 0 => []
  | n + 1 => dig (H / 16) n ++ [hexAt (H % 16)]
theorem dig_length (n : Nat) : ∀ H, (dig H n).length = n := by
  induction n with
  | zero => intro H; rfl
  | succ n ih => intro H; rw [dig, List.length_append, ih]; rfl
/-- The first digit first. -/
theorem dig_cons (n : Nat) : ∀ H, dig H (n + 1) = hexAt (H / 16 ^ n % 16) :: dig H n := by
  induction n with
  | zero => intro H; simp [dig]
  | succ n ih =>
    intro H
    rw [dig, ih, Nat.div_div_eq_div_mul, ← Nat.pow_succ', dig]
    rfl
def digits (H : Nat) : List UInt8 := dig H 8
theorem digits_length (H : Nat) : (digits H).length = 8 := dig_length 8 H
theorem dig_take (n : Nat) : ∀ H k, k ≤ n → (dig H n).take k = dig (H / 16 ^ (n - k)) k := by
  induction n with
  | zero => intro H k hk; obtain rfl : k = 0 := by omega
            rfl
  | succ n ih =>
    intro H k hk
    by_cases h : k = n + 1
    · subst h
      rw [Nat.sub_self, Nat.pow_zero, Nat.div_one, List.take_of_length_le (by rw [dig_length]; omega)]
    · rw [dig, List.take_append_of_le_length (by rw [dig_length]; omega), ih _ _ (by omega), Nat.div_div_eq_div_mul, ← Nat.pow_succ', show (n - k).succ = n + 1 - k from by omega]
theorem dig_drop (n : Nat) : ∀ H k, k ≤ n → (dig H n).drop (n - k) = dig H k := by
  induction n with
  | zero => intro H k hk; obtain rfl : k = 0 := by omega
            rfl
  | succ n ih =>
    intro H k hk
    by_cases h : k = n + 1
    · subst h; rw [Nat.sub_self]; rfl
    · rw [dig_cons, show n + 1 - k = (n - k) + 1 from by omega, List.drop_succ_cons, ih H k (by omega)]

/-- The number of digits that were read. -/
def acc (l : List UInt8) : Nat := l.foldl (fun a c => 16 * a + hexVal c) 0
theorem acc_snoc (l : List UInt8) (c : UInt8) : acc (l ++ [c]) = 16 * acc l + hexVal c := by unfold acc; rw [List.foldl_append]; rfl
def allHex (l : List UInt8) : Bool := l.all fun c => decide (hexVal c < 16)
theorem allHex_snoc (l : List UInt8) (c : UInt8) : allHex (l ++ [c]) = (allHex l && decide (hexVal c < 16)) := by unfold allHex; rw [List.all_append]; simp
theorem allHex_take {l : List UInt8} {k : Nat} {c : UInt8} (hk : l[k]? = some c) (h : ¬ hexVal c < 16) : allHex l = false := by
  unfold allHex
  rw [List.all_eq_false]
  exact ⟨c, List.mem_of_getElem? hk, by simpa using h⟩

theorem snoc_ind {P : List UInt8 → Prop} (h0 : P []) (hs : ∀ l c, P l → P (l ++ [c])) (l : List UInt8) : P l := by
  rw [← List.reverse_reverse l]
  induction l.reverse with
  | nil => exact h0
  | cons c t ih => rw [List.reverse_cons]; exact hs _ _ ih

theorem acc_lt (l : List UInt8) : allHex l = true → acc l < 16 ^ l.length := by
  refine snoc_ind (P := fun l => allHex l = true → acc l < 16 ^ l.length) (by intro _; simp [acc]) ?_ l
  · intro l c ih h
    rw [allHex_snoc, Bool.and_eq_true, decide_eq_true_eq] at h
    have := ih h.1
    rw [acc_snoc, List.length_append, List.length_singleton, Nat.pow_succ]
    omega

theorem dig_hex (n : Nat) : ∀ H, allHex (dig H n) = true ∧ (acc (dig H n) = H % 16 ^ n) := by
  induction n with
  | zero => intro H; exact ⟨rfl, by simp [dig, acc, Nat.mod_one]⟩
  | succ n ih =>
    intro H
    obtain ⟨h1, h2⟩ := ih (H / 16)
    have hv := hexVal_hexAt ⟨H % 16, by omega⟩
    simp only at hv
    refine ⟨by rw [dig, allHex_snoc, h1, hv]; simp; omega, ?_⟩
    rw [dig, acc_snoc, h2, hv, Nat.pow_succ', Nat.mod_mul, Nat.add_comm]

theorem acc_dig (l : List UInt8) : allHex l = true → dig (acc l) l.length = l := by
  refine snoc_ind (P := fun l => allHex l = true → dig (acc l) l.length = l) (by intro _; rfl) ?_ l
  · intro l c ih h
    rw [allHex_snoc, Bool.and_eq_true, decide_eq_true_eq] at h
    rw [acc_snoc, List.length_append, List.length_singleton, dig, show (16 * acc l + hexVal c) / 16 = acc l from by omega, show (16 * acc l + hexVal c) % 16 = hexVal c from by omega, ih h.1, hexAt_hexVal h.2]

/-- What Parse hands back. -/
def parseN (s : List UInt8) : Nat := if s.length = 8 ∧ allHex s = true then acc s else 0
def parseE (s : List UInt8) : Nat := if s.length = 8 ∧ allHex s = true then 0 else 7

theorem parse_print (H : Nat) (h : H < 2 ^ 32) : parseN (digits H) = H ∧ parseE (digits H) = 0 := by
  obtain ⟨h1, h2⟩ := dig_hex 8 H
  have hc : (digits H).length = 8 ∧ allHex (digits H) = true := ⟨digits_length H, h1⟩
  unfold parseN parseE
  rw [if_pos hc, if_pos hc]
  refine ⟨?_, rfl⟩
  unfold digits
  rw [h2]
  exact Nat.mod_eq_of_lt (by omega)
theorem print_parse {s : List UInt8} (h : parseE s = 0) : digits (parseN s) = s := by
  unfold parseE at h
  split at h
  · rename_i hc
    unfold parseN digits
    rw [if_pos hc]
    have := acc_dig s hc.2
    rw [hc.1] at this
    exact this
  · omega
theorem parse_bad {s : List UInt8} (h : ¬ (s.length = 8 ∧ allHex s = true)) : parseN s = 0 ∧ parseE s = 7 := by
  unfold parseN parseE; rw [if_neg h, if_neg h]; exact ⟨rfl, rfl⟩
theorem parse_good {s : List UInt8} (h1 : s.length = 8) (h2 : allHex s = true) : parseN s = acc s ∧ parseE s = 0 ∧ acc s < 2 ^ 32 := by
  have := acc_lt s h2
  rw [h1] at this
  unfold parseN parseE; rw [if_pos ⟨h1, h2⟩, if_pos ⟨h1, h2⟩]; exact ⟨rfl, rfl, by omega⟩

end Go.Proofs.Ytjmmhgdafjdmdaa
