/-
  The characters as natural numbers, by tests that the kernel reckons fast; all of them, ascending.
-/
import Derived.Test.YtpgaebdaakllaaaDoorChars
namespace Go.Proofs.YtpgaebdaakllaaaDoor
open Go.RowKit

/-! A test that the kernel reckons fast. -/
def inN (c lo hi : Nat) : Bool := Nat.ble lo c && Nat.ble c hi
def memN : List Nat → Nat → Bool
  | [], _ => false
  | d :: l, c => Nat.beq d c || memN l c
def hasA (c : Nat) : Bool := (Nat.beq c 32 || Nat.beq c 160) || ((inN c 48 57 || Nat.beq c 178 || Nat.beq c 179 || Nat.beq c 185) ||
  ((inN c 65 90 || inN c 97 122 || Nat.beq c 383 || Nat.beq c 64257 || Nat.beq c 64258 || (inN c 192 382 && memN latinL c)) ||
  ((inN c 768 772 || inN c 774 776 || inN c 778 780 || Nat.beq c 803 || Nat.beq c 807 || Nat.beq c 808) ||
  ((inN c 913 929 || inN c 931 937 || inN c 945 969 || (inN c 902 974 && memN greekL c)) || ((inN c 1040 1103 || (inN c 1025 1169 && memN cyrL c)) || inN c 33 126)))))
def hasN (c : Nat) : Bool := if inN c 65281 65374 = true then hasA (c - 65248) else hasA c
theorem beq_int (c d : Nat) : ((c : Int) == (d : Int)) = Nat.beq c d := by
  rw [Bool.eq_iff_iff, beq_iff_eq, Nat.beq_eq]
  omega
theorem inB_nat (c lo hi : Nat) : inB (c : Int) (lo : Int) (hi : Int) = inN c lo hi := by
  unfold inB inN
  rw [Bool.eq_iff_iff]
  simp only [Bool.and_eq_true, decide_eq_true_eq, Nat.ble_eq]
  omega
theorem memB_nat (c : Nat) : ∀ l : List Nat, memB l (c : Int) = memN l c
  | [] => rfl
  | d :: l => by
    have h := memB_nat c l
    unfold memB at h ⊢
    rw [List.any_cons, h, beq_int]
    rfl
theorem memN_in {l : List Nat} {lo hi c : Nat} (hl : (l.all fun d => inN d lo hi) = true) : memN l c = (inN c lo hi && memN l c) := by
  have key : memN l c = true → inN c lo hi = true := by
    clear memN_in
    induction l with
    | nil => intro h; cases h
    | cons d l ih =>
      intro h
      rw [List.all_cons, Bool.and_eq_true] at hl
      unfold memN at h
      rw [Bool.or_eq_true, Nat.beq_eq] at h
      rcases h with h | h
      · rw [← h]; exact hl.1
      · exact ih hl.2 h
  cases h : memN l c with
  | false => rw [Bool.and_false]
  | true => rw [key h]; rfl
theorem latin_in : (latinL.all fun d => inN d 192 382) = true := by kernel_rfl
theorem greek_in : (greekL.all fun d => inN d 902 974) = true := by kernel_rfl
theorem cyr_in : (cyrL.all fun d => inN d 1025 1169) = true := by kernel_rfl
theorem kinds (a b c d e f g : Bool) :
    ((if a = true then ((0 : Nat), (4 : Nat)) else if b = true then (0, 3) else if c = true then (1, 1) else if d = true then (0, 2) else if e = true then (2, 1) else if f = true then (3, 1) else if g = true then (0, 5) else (0, 0)).2 != 0) = (a || (b || (c || (d || (e || (f || g)))))) := by
  cases a <;> cases b <;> cases c <;> cases d <;> cases e <;> cases f <;> cases g <;> rfl
theorem hasA_eq (c : Nat) : ((clsN (c : Int)).2 != 0) = hasA c := by
  unfold clsN
  rw [kinds]
  unfold hasA
  rw [← memN_in latin_in, ← memN_in greek_in, ← memN_in cyr_in]
  simp only [← memB_nat, ← inB_nat, ← beq_int]
  rfl
theorem hasN_eq (c : Nat) : hasR (c : Int) = hasN c := by
  unfold hasR kindR clsR hasN
  have h := inB_nat c 65281 65374
  rw [show inB (c : Int) 65281 65374 = inN c 65281 65374 from h]
  split
  · rename_i h1
    have h2 : 65281 ≤ c := by
      unfold inN at h1
      rw [Bool.and_eq_true, Nat.ble_eq] at h1
      exact h1.1
    rw [show (c : Int) - 65248 = ((c - 65248 : Nat) : Int) by omega]
    exact hasA_eq _
  · exact hasA_eq _

def charL : List Nat := (List.range' 0 1536).filter hasN ++ (List.range' 64256 1119).filter hasN
theorem char_len : charL.length = 536 := by kernel_rfl
def ascB : List Nat → Bool
  | a :: b :: l => Nat.blt a b && ascB (b :: l)
  | _ => true
theorem char_asc : ascB charL = true := by kernel_rfl
theorem ascB_get : ∀ (l : List Nat) (i x y : Nat), ascB l = true → l[i]? = some x → l[i + 1]? = some y → x < y
  | [], i, x, y, _, h, _ => by simp at h
  | [a], i, x, y, _, _, h => by simp at h
  | a :: b :: l, i, x, y, h, h1, h2 => by
    unfold ascB at h
    rw [Bool.and_eq_true, Nat.blt_eq] at h
    cases i with
    | zero =>
      simp at h1 h2
      omega
    | succ i =>
      rw [List.getElem?_cons_succ] at h1 h2
      exact ascB_get (b :: l) i x y h.2 h1 h2
theorem char_mem (c : Nat) : c ∈ charL ↔ hasN c = true := by
  unfold charL
  rw [List.mem_append, List.mem_filter, List.mem_filter, List.mem_range'_1, List.mem_range'_1]
  constructor
  · rintro (h | h)
    · exact h.2
    · exact h.2
  · intro h
    have hr : c < 1536 ∨ 64256 ≤ c ∧ c < 65375 := by
      refine Classical.byContradiction fun hn => ?_
      have h1 : inN c 65281 65374 = false := by
        unfold inN
        rw [Bool.and_eq_false_iff]
        by_cases h1 : 65281 ≤ c
        · exact .inr (by rw [← Bool.not_eq_true, Nat.ble_eq]; omega)
        · exact .inl (by rw [← Bool.not_eq_true, Nat.ble_eq]; omega)
      unfold hasN at h
      rw [h1, if_neg (by decide)] at h
      unfold hasA inN at h
      simp only [Bool.or_eq_true, Bool.and_eq_true, Nat.ble_eq, Nat.beq_eq] at h
      omega
    rcases hr with hr | hr
    · exact .inl ⟨by omega, h⟩
    · exact .inr ⟨by omega, h⟩
def clsA (c : Nat) : Nat × Nat :=
  if (Nat.beq c 32 || Nat.beq c 160) = true then (0, 4)
  else if (inN c 48 57 || Nat.beq c 178 || Nat.beq c 179 || Nat.beq c 185) = true then (0, 3)
  else if (inN c 65 90 || inN c 97 122 || Nat.beq c 383 || Nat.beq c 64257 || Nat.beq c 64258 || (inN c 192 382 && memN latinL c)) = true then (1, 1)
  else if (inN c 768 772 || inN c 774 776 || inN c 778 780 || Nat.beq c 803 || Nat.beq c 807 || Nat.beq c 808) = true then (0, 2)
  else if (inN c 913 929 || inN c 931 937 || inN c 945 969 || (inN c 902 974 && memN greekL c)) = true then (2, 1)
  else if (inN c 1040 1103 || (inN c 1025 1169 && memN cyrL c)) = true then (3, 1)
  else if inN c 33 126 = true then (0, 5)
  else (0, 0)
theorem clsA_eq (c : Nat) : clsN (c : Int) = clsA c := by
  unfold clsN clsA
  rw [← memN_in latin_in, ← memN_in greek_in, ← memN_in cyr_in]
  simp only [← memB_nat, ← inB_nat, ← beq_int]
  rfl
theorem clsA_none {c : Nat} (h : hasA c = false) : clsA c = (0, 0) := by
  unfold hasA at h
  simp only [Bool.or_eq_false_iff] at h
  obtain ⟨⟨h1, h1'⟩, ⟨⟨⟨h2, h2a⟩, h2b⟩, h2c⟩, ⟨⟨⟨⟨⟨h3, h3a⟩, h3b⟩, h3c⟩, h3d⟩, h3e⟩, ⟨⟨⟨⟨⟨h4, h4a⟩, h4b⟩, h4c⟩, h4d⟩, h4e⟩, ⟨⟨⟨h5, h5a⟩, h5b⟩, h5c⟩, ⟨h6, h6a⟩, h7⟩ := h
  unfold clsA
  rw [h1, h1', h2, h2a, h2b, h2c, h3, h3a, h3b, h3c, h3d, h3e, h4, h4a, h4b, h4c, h4d, h4e, h5, h5a, h5b, h5c, h6, h6a, h7]
  rfl


/-- Kind of a character, as the kernel reckons it fast. -/
def clsF (c : Nat) : Nat × Nat := if inN c 65281 65374 = true then clsA (c - 65248) else clsA c
theorem clsF_eq (c : Nat) : clsR (c : Int) = clsF c := by
  unfold clsR clsF
  rw [show inB (c : Int) 65281 65374 = inN c 65281 65374 from inB_nat c 65281 65374]
  split
  · rename_i h1
    have h2 : 65281 ≤ c := by
      unfold inN at h1
      rw [Bool.and_eq_true, Nat.ble_eq] at h1
      exact h1.1
    rw [show (c : Int) - 65248 = ((c - 65248 : Nat) : Int) by omega]
    exact clsA_eq _
  · exact clsA_eq _

end Go.Proofs.YtpgaebdaakllaaaDoor
