/-
  Numbers as lists of digits to the base 65536, the least significant one first, in plain mathematics.
-/
namespace Go.Proofs.YtheadamdhjhnpaaDoor

/-- The number of a list of digits. -/
def vl : List Nat → Nat
  | [] => 0
  | d :: l => d + 65536 * vl l
def Dig (l : List Nat) : Prop := ∀ d ∈ l, d < 65536

/-- The digits of a number. -/
def dg (n : Nat) : List Nat := if n = 0 then [] else n % 65536 :: dg (n / 65536)
termination_by n
decreasing_by omega

theorem dg_zero : dg 0 = [] := by rw [dg]; simp
theorem dg_pos {n : Nat} (h : n ≠ 0) : dg n = n % 65536 :: dg (n / 65536) := by rw [dg]; simp [h]

theorem vl_dg (n : Nat) : vl (dg n) = n := by
  induction n using Nat.strongRecOn with
  | ind n ih =>
    by_cases h : n = 0
    · subst h; rw [dg_zero]; rfl
    · rw [dg_pos h, vl, ih (n / 65536) (by omega)]; omega
theorem dig_dg (n : Nat) : Dig (dg n) := by
  induction n using Nat.strongRecOn with
  | ind n ih =>
    by_cases h : n = 0
    · subst h; rw [dg_zero]; intro d hd; simp at hd
    · rw [dg_pos h]
      intro d hd
      rcases List.mem_cons.1 hd with rfl | hd
      · omega
      · exact ih (n / 65536) (by omega) d hd
theorem dg_eq_nil {n : Nat} : dg n = [] ↔ n = 0 := by
  constructor
  · intro h
    have := vl_dg n
    rw [h] at this
    exact this.symm
  · rintro rfl; exact dg_zero

theorem Dig.tail {d : Nat} {l : List Nat} (h : Dig (d :: l)) : Dig l := fun x hx => h x (List.mem_cons_of_mem _ hx)
theorem Dig.head {d : Nat} {l : List Nat} (h : Dig (d :: l)) : d < 65536 := h d (by simp)
theorem Dig.append {l m : List Nat} (h : Dig l) (k : Dig m) : Dig (l ++ m) := by
  intro d hd
  rcases List.mem_append.1 hd with hd | hd
  · exact h d hd
  · exact k d hd
theorem Dig.take {l : List Nat} (h : Dig l) (k : Nat) : Dig (l.take k) := fun d hd => h d (List.mem_of_mem_take hd)
theorem Dig.at_ {l : List Nat} (h : Dig l) {k d : Nat} (hk : l[k]? = some d) : d < 65536 := h d (List.mem_of_getElem? hk)

theorem vl_append (l m : List Nat) : vl (l ++ m) = vl l + 65536 ^ l.length * vl m := by
  induction l with
  | nil => simp [vl]
  | cons d l ih => rw [List.cons_append, vl, ih, vl, List.length_cons, Nat.pow_succ, Nat.mul_add, ← Nat.mul_assoc, Nat.mul_comm 65536 (65536 ^ l.length)]; omega
theorem vl_snoc (l : List Nat) (d : Nat) : vl (l ++ [d]) = vl l + 65536 ^ l.length * d := by rw [vl_append]; simp [vl]
theorem vl_lt {l : List Nat} (h : Dig l) : vl l < 65536 ^ l.length := by
  induction l with
  | nil => simp [vl]
  | cons d l ih =>
    have h1 := ih h.tail
    have h2 := h.head
    rw [vl, List.length_cons, Nat.pow_succ]
    omega
theorem vl_take {l : List Nat} {k d : Nat} (h : l[k]? = some d) : vl (l.take (k + 1)) = vl (l.take k) + 65536 ^ k * d := by
  obtain ⟨hl, he⟩ := List.getElem?_eq_some_iff.1 h
  rw [List.take_succ_eq_append_getElem hl, he, vl_snoc, List.length_take, Nat.min_eq_left (by omega)]

/-- Without zeros at the end. -/
def tr (l : List Nat) : List Nat := (l.reverse.dropWhile (· == 0)).reverse
theorem tr_snoc_zero (l : List Nat) : tr (l ++ [0]) = tr l := by simp [tr]
theorem tr_snoc (l : List Nat) {d : Nat} (h : d ≠ 0) : tr (l ++ [d]) = l ++ [d] := by simp [tr, h]
theorem tr_nil : tr [] = [] := rfl

theorem snoc_nat {P : List Nat → Prop} (h0 : P []) (hs : ∀ l c, P l → P (l ++ [c])) (l : List Nat) : P l := by
  rw [← List.reverse_reverse l]
  induction l.reverse with
  | nil => exact h0
  | cons c t ih => rw [List.reverse_cons]; exact hs _ _ ih

theorem dg_of {l : List Nat} : Dig l → (∀ m d, l = m ++ [d] → d ≠ 0) → dg (vl l) = l := by
  induction l with
  | nil => intro _ _; exact dg_zero
  | cons d l ih =>
    intro h hz
    have hd := h.head
    have hne : vl (d :: l) ≠ 0 := by
      intro h0
      rw [vl] at h0
      cases l with
      | nil =>
        have := hz [] d rfl
        simp [vl] at h0
        exact this h0
      | cons e l =>
        have hv : vl (e :: l) = 0 := by omega
        have := ih h.tail (fun m x e1 => hz (d :: m) x (by rw [e1]; rfl))
        rw [hv, dg_zero] at this
        cases this
    rw [dg_pos hne, vl, show (d + 65536 * vl l) % 65536 = d from by omega, show (d + 65536 * vl l) / 65536 = vl l from by omega, ih h.tail (fun m x e1 => hz (d :: m) x (by rw [e1]; rfl))]

theorem tr_eq (l : List Nat) : Dig l → tr l = dg (vl l) := by
  refine snoc_nat (P := fun l => Dig l → tr l = dg (vl l)) (by intro _; rw [tr_nil]; exact dg_zero.symm) ?_ l
  intro l c ih h
  have hl : Dig l := fun d hd => h d (by simp [hd])
  by_cases hc : c = 0
  · subst hc
    rw [tr_snoc_zero, ih hl, vl_snoc, Nat.mul_zero, Nat.add_zero]
  · rw [tr_snoc l hc]
    refine (dg_of h ?_).symm
    intro m d e
    have := List.append_inj_right' e rfl
    simp at this
    rw [← this]; exact hc

theorem dg_length {n k : Nat} : (dg n).length ≤ k ↔ n < 65536 ^ k := by
  induction k generalizing n with
  | zero =>
    rw [Nat.pow_zero]
    constructor
    · intro h
      have := dg_eq_nil.1 (List.length_eq_zero_iff.1 (Nat.le_zero.1 h))
      omega
    · intro h
      obtain rfl : n = 0 := by omega
      rw [dg_zero]; simp
  | succ k ih =>
    by_cases h : n = 0
    · subst h
      rw [dg_zero]
      simp
      exact Nat.pow_pos (by omega)
    · rw [dg_pos h, List.length_cons, Nat.pow_succ]
      have := ih (n := n / 65536)
      constructor
      · intro h1
        have := this.1 (by omega)
        exact (Nat.div_lt_iff_lt_mul (by omega)).1 this
      · intro h1
        have := this.2 ((Nat.div_lt_iff_lt_mul (by omega)).2 h1)
        omega

/-- A list without a zero at the end is the digits of its number. -/
def Can (l : List Nat) : Prop := Dig l ∧ ∀ m d, l = m ++ [d] → d ≠ 0
theorem Can.eq {l : List Nat} (h : Can l) : dg (vl l) = l := dg_of h.1 h.2
theorem can_dg (n : Nat) : Can (dg n) := by
  refine ⟨dig_dg n, ?_⟩
  intro m d e hd
  subst hd
  have h1 := vl_dg n
  rw [e, vl_snoc, Nat.mul_zero, Nat.add_zero] at h1
  have h2 := tr_eq m (fun x hx => dig_dg n x (by rw [e]; simp [hx]))
  rw [h1, e] at h2
  have h3 : (tr m).length ≤ m.length := by
    unfold tr
    rw [List.length_reverse]
    have := (List.dropWhile_suffix (l := m.reverse) (· == 0)).length_le
    rw [List.length_reverse] at this
    exact this
  rw [h2, List.length_append, List.length_singleton] at h3
  omega

/-- Longer numbers are greater. -/
theorem vl_lt_of_length {l m : List Nat} (hl : Dig l) (hm : Can m) (h : l.length < m.length) : vl l < vl m := by
  have h1 := vl_lt hl
  have h2 : ¬ vl m < 65536 ^ l.length := by
    intro hc
    have := dg_length.2 hc
    rw [hm.eq] at this
    omega
  omega

/-- The comparison of two numbers. -/
def cmpN (n m : Nat) : Int := if n < m then -1 else if m < n then 1 else 0

end Go.Proofs.YtheadamdhjhnpaaDoor
