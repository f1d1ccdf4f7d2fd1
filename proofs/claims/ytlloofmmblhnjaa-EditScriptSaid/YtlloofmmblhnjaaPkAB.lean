/-
  The distance of two lists as plain mathematics: least costs of ways from one to the other.
  Scripts as plain mathematics.
  The characters of any string, as a loop over it reads them.
  The common words at slices of integers of this program.
-/
import Derived.Test.YtlloofmmblhnjaaWords
import Derived.Lib.RuneCount
import Derived.Test.YtlloofmmblhnjaaProg
import Derived.Deep.QuietTactic
import Derived.BigQuiet
namespace Go.Proofs.Ytlloofmmblhnjaa

/-! The distance, row by row. -/
def edRow (x : Int) (a : List Int) (f : List Int → Nat) : List Int → Nat
  | [] => a.length + 1
  | y :: b => if x = y then f b else 1 + min (min (f b) (f (y :: b))) (edRow x a f b)
def edD : List Int → List Int → Nat
  | [] => List.length
  | x :: a => edRow x a (edD a)
theorem ed_nil (b : List Int) : edD [] b = b.length := rfl
theorem ed_end : ∀ a : List Int, edD a [] = a.length
  | [] => rfl
  | _ :: _ => rfl
theorem ed_cons (x y : Int) (a b : List Int) : edD (x :: a) (y :: b) = if x = y then edD a b else 1 + min (min (edD a b) (edD a (y :: b))) (edD (x :: a) b) := rfl
theorem ed_same (x : Int) (a b : List Int) : edD (x :: a) (x :: b) = edD a b := by rw [ed_cons, if_pos rfl]
theorem ed_other {x y : Int} (h : x ≠ y) (a b : List Int) : edD (x :: a) (y :: b) = 1 + min (min (edD a b) (edD a (y :: b))) (edD (x :: a) b) := by rw [ed_cons, if_neg h]
theorem ed_comm : ∀ a b : List Int, edD a b = edD b a
  | [], b => by rw [ed_nil, ed_end]
  | x :: a, [] => by rw [ed_nil, ed_end]
  | x :: a, y :: b => by
    have h1 := ed_comm a b
    have h2 := ed_comm a (y :: b)
    have h3 := ed_comm (x :: a) b
    by_cases h : x = y
    · subst h
      rw [ed_same, ed_same, h1]
    · rw [ed_other h, ed_other (Ne.symm h), h1, h2, h3]
      omega

/-! Ways from a list to another one, with what they cost. -/
inductive Ed : List Int → List Int → Nat → Prop where
  | nil : Ed [] [] 0
  | keep (x : Int) {a b : List Int} {n : Nat} : Ed a b n → Ed (x :: a) (x :: b) n
  | repl (x y : Int) {a b : List Int} {n : Nat} : Ed a b n → Ed (x :: a) (y :: b) (n + 1)
  | del (x : Int) {a b : List Int} {n : Nat} : Ed a b n → Ed (x :: a) b (n + 1)
  | ins (y : Int) {a b : List Int} {n : Nat} : Ed a b n → Ed a (y :: b) (n + 1)
theorem Ed.inserts : ∀ b : List Int, Ed [] b b.length
  | [] => .nil
  | y :: b => .ins y (Ed.inserts b)
theorem Ed.deletes : ∀ a : List Int, Ed a [] a.length
  | [] => .nil
  | x :: a => .del x (Ed.deletes a)
theorem ed_way : ∀ a b : List Int, Ed a b (edD a b)
  | [], b => Ed.inserts b
  | x :: a, [] => by rw [ed_end]; exact Ed.deletes (x :: a)
  | x :: a, y :: b => by
    by_cases h : x = y
    · subst h
      rw [ed_same]
      exact .keep x (ed_way a b)
    · rw [ed_other h]
      have h1 := Ed.repl x y (ed_way a b)
      have h2 := Ed.del x (ed_way a (y :: b))
      have h3 := Ed.ins y (ed_way (x :: a) b)
      by_cases g1 : edD a b ≤ edD a (y :: b) ∧ edD a b ≤ edD (x :: a) b
      · rw [show 1 + min (min (edD a b) (edD a (y :: b))) (edD (x :: a) b) = edD a b + 1 by omega]
        exact h1
      · by_cases g2 : edD a (y :: b) ≤ edD (x :: a) b
        · rw [show 1 + min (min (edD a b) (edD a (y :: b))) (edD (x :: a) b) = edD a (y :: b) + 1 by omega]
          exact h2
        · rw [show 1 + min (min (edD a b) (edD a (y :: b))) (edD (x :: a) b) = edD (x :: a) b + 1 by omega]
          exact h3
/-- One character more, on either side. -/
theorem ed_more {a : List Int} (h4 : ∀ (y : Int) (b : List Int), edD a b ≤ edD a (y :: b) + 1) (x : Int) (b : List Int) : edD (x :: a) b ≤ edD a b + 1 := by
  cases b with
  | nil => rw [ed_end, ed_end]; simp
  | cons y b =>
    by_cases h : x = y
    · subst h
      rw [ed_same]
      exact h4 x b
    · rw [ed_other h]
      omega
theorem ed_less : ∀ (a : List Int) (y : Int) (b : List Int), edD a b ≤ edD a (y :: b) + 1
  | [], y, b => by rw [ed_nil, ed_nil, List.length_cons]; omega
  | x :: a, y, b => by
    have ih := ed_less a
    have h1 := ed_more ih x b
    by_cases h : x = y
    · subst h
      rw [ed_same]
      exact h1
    · rw [ed_other h]
      have h2 := ih y b
      omega
theorem ed_del (x : Int) (a b : List Int) : edD (x :: a) b ≤ edD a b + 1 := ed_more (ed_less a) x b
theorem ed_ins (y : Int) (a b : List Int) : edD a (y :: b) ≤ edD a b + 1 := by rw [ed_comm, ed_comm a b]; exact ed_del y b a
theorem ed_repl (x y : Int) (a b : List Int) : edD (x :: a) (y :: b) ≤ edD a b + 1 := by
  rw [ed_cons]
  split <;> omega
/-- No way costs less than the distance. -/
theorem ed_least {a b : List Int} {n : Nat} (h : Ed a b n) : edD a b ≤ n := by
  induction h with
  | nil => exact Nat.le_refl _
  | keep x _ ih => rw [ed_same]; exact ih
  | @repl x y a b n _ ih => have := ed_repl x y a b; omega
  | @del x a b n _ ih => have := ed_del x a b; omega
  | @ins y a b n _ ih => have := ed_ins y a b; omega

/-! Ways one behind the other, side by side, and from the end. -/
theorem Ed.trans {a b c : List Int} {m n : Nat} (h1 : Ed a b m) (h2 : Ed b c n) : ∃ k, k ≤ m + n ∧ Ed a c k := by
  induction h1 generalizing c n with
  | nil => exact ⟨n, by omega, h2⟩
  | @keep x a b m h ih =>
    generalize hB : x :: b = B at h2
    induction h2 with
    | nil => cases hB
    | keep z h2 _ =>
      injection hB with e1 e2
      subst e1 e2
      obtain ⟨k, hk, hE⟩ := ih h2
      exact ⟨k, hk, .keep x hE⟩
    | repl z y h2 _ =>
      injection hB with e1 e2
      subst e1 e2
      obtain ⟨k, hk, hE⟩ := ih h2
      exact ⟨k + 1, by omega, .repl x y hE⟩
    | del z h2 _ =>
      injection hB with e1 e2
      subst e1 e2
      obtain ⟨k, hk, hE⟩ := ih h2
      exact ⟨k + 1, by omega, .del x hE⟩
    | ins y _ ih2 =>
      obtain ⟨k, hk, hE⟩ := ih2 hB
      exact ⟨k + 1, by omega, .ins y hE⟩
  | @repl x x' a b m h ih =>
    generalize hB : x' :: b = B at h2
    induction h2 with
    | nil => cases hB
    | keep z h2 _ =>
      injection hB with e1 e2
      subst e1 e2
      obtain ⟨k, hk, hE⟩ := ih h2
      exact ⟨k + 1, by omega, .repl x x' hE⟩
    | repl z y h2 _ =>
      injection hB with e1 e2
      subst e1 e2
      obtain ⟨k, hk, hE⟩ := ih h2
      exact ⟨k + 1, by omega, .repl x y hE⟩
    | del z h2 _ =>
      injection hB with e1 e2
      subst e1 e2
      obtain ⟨k, hk, hE⟩ := ih h2
      exact ⟨k + 1, by omega, .del x hE⟩
    | ins y _ ih2 =>
      obtain ⟨k, hk, hE⟩ := ih2 hB
      exact ⟨k + 1, by omega, .ins y hE⟩
  | @del x a b m h ih =>
    obtain ⟨k, hk, hE⟩ := ih h2
    exact ⟨k + 1, by omega, .del x hE⟩
  | @ins x' a b m h ih =>
    generalize hB : x' :: b = B at h2
    induction h2 with
    | nil => cases hB
    | keep z h2 _ =>
      injection hB with e1 e2
      subst e1 e2
      obtain ⟨k, hk, hE⟩ := ih h2
      exact ⟨k + 1, by omega, .ins x' hE⟩
    | repl z y h2 _ =>
      injection hB with e1 e2
      subst e1 e2
      obtain ⟨k, hk, hE⟩ := ih h2
      exact ⟨k + 1, by omega, .ins y hE⟩
    | del z h2 _ =>
      injection hB with e1 e2
      subst e1 e2
      obtain ⟨k, hk, hE⟩ := ih h2
      exact ⟨k, by omega, hE⟩
    | ins y _ ih2 =>
      obtain ⟨k, hk, hE⟩ := ih2 hB
      exact ⟨k + 1, by omega, .ins y hE⟩
theorem Ed.app {a b c d : List Int} {m n : Nat} (h1 : Ed a b m) (h2 : Ed c d n) : Ed (a ++ c) (b ++ d) (m + n) := by
  induction h1 with
  | nil => simpa using h2
  | keep x _ ih => exact .keep x ih
  | @repl x y a b m _ ih => rw [show m + 1 + n = m + n + 1 by omega]; exact .repl x y ih
  | @del x a b m _ ih => rw [show m + 1 + n = m + n + 1 by omega]; exact .del x ih
  | @ins y a b m _ ih => rw [show m + 1 + n = m + n + 1 by omega]; exact .ins y ih
theorem Ed.rev {a b : List Int} {n : Nat} (h : Ed a b n) : Ed a.reverse b.reverse n := by
  induction h with
  | nil => exact .nil
  | keep x _ ih => rw [List.reverse_cons, List.reverse_cons]; exact ih.app (.keep x .nil)
  | repl x y _ ih => rw [List.reverse_cons, List.reverse_cons]; exact ih.app (.repl x y .nil)
  | del x _ ih =>
    rw [List.reverse_cons]
    have := ih.app (Ed.del x .nil)
    rwa [List.append_nil] at this
  | ins y _ ih =>
    rw [List.reverse_cons]
    have := ih.app (Ed.ins y .nil)
    rwa [List.append_nil] at this

/-! What the document promises of the distance. -/
theorem ed_tri (a b c : List Int) : edD a c ≤ edD a b + edD b c := by
  obtain ⟨k, hk, hE⟩ := (ed_way a b).trans (ed_way b c)
  have := ed_least hE
  omega
theorem ed_self : ∀ a : List Int, edD a a = 0
  | [] => rfl
  | x :: a => by rw [ed_same, ed_self a]
theorem Ed.zero {a b : List Int} {n : Nat} (h : Ed a b n) : n = 0 → a = b := by
  induction h with
  | nil => exact fun _ => rfl
  | keep x _ ih => intro h; rw [ih h]
  | repl => intro h; omega
  | del => intro h; omega
  | ins => intro h; omega
theorem ed_zero (a b : List Int) : edD a b = 0 ↔ a = b := ⟨fun h => (ed_way a b).zero h, fun h => by rw [h, ed_self]⟩
theorem ed_low : ∀ a b : List Int, a.length ≤ edD a b + b.length := by
  intro a b
  have h := ed_way a b
  generalize edD a b = n at h
  induction h with
  | nil => simp
  | keep => simp only [List.length_cons]; omega
  | repl => simp only [List.length_cons]; omega
  | del => simp only [List.length_cons]; omega
  | ins => simp only [List.length_cons]; omega
theorem ed_low2 (a b : List Int) : b.length ≤ edD a b + a.length := by
  have := ed_low b a
  rwa [ed_comm] at this
theorem ed_high : ∀ a b : List Int, edD a b ≤ max a.length b.length
  | [], b => by rw [ed_nil]; simp
  | x :: a, [] => by rw [ed_end]; simp
  | x :: a, y :: b => by
    have h1 := ed_high a b
    have h2 := ed_repl x y a b
    simp only [List.length_cons]
    omega
theorem ed_join (a b c d : List Int) : edD (a ++ c) (b ++ d) ≤ edD a b + edD c d := ed_least ((ed_way a b).app (ed_way c d))
theorem ed_front : ∀ c a b : List Int, edD (c ++ a) (c ++ b) = edD a b
  | [], _, _ => rfl
  | x :: c, a, b => by
    show edD (x :: (c ++ a)) (x :: (c ++ b)) = _
    rw [ed_same, ed_front c a b]
theorem ed_rev (a b : List Int) : edD a.reverse b.reverse = edD a b := by
  have h1 := ed_least (ed_way a b).rev
  have h2 := ed_least (ed_way a.reverse b.reverse).rev
  rw [List.reverse_reverse, List.reverse_reverse] at h2
  omega
theorem ed_behind (c a b : List Int) : edD (a ++ c) (b ++ c) = edD a b := by
  rw [← ed_rev, List.reverse_append, List.reverse_append, ed_front, ed_rev]

/-! Common sublists. -/
def lcsRow (x : Int) (f : List Int → Nat) : List Int → Nat
  | [] => 0
  | y :: b => if x = y then 1 + f b else max (f (y :: b)) (lcsRow x f b)
def lcsD : List Int → List Int → Nat
  | [] => fun _ => 0
  | x :: a => lcsRow x (lcsD a)
theorem lcs_nil (b : List Int) : lcsD [] b = 0 := rfl
theorem lcs_end : ∀ a : List Int, lcsD a [] = 0
  | [] => rfl
  | _ :: _ => rfl
theorem lcs_same (x : Int) (a b : List Int) : lcsD (x :: a) (x :: b) = 1 + lcsD a b := by
  show (if x = x then _ else _) = _
  rw [if_pos rfl]
theorem lcs_other {x y : Int} (h : x ≠ y) (a b : List Int) : lcsD (x :: a) (y :: b) = max (lcsD a (y :: b)) (lcsD (x :: a) b) := by
  show (if x = y then _ else _) = _
  rw [if_neg h]
  rfl
/-- No common sublist is longer. -/
theorem lcs_most : ∀ (a b l : List Int), l.Sublist a → l.Sublist b → l.length ≤ lcsD a b
  | [], b, l, h1, _ => by rw [List.sublist_nil.1 h1]; simp
  | x :: a, [], l, _, h2 => by rw [List.sublist_nil.1 h2]; simp
  | x :: a, y :: b, l, h1, h2 => by
    cases l with
    | nil => simp
    | cons z l =>
      by_cases h : x = y
      · subst h
        rw [lcs_same]
        have e1 : l.Sublist a := by
          cases h1 with
          | cons _ h => exact (List.sublist_cons_self z l).trans h
          | cons_cons _ h => exact h
        have e2 : l.Sublist b := by
          cases h2 with
          | cons _ h => exact (List.sublist_cons_self z l).trans h
          | cons_cons _ h => exact h
        have := lcs_most a b l e1 e2
        rw [List.length_cons]
        omega
      · rw [lcs_other h]
        by_cases hz : z = x
        · have h3 : (z :: l).Sublist b := by
            cases h2 with
            | cons _ h => exact h
            | cons_cons _ _ => exact absurd hz.symm h
          have := lcs_most (x :: a) b (z :: l) h1 h3
          omega
        · have h3 : (z :: l).Sublist a := by
            cases h1 with
            | cons _ h => exact h
            | cons_cons _ _ => exact absurd rfl hz
          have := lcs_most a (y :: b) (z :: l) h3 h2
          omega
theorem Ed.common {a b : List Int} {n : Nat} (h : Ed a b n) : ∃ l : List Int, l.Sublist a ∧ l.Sublist b ∧ a.length ≤ l.length + n ∧ b.length ≤ l.length + n := by
  induction h with
  | nil => exact ⟨[], .slnil, .slnil, by simp, by simp⟩
  | keep x _ ih =>
    obtain ⟨l, h1, h2, h3, h4⟩ := ih
    exact ⟨x :: l, h1.cons_cons x, h2.cons_cons x, by simp only [List.length_cons]; omega, by simp only [List.length_cons]; omega⟩
  | repl x y _ ih =>
    obtain ⟨l, h1, h2, h3, h4⟩ := ih
    exact ⟨l, h1.cons x, h2.cons y, by simp only [List.length_cons]; omega, by simp only [List.length_cons]; omega⟩
  | del x _ ih =>
    obtain ⟨l, h1, h2, h3, h4⟩ := ih
    exact ⟨l, h1.cons x, h2, by simp only [List.length_cons]; omega, by omega⟩
  | ins y _ ih =>
    obtain ⟨l, h1, h2, h3, h4⟩ := ih
    exact ⟨l, h1, h2.cons y, by omega, by simp only [List.length_cons]; omega⟩
theorem Ed.leaves {l a : List Int} (h : l.Sublist a) : Ed a l (a.length - l.length) := by
  induction h with
  | slnil => exact .nil
  | @cons l a x h ih =>
    have := h.length_le
    rw [List.length_cons, show a.length + 1 - l.length = a.length - l.length + 1 by omega]
    exact .del x ih
  | @cons_cons l a x h ih =>
    rw [List.length_cons, List.length_cons, Nat.add_sub_add_right]
    exact .keep x ih
theorem Ed.symm {a b : List Int} {n : Nat} (h : Ed a b n) : Ed b a n := by
  induction h with
  | nil => exact .nil
  | keep x _ ih => exact .keep x ih
  | repl x y _ ih => exact .repl y x ih
  | del x _ ih => exact .ins x ih
  | ins y _ ih => exact .del y ih
/-- The common subsequence. -/
def subRow (x : Int) (a : List Int) (f : List Int → List Int) : List Int → List Int
  | [] => []
  | y :: b => if x = y then x :: f b else if lcsD (x :: a) b ≤ lcsD a (y :: b) then f (y :: b) else subRow x a f b
def subD : List Int → List Int → List Int
  | [] => fun _ => []
  | x :: a => subRow x a (subD a)
theorem sub_nil (b : List Int) : subD [] b = [] := rfl
theorem sub_end : ∀ a : List Int, subD a [] = []
  | [] => rfl
  | _ :: _ => rfl
theorem sub_same (x : Int) (a b : List Int) : subD (x :: a) (x :: b) = x :: subD a b := by
  show (if x = x then _ else _) = _
  rw [if_pos rfl]
theorem sub_other {x y : Int} (h : x ≠ y) (a b : List Int) : subD (x :: a) (y :: b) = if lcsD (x :: a) b ≤ lcsD a (y :: b) then subD a (y :: b) else subD (x :: a) b := by
  show (if x = y then _ else _) = _
  rw [if_neg h]
  rfl
theorem sub_facts : ∀ a b : List Int, (subD a b).Sublist a ∧ (subD a b).Sublist b ∧ (subD a b).length = lcsD a b
  | [], b => ⟨.slnil, List.nil_sublist _, rfl⟩
  | x :: a, [] => ⟨List.nil_sublist _, .slnil, rfl⟩
  | x :: a, y :: b => by
    by_cases h : x = y
    · subst h
      obtain ⟨h1, h2, h3⟩ := sub_facts a b
      rw [sub_same, lcs_same]
      exact ⟨h1.cons_cons x, h2.cons_cons x, by rw [List.length_cons, h3]; omega⟩
    · rw [sub_other h, lcs_other h]
      split
      · obtain ⟨h1, h2, h3⟩ := sub_facts a (y :: b)
        exact ⟨h1.cons x, h2, by omega⟩
      · obtain ⟨h1, h2, h3⟩ := sub_facts (x :: a) b
        exact ⟨h1, h2.cons y, by omega⟩
theorem sub_low (a b : List Int) : max a.length b.length ≤ edD a b + (subD a b).length := by
  obtain ⟨l, h1, h2, h3, h4⟩ := (ed_way a b).common
  have h5 := lcs_most a b l h1 h2
  have h6 := (sub_facts a b).2.2
  omega
theorem sub_high (a b : List Int) : edD a b + 2 * (subD a b).length ≤ a.length + b.length := by
  obtain ⟨h1, h2, h3⟩ := sub_facts a b
  obtain ⟨k, hk, hE⟩ := (Ed.leaves h1).trans (Ed.leaves h2).symm
  have := ed_least hE
  have := h1.length_le
  have := h2.length_le
  omega

end Go.Proofs.Ytlloofmmblhnjaa

namespace Go.Proofs.Ytlloofmmblhnjaa

abbrev OpI := Int × Int
def badOp (o : OpI) : Bool := decide (o.1 < 1) || decide (4 < o.1) || (decide (o.2 ≠ 0) && (decide (o.1 = 1) || decide (o.1 = 3)))
/-- Where a script leads, if it takes exactly all characters. -/
def runE : List Int → List OpI → Option (List Int)
  | [], [] => some []
  | _ :: _, [] => none
  | a, o :: l =>
    if o.1 = 4 then (runE a l).map (o.2 :: ·) else
    match a with
    | [] => none
    | x :: a => if o.1 = 1 then (runE a l).map (x :: ·) else if o.1 = 2 then (runE a l).map (o.2 :: ·) else runE a l
def costE (l : List OpI) : Nat := (l.filter fun o => decide (o.1 ≠ 1)).length
theorem run_ins (a : List Int) {o : OpI} (l : List OpI) (h : o.1 = 4) : runE a (o :: l) = (runE a l).map (o.2 :: ·) := by
  cases a <;> simp [runE, h]
theorem run_none {o : OpI} (l : List OpI) (h : o.1 ≠ 4) : runE [] (o :: l) = none := by simp [runE, h]
theorem run_take (x : Int) (a : List Int) {o : OpI} (l : List OpI) (h : o.1 ≠ 4) : runE (x :: a) (o :: l) = if o.1 = 1 then (runE a l).map (x :: ·) else if o.1 = 2 then (runE a l).map (o.2 :: ·) else runE a l := by simp [runE, h]
theorem cost_cons (o : OpI) (l : List OpI) : costE (o :: l) = (if o.1 = 1 then 0 else 1) + costE l := by
  unfold costE
  by_cases h : o.1 = 1
  · simp [h]
  · simp [h]; omega
theorem bad_not {o : OpI} (h : badOp o = false) : (o.1 = 1 ∨ o.1 = 2 ∨ o.1 = 3 ∨ o.1 = 4) ∧ (o.1 = 1 ∨ o.1 = 3 → o.2 = 0) := by
  unfold badOp at h
  simp only [Bool.or_eq_false_iff, Bool.and_eq_false_iff, decide_eq_false_iff_not] at h
  omega
/-- A script is a way, and costs what it costs. -/
theorem run_way : ∀ (l : List OpI) (a b : List Int), (∀ o ∈ l, badOp o = false) → runE a l = some b → Ed a b (costE l)
  | [], [], b, _, h => by
    have : b = [] := by simpa [runE] using h.symm
    rw [this]
    exact .nil
  | [], _ :: _, b, _, h => by simp [runE] at h
  | o :: l, a, b, hg, h => by
    have hl : ∀ o ∈ l, badOp o = false := fun x hx => hg x (List.mem_cons_of_mem _ hx)
    rw [cost_cons]
    by_cases h4 : o.1 = 4
    · rw [run_ins a l h4] at h
      obtain ⟨r, hr, rfl⟩ := Option.map_eq_some_iff.1 h
      rw [if_neg (by omega), Nat.add_comm]
      exact .ins _ (run_way l a r hl hr)
    · cases a with
      | nil => rw [run_none l h4] at h; cases h
      | cons x a =>
        rw [run_take x a l h4] at h
        by_cases h1 : o.1 = 1
        · rw [if_pos h1] at h
          obtain ⟨r, hr, rfl⟩ := Option.map_eq_some_iff.1 h
          rw [if_pos h1, Nat.zero_add]
          exact .keep x (run_way l a r hl hr)
        · rw [if_neg h1] at h
          rw [if_neg h1, Nat.add_comm]
          by_cases h2 : o.1 = 2
          · rw [if_pos h2] at h
            obtain ⟨r, hr, rfl⟩ := Option.map_eq_some_iff.1 h
            exact .repl x _ (run_way l a r hl hr)
          · rw [if_neg h2] at h
            exact .del x (run_way l a b hl h)

/-! The least script. -/
def scrRow (x : Int) (a : List Int) (f : List Int → List OpI) : List Int → List OpI
  | [] => (3, 0) :: f []
  | y :: b => if x = y then (1, 0) :: f b else if edD (x :: a) (y :: b) = 1 + edD a b then (2, y) :: f b else if edD (x :: a) (y :: b) = 1 + edD a (y :: b) then (3, 0) :: f (y :: b) else (4, y) :: scrRow x a f b
def scrD : List Int → List Int → List OpI
  | [] => List.map fun y => (4, y)
  | x :: a => scrRow x a (scrD a)
theorem scr_nil_cons (y : Int) (b : List Int) : scrD [] (y :: b) = (4, y) :: scrD [] b := rfl
theorem scr_end (x : Int) (a : List Int) : scrD (x :: a) [] = (3, 0) :: scrD a [] := rfl
theorem scr_cons (x y : Int) (a b : List Int) : scrD (x :: a) (y :: b) = if x = y then (1, 0) :: scrD a b else if edD (x :: a) (y :: b) = 1 + edD a b then (2, y) :: scrD a b else if edD (x :: a) (y :: b) = 1 + edD a (y :: b) then (3, 0) :: scrD a (y :: b) else (4, y) :: scrD (x :: a) b := rfl
theorem scr_facts : ∀ a b : List Int, (∀ o ∈ scrD a b, badOp o = false) ∧ runE a (scrD a b) = some b ∧ costE (scrD a b) = edD a b
  | [], [] => ⟨fun o ho => (by cases ho), rfl, rfl⟩
  | [], y :: b => by
    obtain ⟨h1, h2, h3⟩ := scr_facts [] b
    rw [scr_nil_cons]
    refine ⟨fun o ho => ?_, ?_, ?_⟩
    · rcases List.mem_cons.1 ho with rfl | ho
      · simp [badOp]
      · exact h1 o ho
    · rw [run_ins _ _ rfl, h2]; rfl
    · rw [cost_cons, h3, if_neg (by simp), ed_nil, ed_nil, List.length_cons]; omega
  | x :: a, [] => by
    obtain ⟨h1, h2, h3⟩ := scr_facts a []
    rw [scr_end]
    refine ⟨fun o ho => ?_, ?_, ?_⟩
    · rcases List.mem_cons.1 ho with rfl | ho
      · simp [badOp]
      · exact h1 o ho
    · rw [run_take x a _ (by simp), if_neg (by simp), if_neg (by simp), h2]
    · rw [cost_cons, h3, if_neg (by simp), ed_end, ed_end, List.length_cons]; omega
  | x :: a, y :: b => by
    rw [scr_cons]
    by_cases h : x = y
    · subst h
      obtain ⟨h1, h2, h3⟩ := scr_facts a b
      rw [if_pos rfl]
      refine ⟨fun o ho => ?_, ?_, ?_⟩
      · rcases List.mem_cons.1 ho with rfl | ho
        · simp [badOp]
        · exact h1 o ho
      · rw [run_take x a _ (by simp), if_pos rfl, h2]; rfl
      · rw [cost_cons, h3, if_pos rfl, ed_same]; omega
    · rw [if_neg h]
      by_cases g1 : edD (x :: a) (y :: b) = 1 + edD a b
      · obtain ⟨h1, h2, h3⟩ := scr_facts a b
        rw [if_pos g1]
        refine ⟨fun o ho => ?_, ?_, ?_⟩
        · rcases List.mem_cons.1 ho with rfl | ho
          · simp [badOp]
          · exact h1 o ho
        · rw [run_take x a _ (by simp), if_neg (by simp), if_pos rfl, h2]; rfl
        · rw [cost_cons, h3, if_neg (by simp), g1]
      · rw [if_neg g1]
        by_cases g2 : edD (x :: a) (y :: b) = 1 + edD a (y :: b)
        · obtain ⟨h1, h2, h3⟩ := scr_facts a (y :: b)
          rw [if_pos g2]
          refine ⟨fun o ho => ?_, ?_, ?_⟩
          · rcases List.mem_cons.1 ho with rfl | ho
            · simp [badOp]
            · exact h1 o ho
          · rw [run_take x a _ (by simp), if_neg (by simp), if_neg (by simp), h2]
          · rw [cost_cons, h3, if_neg (by simp), g2]
        · obtain ⟨h1, h2, h3⟩ := scr_facts (x :: a) b
          rw [if_neg g2]
          refine ⟨fun o ho => ?_, ?_, ?_⟩
          · rcases List.mem_cons.1 ho with rfl | ho
            · simp [badOp]
            · exact h1 o ho
          · rw [run_ins _ _ rfl, h2]; rfl
          · rw [cost_cons, h3, if_neg (by simp)]
            rw [ed_other h] at g1 g2 ⊢
            omega
theorem scr_least {a b : List Int} {l : List OpI} (hg : ∀ o ∈ l, badOp o = false) (h : runE a l = some b) : edD a b ≤ costE l := ed_least (run_way l a b hg h)
/-- Apply. -/
def applyE (a : List Int) (l : List OpI) : List Int × Int :=
  if l.any badOp then ([], 1) else match runE a l with
    | some b => (b, 0)
    | none => ([], 2)
theorem apply_own (a b : List Int) : applyE a (scrD a b) = (b, 0) := by
  obtain ⟨h1, h2, _⟩ := scr_facts a b
  unfold applyE
  rw [if_neg, h2]
  intro h
  obtain ⟨o, ho, hb⟩ := List.any_eq_true.1 h
  rw [h1 o ho] at hb
  cases hb
theorem apply_least {a b : List Int} {l : List OpI} (h : applyE a l = (b, 0)) : edD a b ≤ costE l := by
  unfold applyE at h
  split at h
  · injection h with _ h; cases h
  · rename_i hb
    cases hr : runE a l with
    | none => rw [hr] at h; injection h with _ h; cases h
    | some r =>
      rw [hr] at h
      injection h with h _
      subst h
      refine scr_least (fun o ho => ?_) hr
      by_cases hbo : badOp o = true
      · exact absurd (List.any_eq_true.2 ⟨o, ho, hbo⟩) hb
      · simpa using hbo
/-- Inside: the greedy test is the sublist. -/
def insideE : List Int → List Int → Bool
  | [], _ => true
  | _ :: _, [] => false
  | z :: l, x :: a => if x = z then insideE l a else insideE (z :: l) a
theorem inside_iff : ∀ l a : List Int, insideE l a = true ↔ l.Sublist a
  | [], a => ⟨fun _ => List.nil_sublist a, fun _ => by simp [insideE]⟩
  | z :: l, [] => ⟨fun h => by simp [insideE] at h, fun h => by cases h⟩
  | z :: l, x :: a => by
    rw [insideE]
    by_cases h : x = z
    · subst h
      rw [if_pos rfl, inside_iff l a]
      constructor
      · exact fun h => h.cons_cons x
      · intro h
        cases h with
        | cons _ h => exact (List.sublist_cons_self x l).trans h
        | cons_cons _ h => exact h
    · rw [if_neg h, inside_iff (z :: l) a]
      constructor
      · exact fun h => h.cons x
      · intro h2
        cases h2 with
        | cons _ h => exact h
        | cons_cons _ _ => exact absurd rfl h

end Go.Proofs.Ytlloofmmblhnjaa

namespace Go.Proofs.Ytlloofmmblhnjaa
open Go.RowKit

def runesF (s : ByteArray) : Nat → Nat → List Int
  | 0, _ => []
  | f + 1, pos => if pos < s.size then ((Utf8.decode s pos).1 : Int) :: runesF s f (pos + (Utf8.decode s pos).2) else []
/-- The characters from a place on. -/
def runesAt (s : ByteArray) (pos : Nat) : List Int := runesF s (s.size - pos) pos
theorem runesF_stop (s : ByteArray) (f pos : Nat) (h : ¬ pos < s.size) : runesF s f pos = [] := by
  cases f with
  | zero => rfl
  | succ f => rw [runesF, if_neg h]
theorem runesF_enough (s : ByteArray) : ∀ (f g pos : Nat), s.size - pos ≤ f → s.size - pos ≤ g → runesF s f pos = runesF s g pos
  | 0, g, pos, h, _ => by rw [runesF_stop s 0 pos (by omega), runesF_stop s g pos (by omega)]
  | f + 1, 0, pos, _, h => by rw [runesF_stop s (f + 1) pos (by omega), runesF_stop s 0 pos (by omega)]
  | f + 1, g + 1, pos, h1, h2 => by
    rw [runesF, runesF]
    by_cases hp : pos < s.size
    · have := Lib.decode_width_pos s pos hp
      rw [if_pos hp, if_pos hp, runesF_enough s f g _ (by omega) (by omega)]
    · rw [if_neg hp, if_neg hp]
theorem runes_end (s : ByteArray) (pos : Nat) (h : s.size ≤ pos) : runesAt s pos = [] := runesF_stop s _ pos (by omega)
theorem runes_step (s : ByteArray) (pos c n : Nat) (hp : pos < s.size) (h : Utf8.decode s pos = (c, n)) : runesAt s pos = (c : Int) :: runesAt s (pos + n) ∧ 1 ≤ n := by
  have hw := Lib.decode_width_pos s pos hp
  rw [h] at hw
  refine ⟨?_, hw⟩
  unfold runesAt
  rw [runesF_enough s (s.size - pos) (s.size - pos - 1 + 1) pos (by omega) (by omega), runesF, if_pos hp, h]
  congr 1
  exact runesF_enough s _ _ _ (by show s.size - (pos + n) ≤ _; omega) (Nat.le_refl _)
theorem runesF_len (s : ByteArray) : ∀ (f pos : Nat), (runesF s f pos).length ≤ f
  | 0, _ => Nat.le_refl _
  | f + 1, pos => by
    rw [runesF]
    split
    · rw [List.length_cons]
      have := runesF_len s f (pos + (Utf8.decode s pos).2)
      omega
    · simp
def charsE (b : List UInt8) : List Int := runesAt (str b) 0
theorem chars_len (b : List UInt8) : (charsE b).length ≤ b.length := runesF_len (str b) _ 0

/-! The document's examples. -/
theorem exE1 : charsE [107, 105, 116, 116, 101, 110] = [107, 105, 116, 116, 101, 110] := by kernel_rfl
theorem exE2 : charsE [115, 105, 116, 116, 105, 110, 103] = [115, 105, 116, 116, 105, 110, 103] := by kernel_rfl
theorem exE3 : edD [107, 105, 116, 116, 101, 110] [115, 105, 116, 116, 105, 110, 103] = 3 := by kernel_rfl
theorem exE4 : subD [107, 105, 116, 116, 101, 110] [115, 105, 116, 116, 105, 110, 103] = [105, 116, 116, 110] := by kernel_rfl
theorem exE5 : charsE [99, 97, 116] = [99, 97, 116] := by kernel_rfl
theorem exE6 : charsE [99, 97, 114, 116] = [99, 97, 114, 116] := by kernel_rfl
theorem exE7 : scrD [99, 97, 116] [99, 97, 114, 116] = [(1, 0), (1, 0), (4, 114), (1, 0)] := by kernel_rfl
theorem exE8 : edD [99, 97, 116] [99, 97, 114, 116] = 1 := by kernel_rfl
theorem exE9 : costE [(1, 0), (1, 0), (4, 114), (1, 0)] = 1 := by kernel_rfl

end Go.Proofs.Ytlloofmmblhnjaa

namespace Go.Proofs.Ytlloofmmblhnjaa
open Go.RowKit

/-- A digit as the model holds it. -/
def nv (d : Nat) : Value := .int .i64 (d : Int)
theorem one_nv (n : Nat) : (nv n).oneCell' = true := rfl
theorem info_int : (Try.prog.info? 3).map (fun i => (i.zero, i.size, i.bytes)) = some (some (.int .i64 0), 1, 8) := by kernel_rfl
theorem elem_ints : Try.prog.underlying 22 = some (.slice (Try.prog.elem 22)) := by kernel_rfl
theorem size_elem_int (W : World) : (sizeOf (Try.prog.elem 22)).run Try.prog W = .ok 1 W := by kernel_rfl

theorem Arr.nat {w : World} {B : Nat} {v : Value} {l : List Nat} (h : Arr iv w B v (l.map fun d : Nat => (d : Int))) : Arr nv w B v l := by
  rcases h with ⟨e, h0⟩ | ⟨a, c, e, hl, hb, hc⟩
  · exact .inl ⟨e, by simpa using h0⟩
  · rw [List.length_map] at e hl hb
    exact .inr ⟨a, c, e, hl, hb, fun i u hu => hc i u (by rw [List.getElem?_map, hu]; rfl)⟩
theorem Arr.int {w : World} {B : Nat} {v : Value} {l : List Nat} (h : Arr nv w B v l) : Arr iv w B v (l.map fun d : Nat => (d : Int)) := by
  rcases h with ⟨e, h0⟩ | ⟨a, c, e, hl, hb, hc⟩
  · exact .inl ⟨e, by rw [h0]; rfl⟩
  · refine .inr ⟨a, c, by rw [List.length_map]; exact e, by rw [List.length_map]; exact hl, by rw [List.length_map]; exact hb, fun i u hu => ?_⟩
    rw [List.getElem?_map] at hu
    cases hi : l[i]? with
    | none => rw [hi] at hu; simp at hu
    | some d => rw [hi] at hu; simp at hu; subst hu; exact hc i d hi

theorem head_ints (A : Option Addr) (n c N : Nat) (hN : N ≤ c) (W : World) :
    (Instr.sliceAt 22 (.slice A n c) none (some (.int .i64 (N : Int))) none).run Try.prog W = .ok (.slice A N c) W := slice_head _ elem_ints size_elem_int A n c N hN W
theorem make_ints (l c : Nat) (hlc : l ≤ c) (hc : c ≤ 1000000) (W : World) :
    (Instr.makeSlice 22 (.int .i64 (l : Int)) (.int .i64 (c : Int))).run Try.prog W = .ok (.slice (some ⟨W.heap.size, 0, none⟩) l c) (W.alloc (.cells (madeOf (.int .i64 0) c) 3)) :=
  make_run 22 3 (.int .i64 0) 8 Try.underlying22 info_int l c hlc hc (by decide) W

/-- append of a whole slice of digits onto a row of the call's own. -/
theorem append_ints {ops : Array Oper} {rest : List Oper} {o : Oper} {a : Act} {Q : Exit → Act → World → Prop} (w : World) (hgd : o.guard = none) (s x : Operand)
    (ho : o.op = .call { callee := .builtin .append, args := #[s, x], argTypes := #[22, 22] })
    (base B : Nat) (v : Value) (xs : List Nat) (hs : a.eval s = v) (hown : w.ownsRow base 3 1 v xs.length (xs.map nv))
    (news : List Nat) (src : Value) (hx : a.eval x = src) (hsl : Arr nv w B src news) (hlen : xs.length + news.length ≤ 1000000000000) (hbase : base ≤ w.heap.size)
    (h : ∀ v' w', w'.ownsRow base 3 1 v' (xs ++ news).length ((xs ++ news).map nv) → Below base w w' → wpList Try.prog ops Q rest (a.put o.dst v') w') : wpList Try.prog ops Q (o :: rest) a w :=
  append_arr 22 3 (.int .i64 0) 8 Try.underlying22 info_int rfl (by decide) one_nv w hgd s x ho base B v xs hs hown news src hx hsl hlen hbase h
/-- append of one digit. -/
theorem append_int {ops : Array Oper} {rest : List Oper} {o : Oper} {a : Act} {Q : Exit → Act → World → Prop} (w : World) (hgd : o.guard = none) (s x : Operand)
    (ho : o.op = .call { callee := .builtin .append, args := #[s, x], argTypes := #[22, 22] })
    (base : Nat) (v : Value) (xs : List Nat) (hs : a.eval s = v) (hown : w.ownsRow base 3 1 v xs.length (xs.map nv)) (y : Nat) (u : Value) (hu : u = nv y)
    (hx : a.eval x = .slice (some ⟨w.heap.size, 0, none⟩) 1 1) (hlen : xs.length ≤ 1000000000000 - 1) (hbase : base ≤ w.heap.size)
    (h : ∀ v' w', w'.ownsRow base 3 1 v' (xs ++ [y]).length ((xs ++ [y]).map nv) → Below base w w' → wpList Try.prog ops Q rest (a.put o.dst v') w') : wpList Try.prog ops Q (o :: rest) a (w.alloc (.cells #[u] 3)) :=
  append_one 22 3 (.int .i64 0) 8 Try.underlying22 info_int rfl (by decide) one_nv w hgd s x ho base v xs hs hown y u hu hx hlen hbase h

end Go.Proofs.Ytlloofmmblhnjaa
