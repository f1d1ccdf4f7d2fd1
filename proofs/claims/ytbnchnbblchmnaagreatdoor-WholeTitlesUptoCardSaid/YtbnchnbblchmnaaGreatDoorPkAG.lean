/-
  Normal forms in plain mathematics: composed letters, compatibility forms, classes of marks, sorting of marks, decomposed and composed forms, and what the document promises of them.
  Normal forms: forms of forms are themselves.
  The reference's table of composed letters in memory.
-/
import Derived.Test.YtbnchnbblchmnaaGreatDoorPkAC
import Derived.Test.YtbnchnbblchmnaaGreatDoorPkAE
namespace Go.Proofs.YtbnchnbblchmnaaGreatDoor

/-- Mark, composed letters, bases. -/
def rowL : List (Nat × List Nat × List Nat) := [
  (768, [192, 200, 204, 210, 217, 224, 232, 236, 242, 249], [65, 69, 73, 79, 85, 97, 101, 105, 111, 117]),
  (769, [193, 201, 205, 211, 218, 221, 225, 233, 237, 243, 250, 253, 262, 263, 313, 314, 323, 324, 340, 341, 346, 347, 377, 378, 902, 904, 905, 906, 908, 910, 911, 940, 941, 942, 943, 972, 973, 974], [65, 69, 73, 79, 85, 89, 97, 101, 105, 111, 117, 121, 67, 99, 76, 108, 78, 110, 82, 114, 83, 115, 90, 122, 913, 917, 919, 921, 927, 933, 937, 945, 949, 951, 953, 959, 965, 969]),
  (770, [194, 202, 206, 212, 219, 226, 234, 238, 244, 251, 264, 265, 284, 285, 292, 293, 308, 309, 348, 349, 372, 373, 374, 375], [65, 69, 73, 79, 85, 97, 101, 105, 111, 117, 67, 99, 71, 103, 72, 104, 74, 106, 83, 115, 87, 119, 89, 121]),
  (771, [195, 209, 213, 227, 241, 245, 296, 297, 360, 361], [65, 78, 79, 97, 110, 111, 73, 105, 85, 117]),
  (772, [256, 257, 274, 275, 298, 299, 332, 333, 362, 363], [65, 97, 69, 101, 73, 105, 79, 111, 85, 117]),
  (774, [258, 259, 276, 277, 286, 287, 300, 301, 334, 335, 364, 365, 1049, 1081, 1038, 1118], [65, 97, 69, 101, 71, 103, 73, 105, 79, 111, 85, 117, 1048, 1080, 1059, 1091]),
  (775, [266, 267, 278, 279, 288, 289, 304, 379, 380], [67, 99, 69, 101, 71, 103, 73, 90, 122]),
  (776, [196, 203, 207, 214, 220, 228, 235, 239, 246, 252, 255, 376, 938, 939, 970, 971, 1025, 1105, 1031, 1111], [65, 69, 73, 79, 85, 97, 101, 105, 111, 117, 121, 89, 921, 933, 953, 965, 1045, 1077, 1030, 1110]),
  (778, [197, 229, 366, 367], [65, 97, 85, 117]),
  (779, [336, 337, 368, 369], [79, 111, 85, 117]),
  (780, [268, 269, 270, 271, 282, 283, 327, 328, 344, 345, 352, 353, 356, 357, 381, 382, 317, 318], [67, 99, 68, 100, 69, 101, 78, 110, 82, 114, 83, 115, 84, 116, 90, 122, 76, 108]),
  (807, [199, 231, 290, 291, 310, 311, 315, 316, 325, 326, 342, 343, 350, 351, 354, 355], [67, 99, 71, 103, 75, 107, 76, 108, 78, 110, 82, 114, 83, 115, 84, 116]),
  (808, [260, 261, 280, 281, 302, 303, 370, 371], [65, 97, 69, 101, 73, 105, 85, 117])]
def pairL : List (Nat × Nat × Nat) := rowL.flatMap fun r => (r.2.1.zip r.2.2).map fun x => (x.1, x.2, r.1)
/-- Base and mark of a composed letter; zeros for others. -/
def pairR (c : Nat) : Nat × Nat := match pairL.find? fun x => Nat.beq x.1 c with | some x => x.2 | none => (0, 0)
/-- The letter that is composed of a base and a mark, or 0. -/
def compR (b m : Nat) : Nat := match pairL.find? fun x => Nat.beq x.2.1 b && Nat.beq x.2.2 m with | some x => x.1 | none => 0
def wholeR (c : Nat) : List Nat :=
  if Nat.beq c 160 = true then [32] else if Nat.beq c 185 = true then [49] else if (Nat.beq c 178 || Nat.beq c 179) = true then [c - 128]
  else if Nat.beq c 383 = true then [115] else if Nat.beq c 64257 = true then [102, 105] else if Nat.beq c 64258 = true then [102, 108]
  else if inN c 65281 65374 = true then [c - 65248] else if Nat.blt c 192 = true then [c]
  else if Nat.beq (pairR c).1 0 = true then [c] else [(pairR c).1, (pairR c).2]
/-- The class of a mark; 0 for other characters. -/
def clM (c : Nat) : Nat := if kindR (c : Int) = 2 then (if Nat.beq c 807 || Nat.beq c 808 then 1 else if Nat.beq c 803 then 2 else 3) else 0

/-! Sorting of marks. The list is kept with its end first. -/
section
variable (cl : Nat → Nat)
def insB (c : Nat) : List Nat → List Nat
  | [] => [c]
  | x :: r => if 0 < cl c ∧ cl c < cl x then x :: insB c r else c :: x :: r
def sortB (R l : List Nat) : List Nat := l.foldl (fun R c => insB cl c R) R
theorem sortB_nil (R : List Nat) : sortB cl R [] = R := rfl
theorem sortB_cons (R : List Nat) (c : Nat) (l : List Nat) : sortB cl R (c :: l) = sortB cl (insB cl c R) l := rfl
theorem sortB_app (R l m : List Nat) : sortB cl R (l ++ m) = sortB cl (sortB cl R l) m := List.foldl_append
theorem ins_mem (c y : Nat) : ∀ R : List Nat, y ∈ insB cl c R ↔ y = c ∨ y ∈ R
  | [] => by simp [insB]
  | x :: r => by
    rw [insB]
    split
    · rw [List.mem_cons, ins_mem c y r, List.mem_cons]
      constructor
      · rintro (h | h | h)
        · exact .inr (.inl h)
        · exact .inl h
        · exact .inr (.inr h)
      · rintro (h | h | h)
        · exact .inr (.inl h)
        · exact .inl h
        · exact .inr (.inr h)
    · simp
theorem sort_mem (y : Nat) : ∀ (l R : List Nat), y ∈ sortB cl R l ↔ y ∈ l ∨ y ∈ R
  | [], R => by simp [sortB]
  | c :: l, R => by
    rw [sortB_cons, sort_mem y l, ins_mem, List.mem_cons]
    constructor
    · rintro (h | h | h)
      · exact .inl (.inr h)
      · exact .inl (.inl h)
      · exact .inr h
    · rintro ((h | h) | h)
      · exact .inr (.inl h)
      · exact .inl h
      · exact .inr (.inr h)
theorem ins_len (c : Nat) : ∀ R : List Nat, (insB cl c R).length = R.length + 1
  | [] => rfl
  | x :: r => by
    rw [insB]
    split
    · rw [List.length_cons, ins_len c r, List.length_cons]
    · rfl
theorem sort_len : ∀ (l R : List Nat), (sortB cl R l).length = l.length + R.length
  | [], R => by simp [sortB]
  | c :: l, R => by rw [sortB_cons, sort_len l, ins_len, List.length_cons]; omega
/-- Marks of different classes: it does not matter which comes first. -/
theorem ins_comm {a b : Nat} (ha : 0 < cl a) (hb : 0 < cl b) (hab : cl a ≠ cl b) : ∀ R : List Nat, insB cl a (insB cl b R) = insB cl b (insB cl a R)
  | [] => by
    show insB cl a [b] = insB cl b [a]
    by_cases h : cl a < cl b
    · have h2 : ¬ (0 < cl b ∧ cl b < cl a) := by omega
      simp [insB, ha, h, h2]
    · have h1 : ¬ (0 < cl a ∧ cl a < cl b) := by omega
      have h2 : cl b < cl a := by omega
      simp [insB, hb, h1, h2]
  | x :: r => by
    have ih := ins_comm ha hb hab r
    by_cases h1 : cl a < cl x
    · by_cases h2 : cl b < cl x
      · rw [insB, if_pos ⟨hb, h2⟩, insB, if_pos ⟨ha, h1⟩, ih, insB, if_pos ⟨ha, h1⟩, insB, if_pos ⟨hb, h2⟩]
      · have e1 : insB cl b (x :: r) = b :: x :: r := by rw [insB, if_neg (by omega)]
        have e2 : insB cl a (x :: r) = x :: insB cl a r := by rw [insB, if_pos ⟨ha, h1⟩]
        rw [e1, e2, insB, if_pos ⟨ha, by omega⟩, e2, insB, if_neg (by omega)]
    · have e2 : insB cl a (x :: r) = a :: x :: r := by rw [insB, if_neg (by omega)]
      by_cases h2 : cl b < cl x
      · have e1 : insB cl b (x :: r) = x :: insB cl b r := by rw [insB, if_pos ⟨hb, h2⟩]
        rw [e1, e2, insB, if_neg (by omega), insB, if_pos ⟨hb, by omega⟩, e1]
      · have e1 : insB cl b (x :: r) = b :: x :: r := by rw [insB, if_neg (by omega)]
        rw [e1, e2]
        by_cases h : cl a < cl b
        · rw [insB, if_pos ⟨ha, h⟩, e2, insB, if_neg (by omega)]
        · rw [insB, if_neg (by omega), insB, if_pos ⟨hb, by omega⟩, e1]
/-- Nothing passes a character that is no mark. -/
theorem ins_bar (c x : Nat) (hx : cl x = 0) (R : List Nat) : ∀ A : List Nat, insB cl c (A ++ x :: R) = insB cl c (A ++ [x]) ++ R
  | [] => by
    rw [List.nil_append, List.nil_append, insB, insB, if_neg (by omega), if_neg (by omega)]
    rfl
  | y :: A => by
    rw [List.cons_append, List.cons_append, insB, insB]
    split
    · rw [ins_bar c x hx R A]; rfl
    · simp
theorem ins_keep (c x : Nat) (hx : cl x = 0) : ∀ A : List Nat, ∃ B, insB cl c (A ++ [x]) = B ++ [x]
  | [] => ⟨[c], by rw [List.nil_append, insB, if_neg (by omega)]; rfl⟩
  | y :: A => by
    rw [List.cons_append, insB]
    split
    · obtain ⟨B, hB⟩ := ins_keep c x hx A
      exact ⟨y :: B, by rw [hB]; rfl⟩
    · exact ⟨c :: y :: A, rfl⟩
theorem sort_bar (x : Nat) (hx : cl x = 0) (R : List Nat) : ∀ (l A : List Nat), sortB cl (A ++ x :: R) l = sortB cl (A ++ [x]) l ++ R
  | [], A => by simp [sortB]
  | c :: l, A => by
    obtain ⟨B, hB⟩ := ins_keep cl c x hx A
    rw [sortB_cons, sortB_cons, ins_bar cl c x hx R A, hB, ← sort_bar x hx R l B]
    simp
theorem ins_zero {c : Nat} (h : cl c = 0) (R : List Nat) : insB cl c R = c :: R := by
  cases R with
  | nil => rfl
  | cons x r => rw [insB, if_neg (by omega)]
/-- Strings together, where the second one does not begin with a mark. -/
theorem sort_join (R : List Nat) {l : List Nat} (h : ∀ c, l.head? = some c → cl c = 0) : sortB cl R l = sortB cl [] l ++ R := by
  cases l with
  | nil => rfl
  | cons c l =>
    have hc := h c rfl
    rw [sortB_cons, sortB_cons, ins_zero cl hc, ins_zero cl hc]
    exact sort_bar cl c hc R l []
/-- Marks that follow each other have ascending classes. -/
def Srt : List Nat → Prop
  | y :: x :: r => (0 < cl y → cl x ≤ cl y) ∧ Srt (x :: r)
  | _ => True
theorem ins_head (c : Nat) (R : List Nat) : ∃ x r, insB cl c R = x :: r ∧ (x = c ∨ ∃ r', R = x :: r' ∧ 0 < cl c ∧ cl c < cl x) := by
  cases R with
  | nil => exact ⟨c, [], rfl, .inl rfl⟩
  | cons x r =>
    rw [insB]
    split
    · rename_i h; exact ⟨x, _, rfl, .inr ⟨r, rfl, h⟩⟩
    · exact ⟨c, _, rfl, .inl rfl⟩
theorem ins_srt (c : Nat) : ∀ R : List Nat, Srt cl R → Srt cl (insB cl c R)
  | [], _ => trivial
  | [x], _ => by
    rw [insB]
    split
    · rename_i h
      rw [insB]
      exact ⟨fun _ => by omega, trivial⟩
    · rename_i h
      exact ⟨fun _ => by omega, trivial⟩
  | x :: y :: r, h => by
    have ih := ins_srt c (y :: r) h.2
    rw [insB]
    split
    · rename_i h1
      obtain ⟨z, t, e, hz⟩ := ins_head cl c (y :: r)
      rw [e] at ih ⊢
      refine ⟨fun h2 => ?_, ih⟩
      rcases hz with rfl | ⟨r', e2, _⟩
      · omega
      · injection e2 with e2 _
        subst e2
        exact h.1 h2
    · rename_i h1
      exact ⟨fun h2 => by omega, h⟩
theorem sort_srt : ∀ (l R : List Nat), Srt cl R → Srt cl (sortB cl R l)
  | [], _, h => h
  | c :: l, R, h => by rw [sortB_cons]; exact sort_srt l _ (ins_srt cl c R h)
/-- What is sorted stays as it is. -/
theorem sort_sorted : ∀ (l R : List Nat), Srt cl (l.reverse ++ R) → sortB cl R l = l.reverse ++ R
  | [], R, _ => rfl
  | c :: l, R, h => by
    have e : insB cl c R = c :: R := by
      cases R with
      | nil => rfl
      | cons x r =>
        have h2 : Srt cl (c :: x :: r) := by
          rw [List.reverse_cons, List.append_assoc] at h
          revert h
          generalize l.reverse = m
          intro h
          induction m with
          | nil => exact h
          | cons y m ih =>
            refine ih ?_
            cases m with
            | nil => exact h.2
            | cons z m => exact h.2
        rw [insB, if_neg]
        rintro ⟨h3, h4⟩
        have := h2.1 h3
        omega
    rw [sortB_cons, e]
    have := sort_sorted l (c :: R) (by rw [List.reverse_cons, List.append_assoc] at h; exact h)
    rw [this, List.reverse_cons, List.append_assoc]
    rfl
/-- A mark is moved ahead over marks of other classes. -/
theorem sort_move {m : Nat} (hm : 0 < cl m) : ∀ (A R : List Nat), (∀ a ∈ A, 0 < cl a ∧ cl a ≠ cl m) → sortB cl (insB cl m R) A = insB cl m (sortB cl R A)
  | [], _, _ => rfl
  | a :: A, R, h => by
    have ha := h a (by simp)
    rw [sortB_cons, sortB_cons, ins_comm cl ha.1 hm ha.2]
    exact sort_move hm A _ fun x hx => h x (by simp [hx])
end

/-- The decomposed form. -/
def dcF (l : List Nat) : List Nat := (sortB clM [] (l.flatMap wholeR)).reverse
/-- One character with its marks: what it becomes, and what is left of the marks. -/
def runF (c : Nat) (left : List Nat) : List Nat → Nat × List Nat
  | [] => (c, left)
  | m :: r => if compR c m ≠ 0 ∧ (left.any fun k => Nat.beq (clM k) (clM m)) = false then runF (compR c m) left r else runF c (left ++ [m]) r
def isM (c : Nat) : Bool := Nat.blt 0 (clM c)
def compF : List Nat → List Nat
  | [] => []
  | c :: r => if isM c = true then c :: compF r else (runF c [] (r.takeWhile isM)).1 :: ((runF c [] (r.takeWhile isM)).2 ++ compF (r.dropWhile isM))
termination_by l => l.length
decreasing_by
  · simp
  · have := (List.dropWhile_suffix isM (l := r)).length_le
    simp
    omega

end Go.Proofs.YtbnchnbblchmnaaGreatDoor

namespace Go.Proofs.YtbnchnbblchmnaaGreatDoor

/-! Classes of marks, fast. -/
def isMarkA (c : Nat) : Bool := inN c 768 772 || inN c 774 776 || inN c 778 780 || Nat.beq c 803 || Nat.beq c 807 || Nat.beq c 808
def clF (c : Nat) : Nat := if isMarkA c = true then (if (Nat.beq c 807 || Nat.beq c 808) = true then 1 else if Nat.beq c 803 = true then 2 else 3) else 0
theorem mark_kind {c : Nat} (h : isMarkA c = true) : (clsF c).2 = 2 := by
  unfold isMarkA inN at h
  simp only [Bool.or_eq_true, Bool.and_eq_true, Nat.ble_eq, Nat.beq_eq] at h
  have key : ∀ x ∈ [768, 769, 770, 771, 772, 774, 775, 776, 778, 779, 780, 803, 807, 808], (clsF x).2 = 2 := by decide +kernel
  refine key c ?_
  simp only [List.mem_cons, List.not_mem_nil, or_false]
  omega
theorem kindA_mark {c : Nat} (h : (clsA c).2 = 2) : isMarkA c = true := by
  unfold clsA at h
  split at h
  · simp at h
  · split at h
    · simp at h
    · split at h
      · simp at h
      · split at h
        · rename_i h4; exact h4
        · split at h
          · simp at h
          · split at h
            · simp at h
            · split at h <;> simp at h
theorem no_wide_mark : ((List.range' 33 94).all fun c => !isMarkA c) = true := by kernel_rfl
theorem kind_mark {c : Nat} (h : (clsF c).2 = 2) : isMarkA c = true := by
  unfold clsF at h
  split at h
  · rename_i h1
    exfalso
    have h2 := kindA_mark h
    unfold inN at h1
    rw [Bool.and_eq_true, Nat.ble_eq, Nat.ble_eq] at h1
    have h3 := List.all_eq_true.1 no_wide_mark (c - 65248) (List.mem_range'_1.2 ⟨by omega, by omega⟩)
    rw [h2] at h3
    cases h3
  · exact kindA_mark h
theorem clM_eq (c : Nat) : clM c = clF c := by
  unfold clM clF kindR
  rw [clsF_eq]
  by_cases h : isMarkA c = true
  · rw [if_pos (mark_kind h), if_pos h]
  · rw [if_neg (fun h2 => h (kind_mark h2)), if_neg h]
theorem clM_zero {c : Nat} (h : isMarkA c = false) : clM c = 0 := by rw [clM_eq]; unfold clF; rw [h]; rfl

/-! What the table of composed letters is like. -/
def goodPair (x : Nat × Nat × Nat) : Bool := hasN x.1 && hasN x.2.1 && hasN x.2.2 && !isMarkA x.2.1 && isMarkA x.2.2 && !(isMarkA x.1) && decide (wholeR x.1 = [x.2.1, x.2.2]) && decide (wholeR x.2.1 = [x.2.1]) && decide (wholeR x.2.2 = [x.2.2])
theorem pairs_good : (pairL.all goodPair) = true := by kernel_rfl
theorem pairs_base : (pairL.all fun p => pairL.all fun q => !Nat.beq q.2.1 p.1) = true := by kernel_rfl
structure Pairing (x b m : Nat) : Prop where
  hx : hasN x = true
  hb : hasN b = true
  hm : hasN m = true
  cb : clM b = 0
  cm : 0 < clM m
  cx : clM x = 0
  wx : wholeR x = [b, m]
  wb : wholeR b = [b]
  wm : wholeR m = [m]
theorem mark_pos {c : Nat} (h : isMarkA c = true) : 0 < clM c := by
  rw [clM_eq]
  unfold clF
  rw [if_pos h]
  split
  · omega
  · split <;> omega
theorem pair_of {x b m : Nat} (h : (x, b, m) ∈ pairL) : Pairing x b m := by
  have h1 := List.all_eq_true.1 pairs_good _ h
  unfold goodPair at h1
  simp only [Bool.and_eq_true, Bool.not_eq_true', decide_eq_true_eq] at h1
  obtain ⟨⟨⟨⟨⟨⟨⟨⟨h1, h2⟩, h3⟩, h4⟩, h5⟩, h6⟩, h7⟩, h8⟩, h9⟩ := h1
  exact ⟨h1, h2, h3, clM_zero h4, mark_pos h5, clM_zero h6, h7, h8, h9⟩
theorem pairR_mem {c : Nat} (h : (pairR c).1 ≠ 0) : (c, pairR c) ∈ pairL := by
  unfold pairR at h ⊢
  cases hf : pairL.find? fun x => Nat.beq x.1 c with
  | none => rw [hf] at h; exact absurd rfl h
  | some x =>
    have h1 := List.mem_of_find?_eq_some hf
    have h2 := List.find?_some hf
    rw [Nat.beq_eq] at h2
    rw [← h2]
    exact h1
theorem compR_mem {b m : Nat} (h : compR b m ≠ 0) : (compR b m, b, m) ∈ pairL := by
  unfold compR at h ⊢
  cases hf : pairL.find? fun x => Nat.beq x.2.1 b && Nat.beq x.2.2 m with
  | none => rw [hf] at h; exact absurd rfl h
  | some x =>
    have h1 := List.mem_of_find?_eq_some hf
    have h2 := List.find?_some hf
    simp only [Bool.and_eq_true, Nat.beq_eq] at h2
    obtain ⟨y, b', m'⟩ := x
    simp only at h2 ⊢
    obtain ⟨rfl, rfl⟩ := h2
    exact h1
theorem comp_no {x b m : Nat} (h : (x, b, m) ∈ pairL) (k : Nat) : compR x k = 0 := by
  refine Classical.byContradiction fun h0 => ?_
  have h1 := compR_mem h0
  have h2 : (!Nat.beq x x) = true := List.all_eq_true.1 (List.all_eq_true.1 pairs_base _ h) _ h1
  have h3 : Nat.beq x x = true := by rw [Nat.beq_eq]
  rw [h3] at h2
  cases h2

/-! What a character is replaced by stays as it is. -/
theorem wide_plain : ((List.range' 33 94).all fun c => decide (wholeR c = [c]) && hasN c) = true := by kernel_rfl
theorem wide_of {c : Nat} (h1 : 65281 ≤ c) (h2 : c ≤ 65374) : wholeR (c - 65248) = [c - 65248] ∧ hasN (c - 65248) = true ∧ clM (c - 65248) = 0 := by
  obtain ⟨y, hy⟩ : ∃ y, y = c - 65248 := ⟨_, rfl⟩
  rw [← hy]
  have hm : y ∈ List.range' 33 94 := List.mem_range'_1.2 ⟨by omega, by omega⟩
  have h8 := List.all_eq_true.1 wide_plain y hm
  rw [Bool.and_eq_true, decide_eq_true_eq] at h8
  have h9 := List.all_eq_true.1 no_wide_mark y hm
  rw [Bool.not_eq_true'] at h9
  exact ⟨h8.1, h8.2, clM_zero h9⟩
theorem whole_cases (c : Nat) : (wholeR c = [c]) ∨ (∃ b m, (c, b, m) ∈ pairL ∧ wholeR c = [b, m]) ∨
    (∃ l : List Nat, wholeR c = l ∧ ∀ y ∈ l, wholeR y = [y] ∧ hasN y = true ∧ clM y = 0) := by
  have fin : ∀ l : List Nat, (l.all fun y => decide (wholeR y = [y]) && hasN y && !isMarkA y) = true → ∀ y ∈ l, wholeR y = [y] ∧ hasN y = true ∧ clM y = 0 := by
    intro l h y hy
    have h1 := List.all_eq_true.1 h y hy
    simp only [Bool.and_eq_true, Bool.not_eq_true', decide_eq_true_eq] at h1
    exact ⟨h1.1.1, h1.1.2, clM_zero h1.2⟩
  obtain ⟨W, hW⟩ : ∃ W, W = wholeR c := ⟨_, rfl⟩
  rw [← hW]
  unfold wholeR at hW
  by_cases h1 : Nat.beq c 160 = true
  · rw [if_pos h1] at hW; subst hW; exact .inr (.inr ⟨_, rfl, fin _ (by kernel_rfl)⟩)
  rw [if_neg h1] at hW
  by_cases h2 : Nat.beq c 185 = true
  · rw [if_pos h2] at hW; subst hW; exact .inr (.inr ⟨_, rfl, fin _ (by kernel_rfl)⟩)
  rw [if_neg h2] at hW
  by_cases h3 : (Nat.beq c 178 || Nat.beq c 179) = true
  · rw [if_pos h3] at hW
    rw [Bool.or_eq_true, Nat.beq_eq, Nat.beq_eq] at h3
    rcases h3 with rfl | rfl
    · subst hW; exact .inr (.inr ⟨_, rfl, fin _ (by kernel_rfl)⟩)
    · subst hW; exact .inr (.inr ⟨_, rfl, fin _ (by kernel_rfl)⟩)
  rw [if_neg h3] at hW
  by_cases h4 : Nat.beq c 383 = true
  · rw [if_pos h4] at hW; subst hW; exact .inr (.inr ⟨_, rfl, fin _ (by kernel_rfl)⟩)
  rw [if_neg h4] at hW
  by_cases h5 : Nat.beq c 64257 = true
  · rw [if_pos h5] at hW; subst hW; exact .inr (.inr ⟨_, rfl, fin _ (by kernel_rfl)⟩)
  rw [if_neg h5] at hW
  by_cases h6 : Nat.beq c 64258 = true
  · rw [if_pos h6] at hW; subst hW; exact .inr (.inr ⟨_, rfl, fin _ (by kernel_rfl)⟩)
  rw [if_neg h6] at hW
  by_cases h7 : inN c 65281 65374 = true
  · rw [if_pos h7] at hW
    unfold inN at h7
    rw [Bool.and_eq_true, Nat.ble_eq, Nat.ble_eq] at h7
    have key := wide_of h7.1 h7.2
    generalize c - 65248 = z at hW key
    subst hW
    refine .inr (.inr ⟨[z], rfl, fun y hy => ?_⟩)
    rw [List.mem_singleton] at hy
    rw [hy]
    exact key
  rw [if_neg h7] at hW
  by_cases h8 : Nat.blt c 192 = true
  · rw [if_pos h8] at hW; exact .inl hW
  rw [if_neg h8] at hW
  by_cases h9 : Nat.beq (pairR c).1 0 = true
  · rw [if_pos h9] at hW; exact .inl hW
  rw [if_neg h9] at hW
  rw [Nat.beq_eq] at h9
  exact .inr (.inl ⟨_, _, pairR_mem h9, hW⟩)
theorem whole_whole {c y : Nat} (h : y ∈ wholeR c) : wholeR y = [y] := by
  rcases whole_cases c with e | ⟨b, m, hp, e⟩ | ⟨l, e, hl⟩
  · rw [e, List.mem_singleton] at h
    rw [h]; exact e
  · have hp := pair_of hp
    rw [e] at h
    simp only [List.mem_cons, List.not_mem_nil, or_false] at h
    rcases h with rfl | rfl
    · exact hp.wb
    · exact hp.wm
  · rw [e] at h
    exact (hl y h).1
theorem whole_has {c y : Nat} (hc : hasN c = true) (h : y ∈ wholeR c) : hasN y = true := by
  rcases whole_cases c with e | ⟨b, m, hp, e⟩ | ⟨l, e, hl⟩
  · rw [e, List.mem_singleton] at h
    rw [h]; exact hc
  · have hp := pair_of hp
    rw [e] at h
    simp only [List.mem_cons, List.not_mem_nil, or_false] at h
    rcases h with rfl | rfl
    · exact hp.hb
    · exact hp.hm
  · rw [e] at h
    exact (hl y h).2.1
/-- A mark stands for itself; what another character is replaced by does not begin with a mark. -/
theorem whole_mark {c : Nat} (h : 0 < clM c) : wholeR c = [c] := by
  rcases whole_cases c with e | ⟨b, m, hp, e⟩ | ⟨l, e, hl⟩
  · exact e
  · have := (pair_of hp).cx; omega
  · exfalso
    have hm : isMarkA c = true := by
      cases hx : isMarkA c with
      | true => rfl
      | false => have := clM_zero hx; omega
    unfold isMarkA inN at hm
    simp only [Bool.or_eq_true, Bool.and_eq_true, Nat.ble_eq, Nat.beq_eq] at hm
    have key : ∀ x ∈ [768, 769, 770, 771, 772, 774, 775, 776, 778, 779, 780, 803, 807, 808], wholeR x = [x] := by decide +kernel
    have h1 := key c (by simp only [List.mem_cons, List.not_mem_nil, or_false]; omega)
    rw [h1] at e
    have := (hl c (by rw [← e]; simp)).2.2
    omega
theorem whole_head {c x : Nat} (h : clM c = 0) (hx : (wholeR c).head? = some x) : clM x = 0 := by
  rcases whole_cases c with e | ⟨b, m, hp, e⟩ | ⟨l, e, hl⟩
  · rw [e] at hx; simp at hx; rw [← hx]; exact h
  · rw [e] at hx; simp at hx; rw [← hx]; exact (pair_of hp).cb
  · rw [e] at hx
    exact (hl x (List.mem_of_mem_head? (by rw [hx]; rfl))).2.2
theorem whole_both (c : Nat) : wholeR c ≠ [] ∧ (wholeR c).length ≤ 2 := by
  unfold wholeR
  generalize pairR c = p
  repeat' split
  all_goals exact ⟨by simp, by simp⟩
theorem whole_ne (c : Nat) : wholeR c ≠ [] := (whole_both c).1
theorem whole_len (c : Nat) : (wholeR c).length ≤ 2 := (whole_both c).2

/-! Decomposed forms. -/
def Plain (d : List Nat) : Prop := (∀ y ∈ d, wholeR y = [y]) ∧ Srt clM d.reverse
theorem flat_plain {d : List Nat} (h : ∀ y ∈ d, wholeR y = [y]) : d.flatMap wholeR = d := by
  induction d with
  | nil => rfl
  | cons c d ih => rw [List.flatMap_cons, h c (by simp), ih fun y hy => h y (by simp [hy])]; rfl
theorem dcF_plain {d : List Nat} (h : Plain d) : dcF d = d := by
  unfold dcF
  rw [flat_plain h.1, sort_sorted clM d [] (by rw [List.append_nil]; exact h.2)]
  simp
theorem mem_dcF {y : Nat} {l : List Nat} : y ∈ dcF l ↔ ∃ c ∈ l, y ∈ wholeR c := by
  unfold dcF
  rw [List.mem_reverse, sort_mem, List.mem_flatMap]
  simp
theorem plain_dcF (l : List Nat) : Plain (dcF l) := by
  constructor
  · intro y hy
    obtain ⟨c, _, h⟩ := mem_dcF.1 hy
    exact whole_whole h
  · unfold dcF
    rw [List.reverse_reverse]
    exact sort_srt clM _ [] trivial
theorem dcF_dcF (l : List Nat) : dcF (dcF l) = dcF l := dcF_plain (plain_dcF l)
theorem dcF_has {l : List Nat} (h : ∀ c ∈ l, hasN c = true) : ∀ c ∈ dcF l, hasN c = true := by
  intro y hy
  obtain ⟨c, hc, h1⟩ := mem_dcF.1 hy
  exact whole_has (h c hc) h1
theorem dcF_join (l m : List Nat) (h : ∀ c, m.head? = some c → clM c = 0) : dcF (l ++ m) = dcF l ++ dcF m := by
  unfold dcF
  rw [List.flatMap_append, sortB_app, sort_join clM _ (l := m.flatMap wholeR) ?_, List.reverse_append]
  intro x hx
  cases m with
  | nil => cases hx
  | cons c m =>
    rw [List.flatMap_cons] at hx
    cases hw : wholeR c with
    | nil => exact absurd hw (whole_ne c)
    | cons y t =>
      rw [hw] at hx
      simp at hx
      subst hx
      exact whole_head (h c rfl) (by rw [hw]; rfl)

theorem srt_app {X Y : List Nat} (h : Srt clM (X ++ Y)) : Srt clM X ∧ Srt clM Y := by
  induction X with
  | nil => exact ⟨trivial, h⟩
  | cons x X ih =>
    cases X with
    | nil =>
      cases Y with
      | nil => exact ⟨trivial, trivial⟩
      | cons y Y => exact ⟨trivial, h.2⟩
    | cons z X =>
      have := ih h.2
      exact ⟨⟨h.1, this.1⟩, this.2⟩
theorem Plain.app {X Y : List Nat} (h : Plain (X ++ Y)) : Plain X ∧ Plain Y := by
  have h2 := h.2
  rw [List.reverse_append] at h2
  have h3 := srt_app h2
  exact ⟨⟨fun y hy => h.1 y (by simp [hy]), h3.2⟩, ⟨fun y hy => h.1 y (by simp [hy]), h3.1⟩⟩

/-! Composing one character with its marks. -/
theorem run_done {c : Nat} (h : ∀ k, compR c k = 0) : ∀ (ms left : List Nat), runF c left ms = (c, left ++ ms)
  | [], left => by simp [runF]
  | m :: ms, left => by
    rw [runF, if_neg (fun h2 => h2.1 (h m)), run_done h ms]
    simp
theorem run_cases (c : Nat) : ∀ (ms left : List Nat), runF c left ms = (c, left ++ ms) ∨
    ∃ A m B, ms = A ++ m :: B ∧ compR c m ≠ 0 ∧ (∀ a ∈ left ++ A, clM a ≠ clM m) ∧ runF c left ms = (compR c m, left ++ A ++ B)
  | [], left => .inl (by simp [runF])
  | m :: ms, left => by
    by_cases h : compR c m ≠ 0 ∧ (left.any fun k => Nat.beq (clM k) (clM m)) = false
    · refine .inr ⟨[], m, ms, rfl, h.1, fun a ha => ?_, ?_⟩
      · rw [List.append_nil] at ha
        have h1 := List.any_eq_false.1 h.2 a ha
        intro e
        rw [e] at h1
        exact h1 (by rw [Nat.beq_eq])
      · rw [runF, if_pos h, run_done (comp_no (compR_mem h.1))]
        simp
    · rw [runF, if_neg h]
      rcases run_cases c ms (left ++ [m]) with e | ⟨A, k, B, e1, e2, e3, e4⟩
      · exact .inl (by rw [e]; simp)
      · exact .inr ⟨m :: A, k, B, by rw [e1]; rfl, e2, fun a ha => e3 a (by simpa using ha), by rw [e4]; simp⟩
/-- The document's example of composing is taken back by decomposing. -/
theorem run_back {c : Nat} {ms : List Nat} (hc : clM c = 0) (hm : ∀ m ∈ ms, 0 < clM m) (hp : Plain (c :: ms)) :
    sortB clM [] (wholeR (runF c [] ms).1 ++ (runF c [] ms).2.flatMap wholeR) = (c :: ms).reverse ∧ (∃ t, wholeR (runF c [] ms).1 = c :: t) ∧ clM (runF c [] ms).1 = 0 := by
  have hall : sortB clM [] (c :: ms) = (c :: ms).reverse := by
    have := sort_sorted clM (c :: ms) [] (by rw [List.append_nil]; exact hp.2)
    rwa [List.append_nil] at this
  have hw : wholeR c = [c] := hp.1 c (by simp)
  rcases run_cases c ms [] with e | ⟨A, m, B, e1, e2, e3, e4⟩
  · rw [e]
    simp only [List.nil_append]
    rw [hw, flat_plain fun y hy => hp.1 y (by simp [hy])]
    exact ⟨hall, ⟨[], rfl⟩, hc⟩
  · have hpair := pair_of (compR_mem e2)
    rw [e4]
    simp only [List.nil_append] at e3 ⊢
    rw [hpair.wx, flat_plain fun y hy => hp.1 y (by rw [e1]; simp at hy ⊢; rcases hy with h | h <;> simp [h])]
    refine ⟨?_, ⟨[m], rfl⟩, hpair.cx⟩
    rw [← hall, e1, List.cons_append, List.cons_append, List.nil_append, sortB_cons, sortB_cons, sortB_cons, sortB_app, sortB_app,
      sort_move clM hpair.cm A _ (fun a ha => ⟨hm a (by rw [e1]; simp [ha]), e3 a ha⟩), sortB_cons]

theorem take_marks (r : List Nat) : ∀ m ∈ r.takeWhile isM, 0 < clM m := by
  intro m hm
  have h := List.all_takeWhile (p := isM) (l := r)
  have := List.all_eq_true.1 h m hm
  unfold isM at this
  rwa [Nat.blt_eq] at this
theorem drop_head (r : List Nat) : ∀ c, (r.dropWhile isM).head? = some c → clM c = 0 := by
  intro c hc
  have h := List.head?_dropWhile_not isM r
  rw [hc] at h
  simp only at h
  unfold isM at h
  rw [← Bool.not_eq_true, Nat.blt_eq] at h
  omega
theorem isM_no {c : Nat} (h : ¬ isM c = true) : clM c = 0 := by
  unfold isM at h
  rw [Nat.blt_eq] at h
  omega

theorem comp_marks : ∀ (M r : List Nat), (∀ m ∈ M, 0 < clM m) → compF (M ++ r) = M ++ compF r
  | [], r, _ => rfl
  | m :: M, r, h => by
    have hm : isM m = true := by unfold isM; rw [Nat.blt_eq]; exact h m (by simp)
    rw [List.cons_append, compF, if_pos hm, comp_marks M r fun x hx => h x (by simp [hx])]
    rfl
/-- What is composed, its characters replaced and sorted again, is what it was. -/
theorem comp_back : ∀ (n : Nat) (d : List Nat), d.length ≤ n → Plain d → (∀ c, d.head? = some c → clM c = 0) →
    sortB clM [] ((compF d).flatMap wholeR) = d.reverse ∧ ∀ x, ((compF d).flatMap wholeR).head? = some x → clM x = 0
  | _, [], _, _, _ => by
    rw [compF]
    exact ⟨rfl, fun x hx => by cases hx⟩
  | 0, _ :: _, hn, _, _ => by simp at hn
  | n + 1, c :: r, hn, hp, hh => by
    have hc := hh c rfl
    have hnm : ¬ isM c = true := by unfold isM; rw [Nat.blt_eq]; omega
    have hsp : c :: r = (c :: r.takeWhile isM) ++ r.dropWhile isM := by rw [List.cons_append, List.takeWhile_append_dropWhile]
    rw [hsp] at hp
    obtain ⟨hp1, hp2⟩ := hp.app
    have hlen := (List.dropWhile_suffix isM (l := r)).length_le
    obtain ⟨ih1, ih2⟩ := comp_back n (r.dropWhile isM) (by simp at hn; omega) hp2 (drop_head r)
    obtain ⟨h1, ⟨t, h2⟩, _⟩ := run_back hc (take_marks r) hp1
    rw [compF, if_neg hnm, List.flatMap_cons, List.flatMap_append, ← List.append_assoc]
    constructor
    · rw [sortB_app, sort_join clM _ ih2, ih1, h1, ← List.reverse_append, ← hsp]
    · intro x hx
      rw [h2] at hx
      simp at hx
      rw [← hx]
      exact hc
theorem dcF_compF {d : List Nat} (h : Plain d) : dcF (compF d) = d := by
  have hsp : d = d.takeWhile isM ++ d.dropWhile isM := (List.takeWhile_append_dropWhile).symm
  have hm := take_marks d
  have hp := h
  rw [hsp] at hp
  obtain ⟨hp1, hp2⟩ := hp.app
  obtain ⟨h1, h2⟩ := comp_back _ _ (Nat.le_refl _) hp2 (drop_head d)
  unfold dcF
  conv => lhs; rw [hsp]
  rw [comp_marks _ _ hm, List.flatMap_append, flat_plain hp1.1, sortB_app, sort_join clM _ h2, h1, sort_sorted clM _ [] (by rw [List.append_nil]; exact hp1.2), List.append_nil, List.reverse_append, List.reverse_reverse, List.reverse_reverse]
  exact hsp.symm

/-! The same of strings' characters. -/
theorem run_has {c : Nat} {ms : List Nat} (hc : hasN c = true) (hm : ∀ m ∈ ms, hasN m = true) : hasN (runF c [] ms).1 = true ∧ ∀ x ∈ (runF c [] ms).2, hasN x = true := by
  rcases run_cases c ms [] with e | ⟨A, m, B, e1, e2, e3, e4⟩
  · rw [e]; exact ⟨hc, by simpa using hm⟩
  · rw [e4]
    refine ⟨(pair_of (compR_mem e2)).hx, fun x hx => hm x ?_⟩
    rw [e1]
    simp at hx ⊢
    rcases hx with h | h <;> simp [h]
theorem compF_has : ∀ (n : Nat) (d : List Nat), d.length ≤ n → (∀ c ∈ d, hasN c = true) → ∀ c ∈ compF d, hasN c = true
  | _, [], _, _ => by rw [compF]; simp
  | 0, _ :: _, hn, _ => by simp at hn
  | n + 1, c :: r, hn, h => by
    intro x hx
    rw [compF] at hx
    split at hx
    · rcases List.mem_cons.1 hx with rfl | hx
      · exact h x (by simp)
      · exact compF_has n r (by simp at hn; omega) (fun y hy => h y (by simp [hy])) x hx
    · have hlen := (List.dropWhile_suffix isM (l := r)).length_le
      obtain ⟨h1, h2⟩ := run_has (c := c) (ms := r.takeWhile isM) (h c (by simp)) fun m hm => h m (by simp [(List.takeWhile_prefix isM).subset hm])
      rcases List.mem_cons.1 hx with rfl | hx
      · exact h1
      · rcases List.mem_append.1 hx with hx | hx
        · exact h2 x hx
        · exact compF_has n _ (by simp at hn; omega) (fun y hy => h y (by simp [(List.dropWhile_suffix isM).subset hy])) x hx

end Go.Proofs.YtbnchnbblchmnaaGreatDoor

namespace Go.Proofs.YtbnchnbblchmnaaGreatDoor
open Go.RowKit

theorem flat3 {α β : Type} (a b c : α → β) : ∀ (l : List α) (i : Nat) (x : α), l[i]? = some x →
    (l.flatMap fun x => [a x, b x, c x])[i * 3]? = some (a x) ∧ (l.flatMap fun x => [a x, b x, c x])[i * 3 + 1]? = some (b x) ∧ (l.flatMap fun x => [a x, b x, c x])[i * 3 + 2]? = some (c x)
  | [], i, x, h => by simp at h
  | y :: l, 0, x, h => by
    simp at h
    subst h
    exact ⟨rfl, rfl, rfl⟩
  | y :: l, i + 1, x, h => by
    have := flat3 a b c l i x (by simpa using h)
    rw [List.flatMap_cons]
    have e : ∀ j, ([a y, b y, c y] ++ l.flatMap fun x => [a x, b x, c x])[(i + 1) * 3 + j]? = (l.flatMap fun x => [a x, b x, c x])[i * 3 + j]? := by
      intro j
      rw [List.getElem?_append_right (by simp; omega)]
      congr 1
      simp
      omega
    have e0 := e 0
    rw [Nat.add_zero, Nat.add_zero] at e0
    rw [e0, e 1, e 2]
    exact this
def rowList : List Value := rowL.flatMap fun r => [Value.int .i64 (r.1 : Int), sv (encL r.2.1), sv (encL r.2.2)]
def rowCells : Array Value := rowList.toArray
theorem row_get (j : Nat) : rowCells[j]? = rowList[j]? := List.getElem?_toArray
def rowAt (i : Nat) : Nat × List Nat × List Nat := rowL.getD i (0, [], [])
theorem row_len : rowL.length = 13 := rfl
theorem rowL_get {i : Nat} (hi : i < 13) : rowL[i]? = some (rowAt i) := by
  unfold rowAt
  rw [List.getD, List.getElem?_eq_getElem (by rw [row_len]; exact hi)]
  rfl
theorem row_cells {w : World} {g : Nat} (h : Box w g 204 rowCells) {i : Nat} (hi : i < 13) : w.cell? ⟨g, i * 3, none⟩ = some (.int .i64 ((rowAt i).1 : Int)) ∧ w.cell? ⟨g, i * 3 + 1, none⟩ = some (.string (str (encL (rowAt i).2.1))) ∧
    w.cell? ⟨g, i * 3 + 2, none⟩ = some (.string (str (encL (rowAt i).2.2))) := by
  have := flat3 (fun r : Nat × List Nat × List Nat => Value.int .i64 (r.1 : Int)) (fun r => sv (encL r.2.1)) (fun r => sv (encL r.2.2)) rowL i (rowAt i) (rowL_get hi)
  rw [h.cell, h.cell, h.cell, row_get, row_get, row_get]
  exact this
theorem row_ok : (rowL.all fun r => (r.2.1.all hasN && r.2.2.all hasN) && (Nat.beq r.2.1.length r.2.2.length && Nat.ble r.2.1.length 100)) = true := by kernel_rfl
theorem row_facts {i : Nat} (hi : i < 13) : (∀ c ∈ (rowAt i).2.1, okC c) ∧ (∀ c ∈ (rowAt i).2.2, okC c) ∧ (rowAt i).2.1.length = (rowAt i).2.2.length ∧ (rowAt i).2.1.length ≤ 100 := by
  have h := List.all_eq_true.1 row_ok (rowAt i) (List.mem_of_getElem? (rowL_get hi))
  rw [Bool.and_eq_true, Bool.and_eq_true, Bool.and_eq_true, Nat.beq_eq, Nat.ble_eq, List.all_eq_true, List.all_eq_true] at h
  have ok : ∀ c, hasN c = true → okC c := by
    intro c hc
    rw [← hasN_eq] at hc
    have := has_range hc
    exact ⟨by omega, has_kind.1 hc⟩
  exact ⟨fun c hc => ok c (h.1.1 c hc), fun c hc => ok c (h.1.2 c hc), h.2.1, h.2.2⟩

set_option maxRecDepth 100000 in
set_option maxHeartbeats 3200000 in
theorem rows_any (w : World) :
    Calls Tryz.prog 169 #[] w fun e w' => e = .returned (.slice (some ⟨w.heap.size, 0, none⟩) 13 13) ∧ w' = w.alloc (.cells rowCells 204) := by
  go_enter Tryz.func169, Tryz.ntmps169
  go_wp2
  go_ret
  refine ⟨rfl, ?_⟩
  congr 2

end Go.Proofs.YtbnchnbblchmnaaGreatDoor
