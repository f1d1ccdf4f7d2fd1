/-
  Normal forms in plain mathematics: composed letters, compatibility forms, classes of marks, sorting of marks, decomposed and composed forms, and what the document promises of them.
-/
import Derived.Test.YtpgaebdaakllaaaDoorCharN
namespace Go.Proofs.YtpgaebdaakllaaaDoor

/-- Mark, composed letters, bases. -/
def rowL : List (Nat × List Nat × List Nat) := [
  (768, [192, 200, 204, 210, 217, 224, 232, 236, 242, 249], [65, 69, 73, 79, 85, 97, 101, 105, 111, 117]),
  (769, [193, 201, 205, 211, 218, 221, 225, 233, 237, 243, 250, 253, 262, 263, 313, 314, 323, 324, 340, 341, 346, 347, 377, 378, 902, 904, 905, 906, 908, 910, 911, 940, 941, 942, 943, 972, 973, 974], [65, 69, 73, 79, 85, 89, 97, 101, 105, 111, 117, 121, 67, 99, 76, 108, 78, 110, 82, 114, 83, 115, 90, 122, 913, 917, 919, 921, 927, 933, 937, 945, 949, 951, 953, 959, 965, 969]),
  (770, [194, 202, 206, 212, 219, 226, 234, 238, 244, 251, 264, 265, 284, 285, 292, 293, 308, 309, 348, 349, 372, 373, 374, 375], [65, 69, 73, 79, 85, 97, 101, 105, 111, 117, 67, 99, 71, 103, 72, 104, 74, 106, 83, 115, 87, 119, 89, 121]),
  (771, [195, 209, 213, 227, 241, 245, 296, 297, 360, 361], [65, 78, 79, 97, 110, 111, 73, 105, 85, 117]),
  (772, [256, 257, 274, 275, 298, 299, 332, 333, 362, 363], [65, 97, 69, 101, 73, 105, 79, 111, 85, 117]),
  (774, [258, 259, 276, 277, 286, 287, 300, 301, 334, 335, 364, 365, 1049, 1081, 1038, 1118], [65, 97, 69, 101, 71, 103, 73, 105, 79, 111, 85, 117, 1048, 1080, 1059, 1091]),
  (775, [266, 267, 278, 279, 288, 289, 304, 379, 380], [67, 99, 69, 101, 71, 103, 73, 90, 122]),
  (776, [196, 203, 207, 214, 220, 228, 235, 239, 246, 252, 255, 376, 938, 939, 970, 971, 1025, 1105, 1031, 1111], [65, 69, 73, 79, 85, 97, 101, 105, 111, 117, 121, 89, 921, 933, 953, 965, 1045, 1077, 1030, 1110]),
  (778, [197, 229, 366, 367], [65, 97, 85, 117]),
  (779, [336, 337, 368, 369], [79, 111, 85, 117]),
  (780, [268, 269, 270, 271, 282, 283, 327, 328, 344, 345, 352, 353, 356, 357, 381, 382, 317, 318], [67, 99, 68, 100, 69, 101, 78, 110, 82, 114, 83, 115, 84, 116, 90, 122, 76, 108]),
  (807, [199, 231, 290, 291, 310, 311, 315, 316, 325, 326, 342, 343, 350, 351, 354, 355], [67, 99, 71, 103, 75, 107, 76, 108, 78, 110, 82, 114, 83, 115, 84, 116]),
  (808, [260, 261, 280, 281, 302, 303, 370, 371], [65, 97, 69, 101, 73, 105, 85, 117])]
def pairL : List (Nat × Nat × Nat) := rowL.flatMap fun r => (r.2.1.zip r.2.2).map fun x => (x.1, x.2, r.1)
/-- Base and mark of a composed letter; zeros for others. -/
def pairR (c : Nat) : Nat × Nat := match pairL.find? fun x => Nat.beq x.1 c with | some x => x.2 | none => (0, 0)
/-- The letter that is composed of a base and a mark, or 0. -/
def compR (b m : Nat) : Nat := match pairL.find? fun x => Nat.beq x.2.1 b && Nat.beq x.2.2 m with | some x => x.1 | none => 0
def wholeR (c : Nat) : List Nat :=
  if Nat.beq c 160 = true then [32] else if Nat.beq c 185 = true then [49] else if (Nat.beq c 178 || Nat.beq c 179) = true then [c - 128]
  else if Nat.beq c 383 = true then [115] else if Nat.beq c 64257 = true then [102, 105] else if Nat.beq c 64258 = true then [102, 108]
  else if inN c 65281 65374 = true then [c - 65248] else if Nat.blt c 192 = true then [c]
  else if Nat.beq (pairR c).1 0 = true then [c] else [(pairR c).1, (pairR c).2]
/-- The class of a mark; 0 for other characters. -/
def clM (c : Nat) : Nat := if kindR (c : Int) = 2 then (if Nat.beq c 807 || Nat.beq c 808 then 1 else if Nat.beq c 803 then 2 else 3) else 0

/-! Sorting of marks. The list is kept with its end first. -/
section
variable (cl : Nat → Nat)
def insB (c : Nat) : List Nat → List Nat
  | [] => [c]
  | x :: r => if 0 < cl c ∧ cl c < cl x then x :: insB c r else c :: x :: r
def sortB (R l : List Nat) : List Nat := l.foldl (fun R c => insB cl c R) R
theorem sortB_nil (R : List Nat) : sortB cl R [] = R := rfl
theorem sortB_cons (R : List Nat) (c : Nat) (l : List Nat) : sortB cl R (c :: l) = sortB cl (insB cl c R) l := rfl
theorem sortB_app (R l m : List Nat) : sortB cl R (l ++ m) = sortB cl (sortB cl R l) m := List.foldl_append
theorem ins_mem (c y : Nat) : ∀ R : List Nat, y ∈ insB cl c R ↔ y = c ∨ y ∈ R
  | [] => by simp [insB]
  | x :: r => by
    rw [insB]
    split
    · rw [List.mem_cons, ins_mem c y r, List.mem_cons]
      constructor
      · rintro (h | h | h)
        · exact .inr (.inl h)
        · exact .inl h
        · exact .inr (.inr h)
      · rintro (h | h | h)
        · exact .inr (.inl h)
        · exact .inl h
        · exact .inr (.inr h)
    · simp
theorem sort_mem (y : Nat) : ∀ (l R : List Nat), y ∈ sortB cl R l ↔ y ∈ l ∨ y ∈ R
  | [], R => by simp [sortB]
  | c :: l, R => by
    rw [sortB_cons, sort_mem y l, ins_mem, List.mem_cons]
    constructor
    · rintro (h | h | h)
      · exact .inl (.inr h)
      · exact .inl (.inl h)
      · exact .inr h
    · rintro ((h | h) | h)
      · exact .inr (.inl h)
      · exact .inl h
      · exact .inr (.inr h)
theorem ins_len (c : Nat) : ∀ R : List Nat, (insB cl c R).length = R.length + 1
  | [] => rfl
  | x :: r => by
    rw [insB]
    split
    · rw [List.length_cons, ins_len c r, List.length_cons]
    · rfl
theorem sort_len : ∀ (l R : List Nat), (sortB cl R l).length = l.length + R.length
  | [], R => by simp [sortB]
  | c :: l, R => by rw [sortB_cons, sort_len l, ins_len, List.length_cons]; omega
/-- Marks of different classes: it does not matter which comes first. -/
theorem ins_comm {a b : Nat} (ha : 0 < cl a) (hb : 0 < cl b) (hab : cl a ≠ cl b) : ∀ R : List Nat, insB cl a (insB cl b R) = insB cl b (insB cl a R)
  | [] => by
    show insB cl a [b] = insB cl b [a]
    by_cases h : cl a < cl b
    · have h2 : ¬ (0 < cl b ∧ cl b < cl a) := by omega
      simp [insB, ha, h, h2]
    · have h1 : ¬ (0 < cl a ∧ cl a < cl b) := by omega
      have h2 : cl b < cl a := by omega
      simp [insB, hb, h1, h2]
  | x :: r => by
    have ih := ins_comm ha hb hab r
    by_cases h1 : cl a < cl x
    · by_cases h2 : cl b < cl x
      · rw [insB, if_pos ⟨hb, h2⟩, insB, if_pos ⟨ha, h1⟩, ih, insB, if_pos ⟨ha, h1⟩, insB, if_pos ⟨hb, h2⟩]
      · have e1 : insB cl b (x :: r) = b :: x :: r := by rw [insB, if_neg (by omega)]
        have e2 : insB cl a (x :: r) = x :: insB cl a r := by rw [insB, if_pos ⟨ha, h1⟩]
        rw [e1, e2, insB, if_pos ⟨ha, by omega⟩, e2, insB, if_neg (by omega)]
    · have e2 : insB cl a (x :: r) = a :: x :: r := by rw [insB, if_neg (by omega)]
      by_cases h2 : cl b < cl x
      · have e1 : insB cl b (x :: r) = x :: insB cl b r := by rw [insB, if_pos ⟨hb, h2⟩]
        rw [e1, e2, insB, if_neg (by omega), insB, if_pos ⟨hb, by omega⟩, e1]
      · have e1 : insB cl b (x :: r) = b :: x :: r := by rw [insB, if_neg (by omega)]
        rw [e1, e2]
        by_cases h : cl a < cl b
        · rw [insB, if_pos ⟨ha, h⟩, e2, insB, if_neg (by omega)]
        · rw [insB, if_neg (by omega), insB, if_pos ⟨hb, by omega⟩, e1]
/-- Nothing passes a character that is no mark. -/
theorem ins_bar (c x : Nat) (hx : cl x = 0) (R : List Nat) : ∀ A : List Nat, insB cl c (A ++ x :: R) = insB cl c (A ++ [x]) ++ R
  | [] => by
    rw [List.nil_append, List.nil_append, insB, insB, if_neg (by omega), if_neg (by omega)]
    rfl
  | y :: A => by
    rw [List.cons_append, List.cons_append, insB, insB]
    split
    · rw [ins_bar c x hx R A]; rfl
    · simp
theorem ins_keep (c x : Nat) (hx : cl x = 0) : ∀ A : List Nat, ∃ B, insB cl c (A ++ [x]) = B ++ [x]
  | [] => ⟨[c], by rw [List.nil_append, insB, if_neg (by omega)]; rfl⟩
  | y :: A => by
    rw [List.cons_append, insB]
    split
    · obtain ⟨B, hB⟩ := ins_keep c x hx A
      exact ⟨y :: B, by rw [hB]; rfl⟩
    · exact ⟨c :: y :: A, rfl⟩
theorem sort_bar (x : Nat) (hx : cl x = 0) (R : List Nat) : ∀ (l A : List Nat), sortB cl (A ++ x :: R) l = sortB cl (A ++ [x]) l ++ R
  | [], A => by simp [sortB]
  | c :: l, A => by
    obtain ⟨B, hB⟩ := ins_keep cl c x hx A
    rw [sortB_cons, sortB_cons, ins_bar cl c x hx R A, hB, ← sort_bar x hx R l B]
    simp
theorem ins_zero {c : Nat} (h : cl c = 0) (R : List Nat) : insB cl c R = c :: R := by
  cases R with
  | nil => rfl
  | cons x r => rw [insB, if_neg (by omega)]
/-- Strings together, where the second one does not begin with a mark. -/
theorem sort_join (R : List Nat) {l : List Nat} (h : ∀ c, l.head? = some c → cl c = 0) : sortB cl R l = sortB cl [] l ++ R := by
  cases l with
  | nil => rfl
  | cons c l =>
    have hc := h c rfl
    rw [sortB_cons, sortB_cons, ins_zero cl hc, ins_zero cl hc]
    exact sort_bar cl c hc R l []
/-- Marks that follow each other have ascending classes. -/
def Srt : List Nat → Prop
  | y :: x :: r => (0 < cl y → cl x ≤ cl y) ∧ Srt (x :: r)
  | _ => True
theorem ins_head (c : Nat) (R : List Nat) : ∃ x r, insB cl c R = x :: r ∧ (x = c ∨ ∃ r', R = x :: r' ∧ 0 < cl c ∧ cl c < cl x) := by
  cases R with
  | nil => exact ⟨c, [], rfl, .inl rfl⟩
  | cons x r =>
    rw [insB]
    split
    · rename_i h; exact ⟨x, _, rfl, .inr ⟨r, rfl, h⟩⟩
    · exact ⟨c, _, rfl, .inl rfl⟩
theorem ins_srt (c : Nat) : ∀ R : List Nat, Srt cl R → Srt cl (insB cl c R)
  | [], _ => trivial
  | [x], _ => by
    rw [insB]
    split
    · rename_i h
      rw [insB]
      exact ⟨fun _ => by omega, trivial⟩
    · rename_i h
      exact ⟨fun _ => by omega, trivial⟩
  | x :: y :: r, h => by
    have ih := ins_srt c (y :: r) h.2
    rw [insB]
    split
    · rename_i h1
      obtain ⟨z, t, e, hz⟩ := ins_head cl c (y :: r)
      rw [e] at ih ⊢
      refine ⟨fun h2 => ?_, ih⟩
      rcases hz with rfl | ⟨r', e2, _⟩
      · omega
      · injection e2 with e2 _
        subst e2
        exact h.1 h2
    · rename_i h1
      exact ⟨fun h2 => by omega, h⟩
theorem sort_srt : ∀ (l R : List Nat), Srt cl R → Srt cl (sortB cl R l)
  | [], _, h => h
  | c :: l, R, h => by rw [sortB_cons]; exact sort_srt l _ (ins_srt cl c R h)
/-- What is sorted stays as it is. -/
theorem sort_sorted : ∀ (l R : List Nat), Srt cl (l.reverse ++ R) → sortB cl R l = l.reverse ++ R
  | [], R, _ => rfl
  | c :: l, R, h => by
    have e : insB cl c R = c :: R := by
      cases R with
      | nil => rfl
      | cons x r =>
        have h2 : Srt cl (c :: x :: r) := by
          rw [List.reverse_cons, List.append_assoc] at h
          revert h
          generalize l.reverse = m
          intro h
          induction m with
          | nil => exact h
          | cons y m ih =>
            refine ih ?_
            cases m with
            | nil => exact h.2
            | cons z m => exact h.2
        rw [insB, if_neg]
        rintro ⟨h3, h4⟩
        have := h2.1 h3
        omega
    rw [sortB_cons, e]
    have := sort_sorted l (c :: R) (by rw [List.reverse_cons, List.append_assoc] at h; exact h)
    rw [this, List.reverse_cons, List.append_assoc]
    rfl
/-- A mark is moved ahead over marks of other classes. -/
theorem sort_move {m : Nat} (hm : 0 < cl m) : ∀ (A R : List Nat), (∀ a ∈ A, 0 < cl a ∧ cl a ≠ cl m) → sortB cl (insB cl m R) A = insB cl m (sortB cl R A)
  | [], _, _ => rfl
  | a :: A, R, h => by
    have ha := h a (by simp)
    rw [sortB_cons, sortB_cons, ins_comm cl ha.1 hm ha.2]
    exact sort_move hm A _ fun x hx => h x (by simp [hx])
end

/-- The decomposed form. -/
def dcF (l : List Nat) : List Nat := (sortB clM [] (l.flatMap wholeR)).reverse
/-- One character with its marks: what it becomes, and what is left of the marks. -/
def runF (c : Nat) (left : List Nat) : List Nat → Nat × List Nat
  | [] => (c, left)
  | m :: r => if compR c m ≠ 0 ∧ (left.any fun k => Nat.beq (clM k) (clM m)) = false then runF (compR c m) left r else runF c (left ++ [m]) r
def isM (c : Nat) : Bool := Nat.blt 0 (clM c)
def compF : List Nat → List Nat
  | [] => []
  | c :: r => if isM c = true then c :: compF r else (runF c [] (r.takeWhile isM)).1 :: ((runF c [] (r.takeWhile isM)).2 ++ compF (r.dropWhile isM))
termination_by l => l.length
decreasing_by
  · simp
  · have := (List.dropWhile_suffix isM (l := r)).length_le
    simp
    omega

end Go.Proofs.YtpgaebdaakllaaaDoor
