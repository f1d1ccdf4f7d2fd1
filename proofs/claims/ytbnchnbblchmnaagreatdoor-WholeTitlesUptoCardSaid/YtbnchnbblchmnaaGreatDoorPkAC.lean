/-
  Characters of the repertoire in plain mathematics: classes, encodings, decoding, as the reference has them.
  The characters as natural numbers, by tests that the kernel reckons fast; all of them, ascending.
  The common words at slices of integers of this program.
-/
import Derived.Test.YtbnchnbblchmnaaGreatDoorPkAB
import Derived.Test.YtbnchnbblchmnaaGreatDoorProg
import Derived.Deep.QuietTactic
import Derived.BigQuiet
namespace Go.Proofs.YtbnchnbblchmnaaGreatDoor
open Go.RowKit

def latinL : List Nat := [192, 200, 204, 210, 217, 224, 232, 236, 242, 249, 193, 201, 205, 211, 218, 221, 225, 233, 237, 243, 250, 253, 262, 263, 313, 314, 323, 324, 340, 341, 346, 347, 377, 378, 194, 202, 206, 212, 219, 226, 234, 238, 244, 251, 264, 265, 284, 285, 292, 293, 308, 309, 348, 349, 372, 373, 374, 375, 195, 209, 213, 227, 241, 245, 296, 297, 360, 361, 256, 257, 274, 275, 298, 299, 332, 333, 362, 363, 258, 259, 276, 277, 286, 287, 300, 301, 334, 335, 364, 365, 266, 267, 278, 279, 288, 289, 304, 379, 380, 196, 203, 207, 214, 220, 228, 235, 239, 246, 252, 255, 376, 197, 229, 366, 367, 336, 337, 368, 369, 268, 269, 270, 271, 282, 283, 327, 328, 344, 345, 352, 353, 356, 357, 381, 382, 317, 318, 199, 231, 290, 291, 310, 311, 315, 316, 325, 326, 342, 343, 350, 351, 354, 355, 260, 261, 280, 281, 302, 303, 370, 371, 198, 230, 216, 248, 208, 240, 222, 254, 223, 272, 273, 294, 295, 305, 321, 322, 338, 339, 330, 331, 358, 359]
def greekL : List Nat := [902, 904, 905, 906, 908, 910, 911, 940, 941, 942, 943, 972, 973, 974, 938, 939, 970, 971]
def cyrL : List Nat := [1025, 1105, 1031, 1111, 1028, 1108, 1168, 1169, 1038, 1118, 1030, 1110]
/-- The same as strings. -/
def latinB : List UInt8 := [195, 128, 195, 136, 195, 140, 195, 146, 195, 153, 195, 160, 195, 168, 195, 172, 195, 178, 195, 185, 195, 129, 195, 137, 195, 141, 195, 147, 195, 154, 195, 157, 195, 161, 195, 169, 195, 173, 195, 179, 195, 186, 195, 189, 196, 134, 196, 135, 196, 185, 196, 186, 197, 131, 197, 132, 197, 148, 197, 149, 197, 154, 197, 155, 197, 185, 197, 186, 195, 130, 195, 138, 195, 142, 195, 148, 195, 155, 195, 162, 195, 170, 195, 174, 195, 180, 195, 187, 196, 136, 196, 137, 196, 156, 196, 157, 196, 164, 196, 165, 196, 180, 196, 181, 197, 156, 197, 157, 197, 180, 197, 181, 197, 182, 197, 183, 195, 131, 195, 145, 195, 149, 195, 163, 195, 177, 195, 181, 196, 168, 196, 169, 197, 168, 197, 169, 196, 128, 196, 129, 196, 146, 196, 147, 196, 170, 196, 171, 197, 140, 197, 141, 197, 170, 197, 171, 196, 130, 196, 131, 196, 148, 196, 149, 196, 158, 196, 159, 196, 172, 196, 173, 197, 142, 197, 143, 197, 172, 197, 173, 196, 138, 196, 139, 196, 150, 196, 151, 196, 160, 196, 161, 196, 176, 197, 187, 197, 188, 195, 132, 195, 139, 195, 143, 195, 150, 195, 156, 195, 164, 195, 171, 195, 175, 195, 182, 195, 188, 195, 191, 197, 184, 195, 133, 195, 165, 197, 174, 197, 175, 197, 144, 197, 145, 197, 176, 197, 177, 196, 140, 196, 141, 196, 142, 196, 143, 196, 154, 196, 155, 197, 135, 197, 136, 197, 152, 197, 153, 197, 160, 197, 161, 197, 164, 197, 165, 197, 189, 197, 190, 196, 189, 196, 190, 195, 135, 195, 167, 196, 162, 196, 163, 196, 182, 196, 183, 196, 187, 196, 188, 197, 133, 197, 134, 197, 150, 197, 151, 197, 158, 197, 159, 197, 162, 197, 163, 196, 132, 196, 133, 196, 152, 196, 153, 196, 174, 196, 175, 197, 178, 197, 179, 195, 134, 195, 166, 195, 152, 195, 184, 195, 144, 195, 176, 195, 158, 195, 190, 195, 159, 196, 144, 196, 145, 196, 166, 196, 167, 196, 177, 197, 129, 197, 130, 197, 146, 197, 147, 197, 138, 197, 139, 197, 166, 197, 167]
def greekB : List UInt8 := [206, 134, 206, 136, 206, 137, 206, 138, 206, 140, 206, 142, 206, 143, 206, 172, 206, 173, 206, 174, 206, 175, 207, 140, 207, 141, 207, 142, 206, 170, 206, 171, 207, 138, 207, 139]
def cyrB : List UInt8 := [208, 129, 209, 145, 208, 135, 209, 151, 208, 132, 209, 148, 210, 144, 210, 145, 208, 142, 209, 158, 208, 134, 209, 150]

def inB (c lo hi : Int) : Bool := decide (lo ≤ c) && decide (c ≤ hi)
def memB (l : List Nat) (c : Int) : Bool := l.any fun d => ((d : Int) == c)
/-- Script and kind of a character that is not fullwidth. -/
def clsN (c : Int) : Nat × Nat :=
  if c == 32 || c == 160 then (0, 4)
  else if inB c 48 57 || c == 178 || c == 179 || c == 185 then (0, 3)
  else if inB c 65 90 || inB c 97 122 || c == 383 || c == 64257 || c == 64258 || memB latinL c then (1, 1)
  else if inB c 768 772 || inB c 774 776 || inB c 778 780 || c == 803 || c == 807 || c == 808 then (0, 2)
  else if inB c 913 929 || inB c 931 937 || inB c 945 969 || memB greekL c then (2, 1)
  else if inB c 1040 1103 || memB cyrL c then (3, 1)
  else if inB c 33 126 then (0, 5)
  else (0, 0)
def clsR (c : Int) : Nat × Nat := if inB c 65281 65374 then clsN (c - 65248) else clsN c
def kindR (c : Int) : Nat := (clsR c).2
def hasR (c : Int) : Bool := kindR c != 0

def v2 (b c1 : Nat) : Nat := (b - 192) * 64 + (c1 - 128)
def v3 (b c1 c2 : Nat) : Nat := (b - 224) * 4096 + (c1 - 128) * 64 + (c2 - 128)
def is2 (b c1 : Nat) : Bool := decide (194 ≤ b ∧ b < 224 ∧ c1 / 64 = 2)
def is3 (b c1 c2 : Nat) : Bool := decide (224 ≤ b ∧ b < 240 ∧ c1 / 64 = 2 ∧ c2 / 64 = 2 ∧ 2048 ≤ v3 b c1 c2)
/-- The character at the beginning, and its length; 0 and 0 if none is there. -/
def atR : List UInt8 → Nat × Nat
  | [] => (0, 0)
  | [b] => if b.toNat < 128 then (b.toNat, 1) else (0, 0)
  | [b, c1] => if b.toNat < 128 then (b.toNat, 1) else if is2 b.toNat c1.toNat = true then (v2 b.toNat c1.toNat, 2) else (0, 0)
  | b :: c1 :: c2 :: _ => if b.toNat < 128 then (b.toNat, 1) else if is2 b.toNat c1.toNat = true then (v2 b.toNat c1.toNat, 2) else if is3 b.toNat c1.toNat c2.toNat = true then (v3 b.toNat c1.toNat c2.toNat, 3) else (0, 0)
theorem at_ascii {b : UInt8} {t : List UInt8} (h : b.toNat < 128) : atR (b :: t) = (b.toNat, 1) := by
  match t with
  | [] => exact if_pos h
  | [_] => exact if_pos h
  | _ :: _ :: _ => exact if_pos h
theorem at_two {b c1 : UInt8} {t : List UInt8} (h : ¬ b.toNat < 128) (h2 : is2 b.toNat c1.toNat = true) : atR (b :: c1 :: t) = (v2 b.toNat c1.toNat, 2) := by
  match t with
  | [] => show (if _ then _ else if _ then _ else _) = _; rw [if_neg h, if_pos h2]
  | _ :: _ => show (if _ then _ else if _ then _ else _) = _; rw [if_neg h, if_pos h2]
theorem at_three {b c1 c2 : UInt8} {t : List UInt8} (h : ¬ b.toNat < 128) (h2 : is2 b.toNat c1.toNat = false) (h3 : is3 b.toNat c1.toNat c2.toNat = true) : atR (b :: c1 :: c2 :: t) = (v3 b.toNat c1.toNat c2.toNat, 3) := by
  show (if _ then _ else if _ then _ else if _ then _ else _) = _
  rw [if_neg h, h2, if_neg (by decide), if_pos h3]
theorem at_none1 {b : UInt8} (h : ¬ b.toNat < 128) : atR [b] = (0, 0) := if_neg h
theorem at_none2 {b c1 : UInt8} (h : ¬ b.toNat < 128) (h2 : is2 b.toNat c1.toNat = false) : atR [b, c1] = (0, 0) := by
  show (if _ then _ else if _ then _ else _) = _
  rw [if_neg h, h2, if_neg (by decide)]
theorem at_none3 {b c1 c2 : UInt8} {t : List UInt8} (h : ¬ b.toNat < 128) (h2 : is2 b.toNat c1.toNat = false) (h3 : is3 b.toNat c1.toNat c2.toNat = false) : atR (b :: c1 :: c2 :: t) = (0, 0) := by
  show (if _ then _ else if _ then _ else if _ then _ else _) = _
  rw [if_neg h, h2, if_neg (by decide), h3, if_neg (by decide)]
theorem bool_false {b : Bool} (h : ¬ b = true) : b = false := by cases b <;> simp_all
/-- The ways in which a string may begin. -/
theorem at_cases (s : List UInt8) : s = [] ∨ (∃ b t, s = b :: t ∧ b.toNat < 128) ∨ (∃ b c1 t, s = b :: c1 :: t ∧ ¬ b.toNat < 128 ∧ is2 b.toNat c1.toNat = true) ∨
    (∃ b c1 c2 t, s = b :: c1 :: c2 :: t ∧ ¬ b.toNat < 128 ∧ is2 b.toNat c1.toNat = false ∧ is3 b.toNat c1.toNat c2.toNat = true) ∨ (s ≠ [] ∧ atR s = (0, 0)) := by
  match s with
  | [] => exact .inl rfl
  | b :: t =>
    by_cases h : b.toNat < 128
    · exact .inr (.inl ⟨b, t, rfl, h⟩)
    · match t with
      | [] => exact .inr (.inr (.inr (.inr ⟨by simp, at_none1 h⟩)))
      | c1 :: t1 =>
        by_cases h2 : is2 b.toNat c1.toNat = true
        · exact .inr (.inr (.inl ⟨b, c1, t1, rfl, h, h2⟩))
        · have h2 := bool_false h2
          match t1 with
          | [] => exact .inr (.inr (.inr (.inr ⟨by simp, at_none2 h h2⟩)))
          | c2 :: t2 =>
            by_cases h3 : is3 b.toNat c1.toNat c2.toNat = true
            · exact .inr (.inr (.inr (.inl ⟨b, c1, c2, t2, rfl, h, h2, h3⟩)))
            · exact .inr (.inr (.inr (.inr ⟨by simp, at_none3 h h2 (bool_false h3)⟩)))
theorem is2_of {b c1 : Nat} (h : is2 b c1 = true) : 194 ≤ b ∧ b < 224 ∧ c1 / 64 = 2 := of_decide_eq_true h
theorem is3_of {b c1 c2 : Nat} (h : is3 b c1 c2 = true) : 224 ≤ b ∧ b < 240 ∧ c1 / 64 = 2 ∧ c2 / 64 = 2 ∧ 2048 ≤ v3 b c1 c2 := of_decide_eq_true h
theorem is2_mk {b c1 : Nat} (h1 : 194 ≤ b) (h2 : b < 224) (h3 : c1 / 64 = 2) : is2 b c1 = true := decide_eq_true ⟨h1, h2, h3⟩
theorem is2_no {b c1 : Nat} (h1 : 224 ≤ b) : is2 b c1 = false := decide_eq_false fun h => by omega
theorem is3_mk {b c1 c2 : Nat} (h1 : 224 ≤ b) (h2 : b < 240) (h3 : c1 / 64 = 2) (h4 : c2 / 64 = 2) (h5 : 2048 ≤ v3 b c1 c2) : is3 b c1 c2 = true := decide_eq_true ⟨h1, h2, h3, h4, h5⟩
theorem atR_len (s : List UInt8) : (atR s).2 ≤ s.length ∧ (atR s).2 ≤ 3 := by
  rcases at_cases s with rfl | ⟨b, t, rfl, h⟩ | ⟨b, c1, t, rfl, h, h2⟩ | ⟨b, c1, c2, t, rfl, h, h2, h3⟩ | ⟨_, h⟩
  · simp [atR]
  · rw [at_ascii h]; simp
  · rw [at_two h h2]; simp
  · rw [at_three h h2 h3]; simp
  · rw [h]; simp
theorem atR_lt (s : List UInt8) : (atR s).1 < 65536 := by
  rcases at_cases s with rfl | ⟨b, t, rfl, h⟩ | ⟨b, c1, t, rfl, h, h2⟩ | ⟨b, c1, c2, t, rfl, h, h2, h3⟩ | ⟨_, h⟩
  · simp [atR]
  · rw [at_ascii h]; show b.toNat < 65536; omega
  · rw [at_two h h2]
    have := is2_of h2
    show v2 b.toNat c1.toNat < 65536
    unfold v2; omega
  · rw [at_three h h2 h3]
    have := is3_of h3
    show v3 b.toNat c1.toNat c2.toNat < 65536
    unfold v3; omega
  · rw [h]; simp

/-- The characters of an encoded string. -/
def decF : Nat → List UInt8 → Option (List Nat)
  | _, [] => some []
  | 0, _ :: _ => none
  | f + 1, b :: t => if (atR (b :: t)).2 = 0 ∨ kindR ((atR (b :: t)).1 : Int) = 0 then none else (decF f ((b :: t).drop (atR (b :: t)).2)).map ((atR (b :: t)).1 :: ·)
def decR (s : List UInt8) : Option (List Nat) := decF s.length s
theorem decF_more : ∀ (f g : Nat) (s : List UInt8), s.length ≤ f → s.length ≤ g → decF f s = decF g s
  | f, g, [], _, _ => by cases f <;> cases g <;> rfl
  | 0, _, b :: t, h, _ => by simp at h
  | _ + 1, 0, b :: t, _, h => by simp at h
  | f + 1, g + 1, b :: t, hf, hg => by
    unfold decF
    split
    · rfl
    · rename_i h
      have h0 : (atR (b :: t)).2 ≠ 0 := fun e => h (.inl e)
      have hl : ((b :: t).drop (atR (b :: t)).2).length ≤ t.length := by rw [List.length_drop, List.length_cons]; omega
      rw [List.length_cons] at hf hg
      rw [decF_more f g _ (by omega) (by omega)]
theorem decR_nil : decR [] = some [] := rfl
theorem decR_step {s : List UInt8} (h0 : s ≠ []) (h : ¬ ((atR s).2 = 0 ∨ kindR ((atR s).1 : Int) = 0)) : decR s = (decR (s.drop (atR s).2)).map ((atR s).1 :: ·) := by
  cases s with
  | nil => exact absurd rfl h0
  | cons b t =>
    unfold decR
    rw [List.length_cons, decF, if_neg h]
    congr 1
    refine decF_more _ _ _ ?_ (Nat.le_refl _)
    have h1 : (atR (b :: t)).2 ≠ 0 := fun e => h (.inl e)
    rw [List.length_drop, List.length_cons]
    omega
theorem decR_stop {s : List UInt8} (h0 : s ≠ []) (h : (atR s).2 = 0 ∨ kindR ((atR s).1 : Int) = 0) : decR s = none := by
  cases s with
  | nil => exact absurd rfl h0
  | cons b t =>
    unfold decR
    rw [List.length_cons, decF, if_pos h]

/-- The encoding of a character below 65536. -/
def encC (c : Nat) : List UInt8 :=
  if c < 128 then [UInt8.ofNat c]
  else if c < 2048 then [UInt8.ofNat (192 + c / 64), UInt8.ofNat (128 + c % 64)]
  else [UInt8.ofNat (224 + c / 4096), UInt8.ofNat (128 + c / 64 % 64), UInt8.ofNat (128 + c % 64)]
def encL : List Nat → List UInt8
  | [] => []
  | c :: l => encC c ++ encL l
theorem byte_of {n : Nat} (h : n < 256) : (UInt8.ofNat n).toNat = n := by rw [UInt8.toNat_ofNat']; omega
theorem atR_enc {c : Nat} (h : c < 65536) (t : List UInt8) : atR (encC c ++ t) = (c, (encC c).length) := by
  unfold encC
  split
  · rename_i h1
    show atR (UInt8.ofNat c :: t) = _
    rw [at_ascii (by rw [byte_of (by omega)]; exact h1), byte_of (by omega)]
    rfl
  · split
    · rename_i h1 h2
      show atR (UInt8.ofNat (192 + c / 64) :: UInt8.ofNat (128 + c % 64) :: t) = _
      have e1 := byte_of (n := 192 + c / 64) (by omega)
      have e2 := byte_of (n := 128 + c % 64) (by omega)
      have ev : v2 (192 + c / 64) (128 + c % 64) = c := by unfold v2; omega
      rw [at_two (by rw [e1]; omega) (by rw [e1, e2]; exact is2_mk (by omega) (by omega) (by omega)), e1, e2, ev]
      rfl
    · rename_i h1 h2
      show atR (UInt8.ofNat (224 + c / 4096) :: UInt8.ofNat (128 + c / 64 % 64) :: UInt8.ofNat (128 + c % 64) :: t) = _
      have e1 := byte_of (n := 224 + c / 4096) (by omega)
      have e2 := byte_of (n := 128 + c / 64 % 64) (by omega)
      have e3 := byte_of (n := 128 + c % 64) (by omega)
      have ev : v3 (224 + c / 4096) (128 + c / 64 % 64) (128 + c % 64) = c := by unfold v3; omega
      rw [at_three (by rw [e1]; omega) (by rw [e1, e2]; exact is2_no (by omega)) (by rw [e1, e2, e3]; exact is3_mk (by omega) (by omega) (by omega) (by omega) (by rw [ev]; omega)), e1, e2, e3, ev]
      rfl
/-- What is read is its encoding. -/
theorem enc_atR {s : List UInt8} (h : (atR s).2 ≠ 0) : s = encC (atR s).1 ++ s.drop (atR s).2 := by
  have ub : ∀ b : UInt8, UInt8.ofNat b.toNat = b := fun b => by simp
  rcases at_cases s with rfl | ⟨b, t, rfl, h0⟩ | ⟨b, c1, t, rfl, h0, h2⟩ | ⟨b, c1, c2, t, rfl, h0, h2, h3⟩ | ⟨_, h0⟩
  · exact absurd rfl h
  · rw [at_ascii h0]
    show b :: t = encC b.toNat ++ t
    unfold encC
    rw [if_pos h0, ub]
    rfl
  · rw [at_two h0 h2]
    obtain ⟨k1, k2, k3⟩ := is2_of h2
    show b :: c1 :: t = encC (v2 b.toNat c1.toNat) ++ t
    have e1 : ¬ v2 b.toNat c1.toNat < 128 := by unfold v2; omega
    have e2 : v2 b.toNat c1.toNat < 2048 := by unfold v2; omega
    have e3 : 192 + v2 b.toNat c1.toNat / 64 = b.toNat := by unfold v2; omega
    have e4 : 128 + v2 b.toNat c1.toNat % 64 = c1.toNat := by unfold v2; omega
    unfold encC
    rw [if_neg e1, if_pos e2, e3, e4, ub, ub]
    rfl
  · rw [at_three h0 h2 h3]
    obtain ⟨k1, k2, k3, k4, k5⟩ := is3_of h3
    show b :: c1 :: c2 :: t = encC (v3 b.toNat c1.toNat c2.toNat) ++ t
    have e3 : 224 + v3 b.toNat c1.toNat c2.toNat / 4096 = b.toNat := by unfold v3; omega
    have e4 : 128 + v3 b.toNat c1.toNat c2.toNat / 64 % 64 = c1.toNat := by unfold v3; omega
    have e5 : 128 + v3 b.toNat c1.toNat c2.toNat % 64 = c2.toNat := by unfold v3; omega
    unfold encC
    rw [if_neg (by omega), if_neg (by omega), e3, e4, e5, ub, ub, ub]
    rfl
  · rw [h0] at h; exact absurd rfl h
theorem encC_ne (c : Nat) : encC c ≠ [] := by
  unfold encC
  split
  · simp
  · split <;> simp
theorem encC_len (c : Nat) : 1 ≤ (encC c).length ∧ (encC c).length ≤ 3 := by
  unfold encC
  split
  · simp
  · split <;> simp

/-! Encoding and decoding. -/
def okC (c : Nat) : Prop := c < 65536 ∧ kindR (c : Int) ≠ 0
theorem dec_cons {c : Nat} {t : List UInt8} (h : okC c) : decR (encC c ++ t) = (decR t).map (c :: ·) := by
  have e := atR_enc h.1 t
  have hl := (encC_len c).1
  have hne : encC c ++ t ≠ [] := fun h0 => encC_ne c (List.append_eq_nil_iff.1 h0).1
  have hc : ¬ ((atR (encC c ++ t)).2 = 0 ∨ kindR ((atR (encC c ++ t)).1 : Int) = 0) := by
    rw [e]
    rintro (h0 | h0)
    · exact absurd h0 (show (encC c).length ≠ 0 by omega)
    · exact h.2 h0
  rw [decR_step hne hc, e]
  simp
theorem dec_enc_app (l : List Nat) (h : ∀ c, c ∈ l → okC c) (t : List UInt8) : decR (encL l ++ t) = (decR t).map (l ++ ·) := by
  induction l with
  | nil => simp [encL]
  | cons c l ih =>
    rw [encL, List.append_assoc, dec_cons (h c (by simp)), ih (fun x hx => h x (by simp [hx]))]
    cases decR t <;> simp
theorem dec_enc (l : List Nat) (h : ∀ c, c ∈ l → okC c) : decR (encL l) = some l := by
  have := dec_enc_app l h []
  rw [List.append_nil, decR_nil] at this
  simpa using this
theorem enc_dec_len : ∀ (n : Nat) (s : List UInt8) (l : List Nat), s.length ≤ n → decR s = some l → encL l = s ∧ ∀ c, c ∈ l → okC c
  | n, [], l, _, h => by
    rw [decR_nil] at h
    injection h with h
    subst h
    exact ⟨rfl, by simp⟩
  | 0, b :: t, l, hn, _ => by simp at hn
  | n + 1, b :: t, l, hn, h => by
    by_cases hs : (atR (b :: t)).2 = 0 ∨ kindR ((atR (b :: t)).1 : Int) = 0
    · rw [decR_stop (by simp) hs] at h; cases h
    · rw [decR_step (by simp) hs] at h
      have h0 : (atR (b :: t)).2 ≠ 0 := fun e => hs (.inl e)
      cases hd : decR ((b :: t).drop (atR (b :: t)).2) with
      | none => rw [hd] at h; cases h
      | some m =>
        rw [hd] at h
        simp at h
        subst h
        obtain ⟨h1, h2⟩ := enc_dec_len n _ m (by rw [List.length_drop]; simp at hn ⊢; omega) hd
        refine ⟨?_, fun c hc => ?_⟩
        · rw [encL, h1]
          exact (enc_atR h0).symm
        · rcases List.mem_cons.1 hc with rfl | hc
          · exact ⟨atR_lt _, fun e => hs (.inr e)⟩
          · exact h2 c hc
theorem enc_dec {s : List UInt8} {l : List Nat} (h : decR s = some l) : encL l = s ∧ ∀ c, c ∈ l → okC c := enc_dec_len s.length s l (Nat.le_refl _) h
theorem dec_app {s t : List UInt8} {l : List Nat} (h : decR s = some l) : decR (s ++ t) = (decR t).map (l ++ ·) := by
  obtain ⟨h1, h2⟩ := enc_dec h
  rw [← h1]
  exact dec_enc_app l h2 t

end Go.Proofs.YtbnchnbblchmnaaGreatDoor

namespace Go.Proofs.YtbnchnbblchmnaaGreatDoor
open Go.RowKit

/-! A test that the kernel reckons fast. -/
def inN (c lo hi : Nat) : Bool := Nat.ble lo c && Nat.ble c hi
def memN : List Nat → Nat → Bool
  | [], _ => false
  | d :: l, c => Nat.beq d c || memN l c
def hasA (c : Nat) : Bool := (Nat.beq c 32 || Nat.beq c 160) || ((inN c 48 57 || Nat.beq c 178 || Nat.beq c 179 || Nat.beq c 185) ||
  ((inN c 65 90 || inN c 97 122 || Nat.beq c 383 || Nat.beq c 64257 || Nat.beq c 64258 || (inN c 192 382 && memN latinL c)) ||
  ((inN c 768 772 || inN c 774 776 || inN c 778 780 || Nat.beq c 803 || Nat.beq c 807 || Nat.beq c 808) ||
  ((inN c 913 929 || inN c 931 937 || inN c 945 969 || (inN c 902 974 && memN greekL c)) || ((inN c 1040 1103 || (inN c 1025 1169 && memN cyrL c)) || inN c 33 126)))))
def hasN (c : Nat) : Bool := if inN c 65281 65374 = true then hasA (c - 65248) else hasA c
theorem beq_int (c d : Nat) : ((c : Int) == (d : Int)) = Nat.beq c d := by
  rw [Bool.eq_iff_iff, beq_iff_eq, Nat.beq_eq]
  omega
theorem inB_nat (c lo hi : Nat) : inB (c : Int) (lo : Int) (hi : Int) = inN c lo hi := by
  unfold inB inN
  rw [Bool.eq_iff_iff]
  simp only [Bool.and_eq_true, decide_eq_true_eq, Nat.ble_eq]
  omega
theorem memB_nat (c : Nat) : ∀ l : List Nat, memB l (c : Int) = memN l c
  | [] => rfl
  | d :: l => by
    have h := memB_nat c l
    unfold memB at h ⊢
    rw [List.any_cons, h, beq_int]
    rfl
theorem memN_in {l : List Nat} {lo hi c : Nat} (hl : (l.all fun d => inN d lo hi) = true) : memN l c = (inN c lo hi && memN l c) := by
  have key : memN l c = true → inN c lo hi = true := by
    clear memN_in
    induction l with
    | nil => intro h; cases h
    | cons d l ih =>
      intro h
      rw [List.all_cons, Bool.and_eq_true] at hl
      unfold memN at h
      rw [Bool.or_eq_true, Nat.beq_eq] at h
      rcases h with h | h
      · rw [← h]; exact hl.1
      · exact ih hl.2 h
  cases h : memN l c with
  | false => rw [Bool.and_false]
  | true => rw [key h]; rfl
theorem latin_in : (latinL.all fun d => inN d 192 382) = true := by kernel_rfl
theorem greek_in : (greekL.all fun d => inN d 902 974) = true := by kernel_rfl
theorem cyr_in : (cyrL.all fun d => inN d 1025 1169) = true := by kernel_rfl
theorem kinds (a b c d e f g : Bool) :
    ((if a = true then ((0 : Nat), (4 : Nat)) else if b = true then (0, 3) else if c = true then (1, 1) else if d = true then (0, 2) else if e = true then (2, 1) else if f = true then (3, 1) else if g = true then (0, 5) else (0, 0)).2 != 0) = (a || (b || (c || (d || (e || (f || g)))))) := by
  cases a <;> cases b <;> cases c <;> cases d <;> cases e <;> cases f <;> cases g <;> rfl
theorem hasA_eq (c : Nat) : ((clsN (c : Int)).2 != 0) = hasA c := by
  unfold clsN
  rw [kinds]
  unfold hasA
  rw [← memN_in latin_in, ← memN_in greek_in, ← memN_in cyr_in]
  simp only [← memB_nat, ← inB_nat, ← beq_int]
  rfl
theorem hasN_eq (c : Nat) : hasR (c : Int) = hasN c := by
  unfold hasR kindR clsR hasN
  have h := inB_nat c 65281 65374
  rw [show inB (c : Int) 65281 65374 = inN c 65281 65374 from h]
  split
  · rename_i h1
    have h2 : 65281 ≤ c := by
      unfold inN at h1
      rw [Bool.and_eq_true, Nat.ble_eq] at h1
      exact h1.1
    rw [show (c : Int) - 65248 = ((c - 65248 : Nat) : Int) by omega]
    exact hasA_eq _
  · exact hasA_eq _

def charL : List Nat := (List.range' 0 1536).filter hasN ++ (List.range' 64256 1119).filter hasN
theorem char_len : charL.length = 536 := by kernel_rfl
def ascB : List Nat → Bool
  | a :: b :: l => Nat.blt a b && ascB (b :: l)
  | _ => true
theorem char_asc : ascB charL = true := by kernel_rfl
theorem ascB_get : ∀ (l : List Nat) (i x y : Nat), ascB l = true → l[i]? = some x → l[i + 1]? = some y → x < y
  | [], i, x, y, _, h, _ => by simp at h
  | [a], i, x, y, _, _, h => by simp at h
  | a :: b :: l, i, x, y, h, h1, h2 => by
    unfold ascB at h
    rw [Bool.and_eq_true, Nat.blt_eq] at h
    cases i with
    | zero =>
      simp at h1 h2
      omega
    | succ i =>
      rw [List.getElem?_cons_succ] at h1 h2
      exact ascB_get (b :: l) i x y h.2 h1 h2
theorem char_mem (c : Nat) : c ∈ charL ↔ hasN c = true := by
  unfold charL
  rw [List.mem_append, List.mem_filter, List.mem_filter, List.mem_range'_1, List.mem_range'_1]
  constructor
  · rintro (h | h)
    · exact h.2
    · exact h.2
  · intro h
    have hr : c < 1536 ∨ 64256 ≤ c ∧ c < 65375 := by
      refine Classical.byContradiction fun hn => ?_
      have h1 : inN c 65281 65374 = false := by
        unfold inN
        rw [Bool.and_eq_false_iff]
        by_cases h1 : 65281 ≤ c
        · exact .inr (by rw [← Bool.not_eq_true, Nat.ble_eq]; omega)
        · exact .inl (by rw [← Bool.not_eq_true, Nat.ble_eq]; omega)
      unfold hasN at h
      rw [h1, if_neg (by decide)] at h
      unfold hasA inN at h
      simp only [Bool.or_eq_true, Bool.and_eq_true, Nat.ble_eq, Nat.beq_eq] at h
      omega
    rcases hr with hr | hr
    · exact .inl ⟨by omega, h⟩
    · exact .inr ⟨by omega, h⟩
def clsA (c : Nat) : Nat × Nat :=
  if (Nat.beq c 32 || Nat.beq c 160) = true then (0, 4)
  else if (inN c 48 57 || Nat.beq c 178 || Nat.beq c 179 || Nat.beq c 185) = true then (0, 3)
  else if (inN c 65 90 || inN c 97 122 || Nat.beq c 383 || Nat.beq c 64257 || Nat.beq c 64258 || (inN c 192 382 && memN latinL c)) = true then (1, 1)
  else if (inN c 768 772 || inN c 774 776 || inN c 778 780 || Nat.beq c 803 || Nat.beq c 807 || Nat.beq c 808) = true then (0, 2)
  else if (inN c 913 929 || inN c 931 937 || inN c 945 969 || (inN c 902 974 && memN greekL c)) = true then (2, 1)
  else if (inN c 1040 1103 || (inN c 1025 1169 && memN cyrL c)) = true then (3, 1)
  else if inN c 33 126 = true then (0, 5)
  else (0, 0)
theorem clsA_eq (c : Nat) : clsN (c : Int) = clsA c := by
  unfold clsN clsA
  rw [← memN_in latin_in, ← memN_in greek_in, ← memN_in cyr_in]
  simp only [← memB_nat, ← inB_nat, ← beq_int]
  rfl
theorem clsA_none {c : Nat} (h : hasA c = false) : clsA c = (0, 0) := by
  unfold hasA at h
  simp only [Bool.or_eq_false_iff] at h
  obtain ⟨⟨h1, h1'⟩, ⟨⟨⟨h2, h2a⟩, h2b⟩, h2c⟩, ⟨⟨⟨⟨⟨h3, h3a⟩, h3b⟩, h3c⟩, h3d⟩, h3e⟩, ⟨⟨⟨⟨⟨h4, h4a⟩, h4b⟩, h4c⟩, h4d⟩, h4e⟩, ⟨⟨⟨h5, h5a⟩, h5b⟩, h5c⟩, ⟨h6, h6a⟩, h7⟩ := h
  unfold clsA
  rw [h1, h1', h2, h2a, h2b, h2c, h3, h3a, h3b, h3c, h3d, h3e, h4, h4a, h4b, h4c, h4d, h4e, h5, h5a, h5b, h5c, h6, h6a, h7]
  rfl


/-- Kind of a character, as the kernel reckons it fast. -/
def clsF (c : Nat) : Nat × Nat := if inN c 65281 65374 = true then clsA (c - 65248) else clsA c
theorem clsF_eq (c : Nat) : clsR (c : Int) = clsF c := by
  unfold clsR clsF
  rw [show inB (c : Int) 65281 65374 = inN c 65281 65374 from inB_nat c 65281 65374]
  split
  · rename_i h1
    have h2 : 65281 ≤ c := by
      unfold inN at h1
      rw [Bool.and_eq_true, Nat.ble_eq] at h1
      exact h1.1
    rw [show (c : Int) - 65248 = ((c - 65248 : Nat) : Int) by omega]
    exact clsA_eq _
  · exact clsA_eq _

end Go.Proofs.YtbnchnbblchmnaaGreatDoor

namespace Go.Proofs.YtbnchnbblchmnaaGreatDoor
open Go.RowKit

/-- A digit as the model holds it. -/
def nv (d : Nat) : Value := .int .i64 (d : Int)
theorem one_nv (n : Nat) : (nv n).oneCell' = true := rfl
theorem info_int : (Tryz.prog.info? 3).map (fun i => (i.zero, i.size, i.bytes)) = some (some (.int .i64 0), 1, 8) := by kernel_rfl
theorem elem_ints : Tryz.prog.underlying 27 = some (.slice (Tryz.prog.elem 27)) := by kernel_rfl
theorem size_elem_int (W : World) : (sizeOf (Tryz.prog.elem 27)).run Tryz.prog W = .ok 1 W := by kernel_rfl

theorem Arr.nat {w : World} {B : Nat} {v : Value} {l : List Nat} (h : Arr iv w B v (l.map fun d : Nat => (d : Int))) : Arr nv w B v l := by
  rcases h with ⟨e, h0⟩ | ⟨a, c, e, hl, hb, hc⟩
  · exact .inl ⟨e, by simpa using h0⟩
  · rw [List.length_map] at e hl hb
    exact .inr ⟨a, c, e, hl, hb, fun i u hu => hc i u (by rw [List.getElem?_map, hu]; rfl)⟩
theorem Arr.int {w : World} {B : Nat} {v : Value} {l : List Nat} (h : Arr nv w B v l) : Arr iv w B v (l.map fun d : Nat => (d : Int)) := by
  rcases h with ⟨e, h0⟩ | ⟨a, c, e, hl, hb, hc⟩
  · exact .inl ⟨e, by rw [h0]; rfl⟩
  · refine .inr ⟨a, c, by rw [List.length_map]; exact e, by rw [List.length_map]; exact hl, by rw [List.length_map]; exact hb, fun i u hu => ?_⟩
    rw [List.getElem?_map] at hu
    cases hi : l[i]? with
    | none => rw [hi] at hu; simp at hu
    | some d => rw [hi] at hu; simp at hu; subst hu; exact hc i d hi

theorem head_ints (A : Option Addr) (n c N : Nat) (hN : N ≤ c) (W : World) :
    (Instr.sliceAt 27 (.slice A n c) none (some (.int .i64 (N : Int))) none).run Tryz.prog W = .ok (.slice A N c) W := slice_head _ elem_ints size_elem_int A n c N hN W
theorem make_ints (l c : Nat) (hlc : l ≤ c) (hc : c ≤ 1000000) (W : World) :
    (Instr.makeSlice 27 (.int .i64 (l : Int)) (.int .i64 (c : Int))).run Tryz.prog W = .ok (.slice (some ⟨W.heap.size, 0, none⟩) l c) (W.alloc (.cells (madeOf (.int .i64 0) c) 3)) :=
  make_run 27 3 (.int .i64 0) 8 Tryz.underlying27 info_int l c hlc hc (by decide) W

/-- append of a whole slice of digits onto a row of the call's own. -/
theorem append_ints {ops : Array Oper} {rest : List Oper} {o : Oper} {a : Act} {Q : Exit → Act → World → Prop} (w : World) (hgd : o.guard = none) (s x : Operand)
    (ho : o.op = .call { callee := .builtin .append, args := #[s, x], argTypes := #[27, 27] })
    (base B : Nat) (v : Value) (xs : List Nat) (hs : a.eval s = v) (hown : w.ownsRow base 3 1 v xs.length (xs.map nv))
    (news : List Nat) (src : Value) (hx : a.eval x = src) (hsl : Arr nv w B src news) (hlen : xs.length + news.length ≤ 1000000000000) (hbase : base ≤ w.heap.size)
    (h : ∀ v' w', w'.ownsRow base 3 1 v' (xs ++ news).length ((xs ++ news).map nv) → Below base w w' → wpList Tryz.prog ops Q rest (a.put o.dst v') w') : wpList Tryz.prog ops Q (o :: rest) a w :=
  append_arr 27 3 (.int .i64 0) 8 Tryz.underlying27 info_int rfl (by decide) one_nv w hgd s x ho base B v xs hs hown news src hx hsl hlen hbase h
/-- append of one digit. -/
theorem append_int {ops : Array Oper} {rest : List Oper} {o : Oper} {a : Act} {Q : Exit → Act → World → Prop} (w : World) (hgd : o.guard = none) (s x : Operand)
    (ho : o.op = .call { callee := .builtin .append, args := #[s, x], argTypes := #[27, 27] })
    (base : Nat) (v : Value) (xs : List Nat) (hs : a.eval s = v) (hown : w.ownsRow base 3 1 v xs.length (xs.map nv)) (y : Nat) (u : Value) (hu : u = nv y)
    (hx : a.eval x = .slice (some ⟨w.heap.size, 0, none⟩) 1 1) (hlen : xs.length ≤ 1000000000000 - 1) (hbase : base ≤ w.heap.size)
    (h : ∀ v' w', w'.ownsRow base 3 1 v' (xs ++ [y]).length ((xs ++ [y]).map nv) → Below base w w' → wpList Tryz.prog ops Q rest (a.put o.dst v') w') : wpList Tryz.prog ops Q (o :: rest) a (w.alloc (.cells #[u] 3)) :=
  append_one 27 3 (.int .i64 0) 8 Tryz.underlying27 info_int rfl (by decide) one_nv w hgd s x ho base v xs hs hown y u hu hx hlen hbase h

end Go.Proofs.YtbnchnbblchmnaaGreatDoor
