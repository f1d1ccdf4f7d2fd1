/-
  strings.Trim at the decimal digits, strings.TrimLeft at 0, by the library's contracts.
-/
import Derived.Test.YtheadamdhjhnpaaDoorLayTrim
import Derived.Test.YtheadamdhjhnpaaDoorLayLeft
import Derived.Test.YtheadamdhjhnpaaDoorNatMath
namespace Go.Proofs.YtheadamdhjhnpaaDoor
open Go.RowKit

def tenDigits : List UInt8 := [48, 49, 50, 51, 52, 53, 54, 55, 56, 57]
theorem ten_dec (c : UInt8) : tenDigits.contains c = isDec c := by
  have h : ∀ n : Fin 256, tenDigits.contains (UInt8.ofNat n.val) = isDec (UInt8.ofNat n.val) := by decide +kernel
  have := h ⟨c.toNat, c.toNat_lt⟩
  simpa using this
theorem strip_all (p : UInt8 → Bool) (l : List UInt8) : l.dropWhile p = [] ↔ l.all p = true := by
  induction l with
  | nil => simp
  | cons x l ih =>
    rw [List.dropWhile_cons, List.all_cons]
    by_cases hx : p x = true
    · rw [if_pos hx, hx, Bool.true_and]; exact ih
    · rw [if_neg hx]
      simp [hx]
theorem trimS_nil (s : List UInt8) : Lib.trimS s tenDigits = [] ↔ s.all isDec = true := by
  have e : (fun c => tenDigits.contains c) = isDec := funext ten_dec
  unfold Lib.trimS Lib.trimLeftS Lib.trimRightS
  rw [e]
  constructor
  · intro h
    have h1 := (strip_all isDec _).1 h
    rw [List.all_reverse] at h1
    have h2 : s.reverse.dropWhile isDec = [] := by
      refine Classical.byContradiction fun hne => ?_
      obtain ⟨x, l, hx⟩ := List.exists_cons_of_ne_nil hne
      have h3 := List.head?_dropWhile_not isDec s.reverse
      rw [hx] at h3 h1
      simp at h3 h1
      rw [h3] at h1
      exact absurd h1.1 (by simp)
    have h4 := (strip_all isDec _).1 h2
    rwa [List.all_reverse] at h4
  · intro h
    have h2 : s.reverse.dropWhile isDec = [] := (strip_all isDec _).2 (by rw [List.all_reverse]; exact h)
    rw [h2]
    rfl

theorem trim_ten (s : List UInt8) (w : World) (hs : s.length ≤ 9223372036854775807) :
    Calls Tryd.prog 75 #[.string (str s), .string { data := #[48, 49, 50, 51, 52, 53, 54, 55, 56, 57] }] w fun e w' => ∃ t : List UInt8, e = .returned (.string (str t)) ∧ (t = [] ↔ s.all isDec = true) ∧ Below w.heap.size w w' := by
  have h := Any.strings_Trim_laid trimLays (by kernel_rfl) (str s) ⟨#[48, 49, 50, 51, 52, 53, 54, 55, 56, 57]⟩ w hs (by decide) (ascii_of_all (by decide))
  have h2 : Calls Tryd.prog 75 #[.string (str s), .string { data := #[48, 49, 50, 51, 52, 53, 54, 55, 56, 57] }] w _ := h
  refine h2.mono fun e w' ⟨h3, h4⟩ => ⟨Lib.trimS s tenDigits, h3, trimS_nil s, h4⟩

theorem trim_zero (s : List UInt8) (w : World) :
    Calls Tryd.prog 62 #[.string (str s), .string { data := #[48] }] w fun e w' => e = .returned (.string (str (s.dropWhile (fun c => c == 48)))) ∧ Below w.heap.size w w' := by
  have h := Any.strings_TrimLeft_laid trimLeftLays (by kernel_rfl) (str s) ⟨#[48]⟩ w (by decide) (ascii_of_all (by decide))
  have h2 : Calls Tryd.prog 62 #[.string (str s), .string { data := #[48] }] w _ := h
  have e : Lib.trimLeftS s [48] = s.dropWhile (fun c => c == 48) := by
    unfold Lib.trimLeftS
    congr 1
    funext c
    exact Lib.contains_one 48 c
  refine h2.mono fun e' w' ⟨h3, h4⟩ => ⟨?_, h4⟩
  rw [h3, ← e]
  rfl

end Go.Proofs.YtheadamdhjhnpaaDoor
