/-
  The list of all characters is as the statement asks.
-/
import Derived.Test.YtidbkllhlllnnaaDoorListLaw
namespace Go.Proofs.YtidbkllhlllnnaaDoor
open Go.RowKit

theorem char_listing : Listing (castL charL) where
  len := by rw [castL_len, char_len]
  asc := by
    intro i x y h1 h2
    unfold castL at h1 h2
    rw [List.getElem?_map] at h1 h2
    cases e1 : charL[i]? with
    | none => rw [e1] at h1; cases h1
    | some a =>
      cases e2 : charL[i + 1]? with
      | none => rw [e2] at h2; cases h2
      | some b =>
        rw [e1] at h1
        rw [e2] at h2
        simp at h1 h2
        have := ascB_get charL i a b char_asc e1 e2
        omega
  has := by
    intro i x h
    unfold castL at h
    rw [List.getElem?_map] at h
    cases e1 : charL[i]? with
    | none => rw [e1] at h; cases h
    | some a =>
      rw [e1] at h
      simp at h
      rw [← h, hasN_eq]
      exact (char_mem a).1 (List.mem_of_getElem? e1)
  mem := by
    intro c
    rw [Bool.eq_iff_iff, decide_eq_true_eq]
    unfold castL
    rw [List.mem_map]
    constructor
    · rintro ⟨a, ha, rfl⟩
      rw [hasN_eq]
      exact (char_mem a).1 ha
    · intro h
      have hr := has_range h
      refine ⟨c.toNat, (char_mem _).2 ?_, by omega⟩
      rw [← hasN_eq, show ((c.toNat : Nat) : Int) = c by omega]
      exact h

theorem prList_at (w : World) (hS : Spans w) : Calls Tryd.prog 26 #[] w fun e w' => ∃ v, e = .returned v ∧ Ints w' v (castL charL) ∧ Below w.heap.size w w' := by
  refine (prList_any w hS).mono ?_
  rintro e w' ⟨v, rfl, hown, hb⟩
  have hA := Arr.of_own hown
  obtain ⟨A, c, rfl⟩ := hA.form
  exact ⟨_, rfl, ⟨A, _, c, rfl, by rw [char_len]; decide, hA.int⟩, hb⟩

end Go.Proofs.YtidbkllhlllnnaaDoor
