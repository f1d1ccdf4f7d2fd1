/-
  The program's table of spans: what it holds when a call begins, and that it says of each number what the document's table says.
-/
import Derived.Test.YtpgaebdaakllaaaDoorCharN
import Derived.Test.YtpgaebdaakllaaaDoorRunes
import Derived.Test.YtpgaebdaakllaaaDoorFlat
import Derived.Test.YtpgaebdaakllaaaDoorRows
namespace Go.Proofs.YtpgaebdaakllaaaDoor
open Go.RowKit

/-- First, last, script, kind. -/
def tabL : List (Nat × Nat × Nat × Nat) := [
  (32, 32, 0, 4), (33, 47, 0, 5), (48, 57, 0, 3), (58, 64, 0, 5), (65, 90, 1, 1), (91, 96, 0, 5), (97, 122, 1, 1), (123, 126, 0, 5), (160, 160, 0, 4), (178, 179, 0, 3), (185, 185, 0, 3), (192, 214, 1, 1), (216, 246, 1, 1), (248, 305, 1, 1), (308, 311, 1, 1), (313, 318, 1, 1), (321, 328, 1, 1), (330, 383, 1, 1),
  (768, 772, 0, 2), (774, 776, 0, 2), (778, 780, 0, 2), (803, 803, 0, 2), (807, 808, 0, 2), (902, 902, 2, 1), (904, 906, 2, 1), (908, 908, 2, 1), (910, 911, 2, 1), (913, 929, 2, 1), (931, 943, 2, 1), (945, 974, 2, 1), (1025, 1025, 3, 1), (1028, 1028, 3, 1), (1030, 1031, 3, 1), (1038, 1038, 3, 1), (1040, 1103, 3, 1), (1105, 1105, 3, 1), (1108, 1108, 3, 1), (1110, 1111, 3, 1), (1118, 1118, 3, 1), (1168, 1169, 3, 1), (64257, 64258, 1, 1)]
theorem tab_len : tabL.length = 41 := rfl
def spanList : List Value := tabL.flatMap fun x => [Value.int .u16 (x.1 : Int), .int .u16 (x.2.1 : Int), .int .u8 (x.2.2.1 : Int), .int .u8 (x.2.2.2 : Int)]
def spanCells : Array Value := spanList.toArray
theorem span_get (j : Nat) : spanCells[j]? = spanList[j]? := List.getElem?_toArray
/-- When the world stands, the program's table is as it was laid. -/
def Spans (w : World) : Prop := ∃ t fz, w.heap[0]? = some (.cells spanCells t fz)
theorem Spans.lt {w : World} (h : Spans w) : 0 < w.heap.size := by
  obtain ⟨t, fz, h⟩ := h
  exact (Array.getElem?_eq_some_iff.1 h).1
theorem Spans.below {w w' : World} (h : Spans w) (hb : Below w.heap.size w w') : Spans w' := by
  have hl := h.lt
  obtain ⟨t, fz, h⟩ := h
  exact ⟨t, fz, (hb.block 0 hl).trans h⟩
theorem Spans.cell {w : World} (h : Spans w) (j : Nat) : w.cell? ⟨0, j, none⟩ = spanCells[j]? := by
  obtain ⟨t, fz, h⟩ := h
  exact Go.cell_of_row w 0 j spanCells t fz h
theorem spans_of_laid {w : World} (h : laidMet Tryd.prog [("bookplate/repertoire.spans", Rows.laid_bookplate_repertoire_spans)] w) : Spans w := by
  obtain ⟨u, fz, h1⟩ := laid_flat h (g := 0) (t := 79) (by kernel_rfl) (by kernel_rfl) (by kernel_rfl)
  have e : (flat (Rows.laid_bookplate_repertoire_spans (H := Unit))).toArray = spanCells := by kernel_rfl
  rw [e] at h1
  exact ⟨u, fz, h1⟩

def spanAt (i : Nat) : Nat × Nat × Nat × Nat := tabL.getD i (0, 0, 0, 0)
theorem flat4 {α β : Type} (a b c d : α → β) : ∀ (l : List α) (i : Nat) (x : α), l[i]? = some x →
    (l.flatMap fun x => [a x, b x, c x, d x])[i * 4]? = some (a x) ∧ (l.flatMap fun x => [a x, b x, c x, d x])[i * 4 + 1]? = some (b x) ∧ (l.flatMap fun x => [a x, b x, c x, d x])[i * 4 + 2]? = some (c x) ∧ (l.flatMap fun x => [a x, b x, c x, d x])[i * 4 + 3]? = some (d x)
  | [], i, x, h => by simp at h
  | y :: l, 0, x, h => by
    simp at h
    subst h
    exact ⟨rfl, rfl, rfl, rfl⟩
  | y :: l, i + 1, x, h => by
    have := flat4 a b c d l i x (by simpa using h)
    rw [List.flatMap_cons]
    have e : ∀ j, ([a y, b y, c y, d y] ++ l.flatMap fun x => [a x, b x, c x, d x])[(i + 1) * 4 + j]? = (l.flatMap fun x => [a x, b x, c x, d x])[i * 4 + j]? := by
      intro j
      rw [List.getElem?_append_right (by simp; omega)]
      congr 1
      simp
      omega
    have e0 := e 0
    rw [Nat.add_zero, Nat.add_zero] at e0
    rw [e0, e 1, e 2, e 3]
    exact this
theorem tab_get {i : Nat} (hi : i < 41) : tabL[i]? = some (spanAt i) := by
  unfold spanAt
  rw [List.getD, List.getElem?_eq_getElem (by rw [tab_len]; exact hi)]
  rfl
theorem Spans.cells {w : World} (h : Spans w) {i : Nat} (hi : i < 41) : w.cell? ⟨0, i * 4, none⟩ = some (.int .u16 ((spanAt i).1 : Int)) ∧ w.cell? ⟨0, i * 4 + 1, none⟩ = some (.int .u16 ((spanAt i).2.1 : Int)) ∧
    w.cell? ⟨0, i * 4 + 2, none⟩ = some (.int .u8 ((spanAt i).2.2.1 : Int)) ∧ w.cell? ⟨0, i * 4 + 3, none⟩ = some (.int .u8 ((spanAt i).2.2.2 : Int)) := by
  have := flat4 (fun x : Nat × Nat × Nat × Nat => Value.int .u16 (x.1 : Int)) (fun x => .int .u16 (x.2.1 : Int)) (fun x => .int .u8 (x.2.2.1 : Int)) (fun x => .int .u8 (x.2.2.2 : Int)) tabL i (spanAt i) (tab_get hi)
  rw [h.cell, h.cell, h.cell, h.cell, span_get, span_get, span_get, span_get]
  exact this

/-! The table says what the document says. -/
def ltPairs : List (Nat × Nat × Nat × Nat) → Bool
  | a :: b :: l => Nat.ble a.1 a.2.1 && Nat.blt a.2.1 b.1 && ltPairs (b :: l)
  | [a] => Nat.ble a.1 a.2.1
  | [] => true
theorem tab_asc : ltPairs tabL = true := by kernel_rfl
theorem last_asc : ∀ i j : Fin 41, i.val ≤ j.val → (spanAt i.val).2.1 ≤ (spanAt j.val).2.1 := by decide +kernel
theorem first_asc : ∀ i : Fin 41, ∀ j : Fin 41, i.val < j.val → (spanAt i.val).2.1 < (spanAt j.val).1 := by decide +kernel
theorem span_small : ∀ i : Fin 41, (spanAt i.val).1 ≤ 65535 ∧ (spanAt i.val).2.1 ≤ 65535 ∧ (spanAt i.val).2.2.1 ≤ 255 ∧ (spanAt i.val).2.2.2 ≤ 255 := by decide +kernel

/-- All numbers of a span have its class. -/
theorem span_class : (tabL.all fun x => (List.range' x.1 (x.2.1 + 1 - x.1)).all fun c => Nat.beq (clsA c).1 x.2.2.1 && Nat.beq (clsA c).2 x.2.2.2) = true := by kernel_rfl
/-- All characters that are not fullwidth lie in a span. -/
theorem class_span : (((List.range' 0 1536).filter hasA ++ [64257, 64258]).all fun c => tabL.any fun x => inN c x.1 x.2.1) = true := by kernel_rfl
theorem hasA_range {c : Nat} (h : hasA c = true) : c < 1536 ∨ c = 64257 ∨ c = 64258 := by
  unfold hasA inN at h
  simp only [Bool.or_eq_true, Bool.and_eq_true, Nat.ble_eq, Nat.beq_eq] at h
  omega
/-- What the search finds: the first span that does not end ahead of c. -/
theorem cls_by_span {c : Int} {i : Nat} (h1 : ∀ t, t < i → ((spanAt t).2.1 : Int) < c) (h2 : ∀ t, i ≤ t → t < 41 → c ≤ ((spanAt t).2.1 : Int)) (hi : i ≤ 41) :
    clsN c = if i = 41 ∨ c < ((spanAt i).1 : Int) then (0, 0) else ((spanAt i).2.2.1, (spanAt i).2.2.2) := by
  have hget : ∀ t, t < 41 → tabL[t]? = some (spanAt t) := fun t ht => tab_get ht
  by_cases hn : i = 41 ∨ c < ((spanAt i).1 : Int)
  · rw [if_pos hn]
    -- no span holds c
    have hno : ∀ t, t < 41 → ¬ (((spanAt t).1 : Int) ≤ c ∧ c ≤ ((spanAt t).2.1 : Int)) := by
      rintro t ht ⟨a, b⟩
      by_cases hti : t < i
      · have := h1 t hti; omega
      · rcases hn with hn | hn
        · omega
        · rcases Nat.lt_or_ge i t with h | h
          · have := first_asc ⟨i, by omega⟩ ⟨t, ht⟩ h
            have h3 := h2 i (Nat.le_refl _) (by omega)
            simp only at this
            omega
          · obtain rfl : t = i := by omega
            omega
    by_cases hc0 : c < 0
    · have hf : hasR c = false := by
        cases h : hasR c with
        | false => rfl
        | true => have := has_range h; omega
      have hk : clsR c = clsN c := by unfold clsR; rw [inB_false (by omega), if_neg (by decide)]
      unfold clsN
      rw [inB_false (by omega), inB_false (by omega), inB_false (by omega), inB_false (by omega), inB_false (by omega), inB_false (by omega), inB_false (by omega), inB_false (by omega), inB_false (by omega), inB_false (by omega), inB_false (by omega)]
      have hm : ∀ l : List Nat, memB l c = false := by
        intro l
        unfold memB
        rw [List.any_eq_false]
        intro d _
        simp
        omega
      rw [hm, hm, hm]
      have e : ∀ d : Int, 0 ≤ d → (c == d) = false := fun d hd => eqb_false (by omega)
      rw [e 32 (by omega), e 160 (by omega), e 178 (by omega), e 179 (by omega), e 185 (by omega), e 383 (by omega), e 64257 (by omega), e 64258 (by omega), e 803 (by omega), e 807 (by omega), e 808 (by omega)]
      rfl
    · obtain ⟨m, rfl⟩ : ∃ m : Nat, c = (m : Int) := ⟨c.toNat, by omega⟩
      rw [clsA_eq]
      refine clsA_none ?_
      cases h : hasA m with
      | false => rfl
      | true =>
        exfalso
        have hr := hasA_range h
        have hmem : m ∈ (List.range' 0 1536).filter hasA ++ [64257, 64258] := by
          rw [List.mem_append]
          rcases hr with hr | hr | hr
          · exact .inl (List.mem_filter.2 ⟨List.mem_range'_1.2 ⟨by omega, by omega⟩, h⟩)
          · exact .inr (by simp [hr])
          · exact .inr (by simp [hr])
        have h3 := List.all_eq_true.1 class_span m hmem
        obtain ⟨x, hx, hin⟩ := List.any_eq_true.1 h3
        obtain ⟨t, ht⟩ := List.getElem?_of_mem hx
        have htl : t < 41 := by rw [← tab_len]; exact (List.getElem?_eq_some_iff.1 ht).1
        have := hget t htl
        rw [ht] at this
        injection this with this
        subst this
        unfold inN at hin
        rw [Bool.and_eq_true, Nat.ble_eq, Nat.ble_eq] at hin
        exact hno t htl ⟨by omega, by omega⟩
  · rw [if_neg hn]
    have hi' : i < 41 := by omega
    have hlo : ((spanAt i).1 : Int) ≤ c := by omega
    have hhi := h2 i (Nat.le_refl _) hi'
    obtain ⟨m, rfl⟩ : ∃ m : Nat, c = (m : Int) := ⟨c.toNat, by omega⟩
    rw [clsA_eq]
    have h3 := List.all_eq_true.1 span_class (spanAt i) (List.mem_of_getElem? (hget i hi'))
    have h4 := List.all_eq_true.1 h3 m (List.mem_range'_1.2 ⟨by omega, by omega⟩)
    rw [Bool.and_eq_true, Nat.beq_eq, Nat.beq_eq] at h4
    rw [← h4.1, ← h4.2]

end Go.Proofs.YtpgaebdaakllaaaDoor
