/-
  The reference's table of composed letters in memory.
-/
import Derived.Test.YtpgaebdaakllaaaDoorNormForm
import Derived.Test.YtpgaebdaakllaaaDoorRefScript
namespace Go.Proofs.YtpgaebdaakllaaaDoor
open Go.RowKit

theorem flat3 {α β : Type} (a b c : α → β) : ∀ (l : List α) (i : Nat) (x : α), l[i]? = some x →
    (l.flatMap fun x => [a x, b x, c x])[i * 3]? = some (a x) ∧ (l.flatMap fun x => [a x, b x, c x])[i * 3 + 1]? = some (b x) ∧ (l.flatMap fun x => [a x, b x, c x])[i * 3 + 2]? = some (c x)
  | [], i, x, h => by simp at h
  | y :: l, 0, x, h => by
    simp at h
    subst h
    exact ⟨rfl, rfl, rfl⟩
  | y :: l, i + 1, x, h => by
    have := flat3 a b c l i x (by simpa using h)
    rw [List.flatMap_cons]
    have e : ∀ j, ([a y, b y, c y] ++ l.flatMap fun x => [a x, b x, c x])[(i + 1) * 3 + j]? = (l.flatMap fun x => [a x, b x, c x])[i * 3 + j]? := by
      intro j
      rw [List.getElem?_append_right (by simp; omega)]
      congr 1
      simp
      omega
    have e0 := e 0
    rw [Nat.add_zero, Nat.add_zero] at e0
    rw [e0, e 1, e 2]
    exact this
def rowList : List Value := rowL.flatMap fun r => [Value.int .i64 (r.1 : Int), sv (encL r.2.1), sv (encL r.2.2)]
def rowCells : Array Value := rowList.toArray
theorem row_get (j : Nat) : rowCells[j]? = rowList[j]? := List.getElem?_toArray
def rowAt (i : Nat) : Nat × List Nat × List Nat := rowL.getD i (0, [], [])
theorem row_len : rowL.length = 13 := rfl
theorem rowL_get {i : Nat} (hi : i < 13) : rowL[i]? = some (rowAt i) := by
  unfold rowAt
  rw [List.getD, List.getElem?_eq_getElem (by rw [row_len]; exact hi)]
  rfl
theorem row_cells {w : World} {g : Nat} (h : Box w g 53 rowCells) {i : Nat} (hi : i < 13) : w.cell? ⟨g, i * 3, none⟩ = some (.int .i64 ((rowAt i).1 : Int)) ∧ w.cell? ⟨g, i * 3 + 1, none⟩ = some (.string (str (encL (rowAt i).2.1))) ∧
    w.cell? ⟨g, i * 3 + 2, none⟩ = some (.string (str (encL (rowAt i).2.2))) := by
  have := flat3 (fun r : Nat × List Nat × List Nat => Value.int .i64 (r.1 : Int)) (fun r => sv (encL r.2.1)) (fun r => sv (encL r.2.2)) rowL i (rowAt i) (rowL_get hi)
  rw [h.cell, h.cell, h.cell, row_get, row_get, row_get]
  exact this
theorem row_ok : (rowL.all fun r => (r.2.1.all hasN && r.2.2.all hasN) && (Nat.beq r.2.1.length r.2.2.length && Nat.ble r.2.1.length 100)) = true := by kernel_rfl
theorem row_facts {i : Nat} (hi : i < 13) : (∀ c ∈ (rowAt i).2.1, okC c) ∧ (∀ c ∈ (rowAt i).2.2, okC c) ∧ (rowAt i).2.1.length = (rowAt i).2.2.length ∧ (rowAt i).2.1.length ≤ 100 := by
  have h := List.all_eq_true.1 row_ok (rowAt i) (List.mem_of_getElem? (rowL_get hi))
  rw [Bool.and_eq_true, Bool.and_eq_true, Bool.and_eq_true, Nat.beq_eq, Nat.ble_eq, List.all_eq_true, List.all_eq_true] at h
  have ok : ∀ c, hasN c = true → okC c := by
    intro c hc
    rw [← hasN_eq] at hc
    have := has_range hc
    exact ⟨by omega, has_kind.1 hc⟩
  exact ⟨fun c hc => ok c (h.1.1 c hc), fun c hc => ok c (h.1.2 c hc), h.2.1, h.2.2⟩

set_option maxRecDepth 100000 in
set_option maxHeartbeats 3200000 in
theorem rows_any (w : World) :
    Calls Tryd.prog 48 #[] w fun e w' => e = .returned (.slice (some ⟨w.heap.size, 0, none⟩) 13 13) ∧ w' = w.alloc (.cells rowCells 53) := by
  go_enter Tryd.func48, Tryd.ntmps48
  go_wp2
  go_ret
  refine ⟨rfl, ?_⟩
  congr 2

end Go.Proofs.YtpgaebdaakllaaaDoor
