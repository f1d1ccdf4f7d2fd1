/-
  Arguments that came in: slices of integers as lists, strings.
-/
import Derived.Test.YtpgaebdaakllaaaDoorWords
import Derived.ProofKit
import Derived.OpenShut
import Derived.SliceStrings
import Derived.ChangeArms
namespace Go.Proofs.YtpgaebdaakllaaaDoor
open Go.RowKit

theorem cell_block {W : World} {a : Addr} {v : Value} (h : W.cell? a = some v) : a.block < W.heap.size := World.block_lt_of_cell? W a h

theorem arr_of_ints {W : World} {x : Addr} {l c : Nat} {zs : List Int} (hl : l ≤ c) (hz : zs.length = c) (hcell : ∀ i, i < zs.length → W.cell? (x.add i) = some (.int .i64 (zs.getD i 0))) :
    ∃ xs, Arr iv W W.heap.size (.slice (some x) l c) xs ∧ xs.length = l := by
  have hlen : (zs.take l).length = l := by rw [List.length_take]; omega
  refine ⟨zs.take l, .inr ⟨x, c, by rw [hlen], by rw [hlen]; exact hl, fun h0 => ?_, fun i u hu => ?_⟩, hlen⟩
  · rw [hlen] at h0
    have := cell_block (hcell 0 (by omega))
    rwa [add_block] at this
  · have hi : i < l := by rw [← hlen]; exact (List.getElem?_eq_some_iff.1 hu).1
    rw [hcell i (by omega)]
    rw [List.getElem?_take, if_pos hi, List.getElem?_eq_getElem (show i < zs.length by omega)] at hu
    simp only [Option.some.injEq] at hu
    have hz' : zs.getD i 0 = zs[i]'(by omega) := by simp [List.getD, List.getElem?_eq_getElem (show i < zs.length by omega)]
    rw [hz', hu]
    rfl

theorem open_i {W : World} {x : Addr} {l c : Nat} {zs : List Int} (hl : l ≤ c) (hm : c ≤ maxLen) (hz : zs.length = c) (hcell : ∀ i, i < zs.length → W.cell? (x.add i) = some (.int .i64 (zs.getD i 0))) :
    ∃ xs, Arr iv W W.heap.size (.slice (some x) l c) xs ∧ xs.length = l ∧ l ≤ 9223372036854775807 := by
  obtain ⟨xs, h1, h2⟩ := arr_of_ints hl hz hcell
  unfold maxLen at hm
  exact ⟨xs, h1, h2, by omega⟩

end Go.Proofs.YtpgaebdaakllaaaDoor
