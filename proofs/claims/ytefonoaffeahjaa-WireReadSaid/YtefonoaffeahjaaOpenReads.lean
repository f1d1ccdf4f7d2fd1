/-
  An argument that is a slice of calls: four integers each.
-/
import Derived.Test.YtefonoaffeahjaaReadLaw
import Derived.Test.YtefonoaffeahjaaOpen
import Derived.Deep.Slices
import Derived.Lib.SmallJoins
namespace Go.Proofs.Ytefonoaffeahjaa
open Go.RowKit Go.ChangeShapes Go.WideShapes Go.Deep Go.Joins

theorem add_plain (b off n : Nat) : (⟨b, off, none⟩ : Addr).add n = ⟨b, off + n, none⟩ := by unfold Addr.add; split <;> simp_all

theorem rds_open {H : Type} {enc : TypeId × Value → H} {W : World} {base : Nat} {spare : Nat → Bool} {held : Bool} {fuel : Nat} {cs : List Value} {x : DataW H × List MemPlace}
    (h : DataW.trod enc Try.prog W base spare held fuel 23 cs = some x) :
    ∃ A n c ls, cs = [.slice A n c] ∧ Rds W W.heap.size (.slice A n c) ls := by
  have k4 : Try.prog.cellsOf 33 = 4 := by kernel_rfl
  have k1 : Try.prog.cellsOf 3 = 1 := by kernel_rfl
  rcases open_slice Try.underlying23 h with ⟨rfl, _⟩ | ⟨a, len, cap, m, n, D, Pl, rfl, hb, hl, hm, hmm, _, hi⟩
  · exact ⟨none, 0, 0, [], rfl, .inl ⟨none, 0, rfl, rfl⟩⟩
  · refine ⟨some a, len, cap, ?_⟩
    have hml : len ≤ m := by rw [hmm]; split <;> omega
    have hel : ∀ i, ∃ t : Int × Int × Int × Int, i < len → W.cell? ((a.add (i * 4)).add 0) = some (.int .i64 t.1) ∧ W.cell? ((a.add (i * 4)).add 1) = some (.int .i64 t.2.1) ∧ W.cell? ((a.add (i * 4)).add 2) = some (.int .i64 t.2.2.1) ∧ W.cell? ((a.add (i * 4)).add 3) = some (.int .i64 t.2.2.2) := by
      intro i
      by_cases hil : i < len
      · obtain ⟨cs', hc, ht⟩ := hi i (by omega)
        rw [k4] at hc
        obtain ⟨_, hcl, hat⟩ := World.cells?_some hc
        obtain ⟨y0, y1, y2, y3, n', _, _, h0, h1, h2, h3⟩ := trod_struct4 Try.underlying33 ht
        obtain ⟨c0, c1, c2, c3, rfl⟩ : ∃ c0 c1 c2 c3, cs' = [c0, c1, c2, c3] := by
          match cs', hcl with
          | [c0, c1, c2, c3], _ => exact ⟨c0, c1, c2, c3, rfl⟩
        simp only [k1] at h0 h1 h2 h3
        obtain ⟨a0, e0, _, _⟩ := DataW.trod_int Try.underlying3 h0
        obtain ⟨a1, e1, _, _⟩ := DataW.trod_int Try.underlying3 h1
        obtain ⟨a2, e2, _, _⟩ := DataW.trod_int Try.underlying3 h2
        obtain ⟨a3, e3, _, _⟩ := DataW.trod_int Try.underlying3 h3
        simp at e0 e1 e2 e3
        refine ⟨(a0, a1, a2, a3), fun _ => ⟨?_, ?_, ?_, ?_⟩⟩
        · rw [hat 0 (by omega)]; simp [e0]
        · rw [hat 1 (by omega)]; simp [e1]
        · rw [hat 2 (by omega)]; simp [e2]
        · rw [hat 3 (by omega)]; simp [e3]
      · exact ⟨(0, 0, 0, 0), fun h => absurd h hil⟩
    obtain ⟨f, hf⟩ := Classical.skolem.1 hel
    by_cases h0 : len = 0
    · subst h0
      exact ⟨[], rfl, .inl ⟨_, _, rfl, rfl⟩⟩
    · have hc0 := (hf 0 (by omega)).1
      obtain ⟨b, off, spot⟩ := a
      have e0 : (((⟨b, off, spot⟩ : Addr).add (0 * 4)).add 0) = ⟨b, off, spot⟩ := by simp [Addr.add]
      rw [e0] at hc0
      have hspot : spot = none := by simpa using World.cell?_spot hc0
      subst hspot
      have hbl := cell_block hc0
      have hlen : ((List.range len).map f).length = len := by simp
      refine ⟨(List.range len).map f, rfl, .inr ⟨b, off, cap, by rw [hlen], hbl, fun i k m' l h' hit => ?_⟩⟩
      have hil : i < len := by rw [← hlen]; exact (List.getElem?_eq_some_iff.1 hit).1
      have hfi : f i = (k, m', l, h') := by
        rw [List.getElem?_map, List.getElem?_range hil] at hit
        simpa using hit
      have hcell := hf i hil
      rw [hfi] at hcell
      simp only [add_plain, Nat.add_zero] at hcell
      exact hcell

end Go.Proofs.Ytefonoaffeahjaa
