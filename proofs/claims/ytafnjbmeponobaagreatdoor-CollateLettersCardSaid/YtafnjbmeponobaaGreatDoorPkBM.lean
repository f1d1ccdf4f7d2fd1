/-
  An argument that is a slice of structs, as a list: given how one element reads.
  Arguments of the laws of collate: a tailoring, three strings; the bodies at them.
  An argument of three strings.
  The laws' bodies at arguments as the model holds them.
-/
import Derived.Test.YtafnjbmeponobaaGreatDoorPkAV
import Derived.Test.YtafnjbmeponobaaGreatDoorPkBL
import Derived.Deep.Slices
import Derived.Lib.SmallJoins
import Derived.Test.YtafnjbmeponobaaGreatDoorPkBH
import Derived.ChangeSame
import Derived.OpenShut
import Derived.Test.YtafnjbmeponobaaGreatDoorPkBJ
import Derived.Test.YtafnjbmeponobaaGreatDoorPkBK
namespace Go.Proofs.YtafnjbmeponobaaGreatDoor
open Go.RowKit Go.ChangeShapes Go.WideShapes Go.Deep Go.Joins

theorem sarr_open {H : Type} {enc : TypeId × Value → H} {P : Program} {W : World} {base : Nat} {spare : Nat → Bool} {held : Bool} {fuel : Nat} {cs : List Value} {x : DataW H × List MemPlace}
    {t e : TypeId} {sz : Nat} {α : Type} {val : α → List Value} (Good : α → Prop) (ht : P.underlying t = some (.slice e)) (hk : P.cellsOf e = sz) (hs : 0 < sz) (hv : ∀ u, (val u).length = sz)
    (helem : ∀ (n : Nat) (cs : List Value) (x : DataW H × List MemPlace), DataW.trod enc P W base spare held n e cs = some x → ∃ u, cs = val u ∧ Good u)
    (h : DataW.trod enc P W base spare held fuel t cs = some x) :
    ∃ A n c xs, cs = [.slice A n c] ∧ SArr sz val W W.heap.size (.slice A n c) xs ∧ xs.length = n ∧ n ≤ 9223372036854775807 ∧ ∀ u ∈ xs, Good u := by
  rcases open_slice ht h with ⟨rfl, _⟩ | ⟨a, len, cap, m, n, D, Pl, rfl, hb, hl, hm, hmm, _, hi⟩
  · exact ⟨none, 0, 0, [], rfl, .inl ⟨rfl, rfl⟩, rfl, by omega, by simp⟩
  · unfold maxLen at hm
    have hml : len ≤ m := by rw [hmm]; split <;> omega
    by_cases h0 : len = 0
    · subst h0
      exact ⟨some a, 0, cap, [], rfl, .inr ⟨a, cap, rfl, by simp, by simp, by simp⟩, rfl, by omega, by simp⟩
    · have hel : ∀ i, i < len → ∃ u : α, (∀ j v, (val u)[j]? = some v → W.cell? (a.add (i * sz + j)) = some v) ∧ Good u := by
        intro i hil
        obtain ⟨cs', hc, ht'⟩ := hi i (by omega)
        rw [hk] at hc
        obtain ⟨u, rfl, hg⟩ := helem n cs' _ ht'
        obtain ⟨_, hcl, hat⟩ := World.cells?_some hc
        refine ⟨u, fun j v hj => ?_, hg⟩
        have hjl : j < sz := by rw [← hv u]; exact (List.getElem?_eq_some_iff.1 hj).1
        have := hat j hjl
        rw [Go.Deep.add_add] at this
        rw [this, hj]
      obtain ⟨u0, _, _⟩ := hel 0 (by omega)
      have hel2 : ∀ i, ∃ u : α, i < len → (∀ j v, (val u)[j]? = some v → W.cell? (a.add (i * sz + j)) = some v) ∧ Good u := fun i => by
        by_cases hil : i < len
        · obtain ⟨u, h1, h2⟩ := hel i hil
          exact ⟨u, fun _ => ⟨h1, h2⟩⟩
        · exact ⟨u0, fun h => absurd h hil⟩
      obtain ⟨f, hf⟩ := Classical.skolem.1 hel2
      have hlen : ((List.range len).map f).length = len := by simp
      have hget : ∀ i u, ((List.range len).map f)[i]? = some u → i < len ∧ f i = u := by
        intro i u hu
        have hil : i < len := by rw [← hlen]; exact (List.getElem?_eq_some_iff.1 hu).1
        rw [List.getElem?_map, List.getElem?_range hil] at hu
        exact ⟨hil, by simpa using hu⟩
      refine ⟨some a, len, cap, (List.range len).map f, rfl, .inr ⟨a, cap, by rw [hlen], by rw [hlen]; exact hl, fun _ => ?_, fun i u hu j v hj => ?_⟩, hlen, by omega, fun u hu => ?_⟩
      · have h1 := (hf 0 (by omega)).1 0 _ (List.getElem?_eq_getElem (by rw [hv]; exact hs))
        have := cell_block h1
        rwa [add_block] at this
      · obtain ⟨hil, rfl⟩ := hget i u hu
        exact (hf i hil).1 j v hj
      · obtain ⟨i, hi'⟩ := List.getElem?_of_mem hu
        obtain ⟨hil, rfl⟩ := hget i u hi'
        exact (hf i hil).2

end Go.Proofs.YtafnjbmeponobaaGreatDoor

namespace Go.Proofs.YtafnjbmeponobaaGreatDoor
open Go.RowKit Go.ChangeShapes Go.WideShapes Go.Deep Go.Joins

set_option maxRecDepth 100000 in
theorem letter_elem {H : Type} {enc : TypeId × Value → H} {W : World} {base : Nat} {spare : Nat → Bool} {held : Bool} (n : Nat) (cs : List Value) (x : DataW H × List MemPlace)
    (h : DataW.trod enc Tryz.prog W base spare held n 53 cs = some x) : ∃ u : RuleL, cs = rv u ∧ (u.1.length ≤ 9223372036854775807 ∧ u.2.length ≤ 9223372036854775807) := by
  have k2 : Tryz.prog.cellsOf 53 = 2 := by kernel_rfl
  have k1 : Tryz.prog.cellsOf 9 = 1 := by kernel_rfl
  obtain ⟨y0, y1, m, _, hl, h0, h1⟩ := trod_struct2 Tryz.underlying53 h
  rw [k2] at hl
  obtain ⟨c0, c1, rfl⟩ : ∃ c0 c1, cs = [c0, c1] := by
    match cs, hl with
    | [c0, c1], _ => exact ⟨c0, c1, rfl⟩
  simp only [k1] at h0 h1
  obtain ⟨s0, e0, _, w0⟩ := DataW.trod_string Tryz.underlying9 h0
  obtain ⟨s1, e1, _, w1⟩ := DataW.trod_string Tryz.underlying9 h1
  simp at e0 e1
  subst e0 e1
  unfold maxLen at w0 w1
  refine ⟨(s0.data.toList, s1.data.toList), ?_, ?_, ?_⟩
  · unfold rv
    rw [str_data, str_data]
  · exact w0
  · exact w1
theorem letters_open {H : Type} {enc : TypeId × Value → H} {W : World} {base : Nat} {spare : Nat → Bool} {held : Bool} {fuel : Nat} {cs : List Value} {x : DataW H × List MemPlace}
    (h : DataW.trod enc Tryz.prog W base spare held fuel 22 cs = some x) : ∃ A n c t, cs = [.slice A n c] ∧ Given8 W A n c t := by
  obtain ⟨A, n, c, t, h1, h2, _, h4, h5⟩ := sarr_open (val := rv) (sz := 2) (fun u : RuleL => u.1.length ≤ 9223372036854775807 ∧ u.2.length ≤ 9223372036854775807) Tryz.underlying22 (by kernel_rfl) (by decide) rv_len letter_elem h
  exact ⟨A, n, c, t, h1, ⟨h2, h4, h5⟩⟩
theorem len_of {b : ByteArray} (h : b.size ≤ maxLen) : b.data.toList.length ≤ 9223372036854775807 := by
  unfold maxLen at h
  have : b.data.toList.length = b.size := rfl
  omega

end Go.Proofs.YtafnjbmeponobaaGreatDoor

namespace Go.Proofs.YtafnjbmeponobaaGreatDoor
open Go.RowKit Go.ChangeShapes Go.WideShapes Go.Deep Go.Joins

theorem cells_three : Tryz.prog.cellsOf 42 = 3 := by kernel_rfl
theorem cells_str : Tryz.prog.cellsOf 9 = 1 := by kernel_rfl
set_option maxRecDepth 100000 in
theorem open_three {H : Type} {enc : TypeId × Value → H} {W : World} {r : Go.Reach} {b0 base : Nat} {spare : Nat → Bool} {held : Bool} {v : Value} {d : DataW H} {ps : List MemPlace}
    (hv : Value.okWide Tryz.prog W r b0 42 v) (hd : DataW.Trod enc Tryz.prog W base spare held 42 v d ps) :
    ∃ a b c : ByteArray, v = .agg #[.string a, .string b, .string c] ∧ a.size ≤ maxLen ∧ b.size ≤ maxLen ∧ c.size ≤ maxLen := by
  simp only [Value.okWide, Tryz.underlying42] at hv
  obtain ⟨cs, rfl, hsz, _⟩ := hv
  rw [cells_three] at hsz
  obtain ⟨c0, c1, c2, rfl⟩ : ∃ c0 c1 c2, cs = #[c0, c1, c2] := by
    obtain ⟨l⟩ := cs
    match l, hsz with
    | [c0, c1, c2], _ => exact ⟨c0, c1, c2, rfl⟩
  obtain ⟨fuel, hf⟩ := hd
  obtain ⟨xs, m, _, _, _, hlen, hi⟩ := Go.DataW.trod_array Tryz.underlying42 hf
  have h0 := hi 0 (by omega)
  have h1 := hi 1 (by omega)
  have h2 := hi 2 (by omega)
  rw [cells_str] at h0 h1 h2
  rw [List.getElem?_eq_getElem (by omega)] at h0 h1 h2
  simp [Value.cells] at h0 h1 h2
  obtain ⟨x0, e0, _, w0⟩ := Go.DataW.trod_string Tryz.underlying9 h0
  obtain ⟨x1, e1, _, w1⟩ := Go.DataW.trod_string Tryz.underlying9 h1
  obtain ⟨x2, e2, _, w2⟩ := Go.DataW.trod_string Tryz.underlying9 h2
  simp at e0 e1 e2
  subst e0 e1 e2
  exact ⟨x0, x1, x2, rfl, w0, w1, w2⟩

end Go.Proofs.YtafnjbmeponobaaGreatDoor

namespace Go.Proofs.YtafnjbmeponobaaGreatDoor
open Go.RowKit

section
variable (A : Option Addr) (n c : Nat) (t : List RuleL) (b d e : ByteArray) (w : World)
theorem collateKeys_u (hS : Spans w) (hg : Given8 w A n c t) (h : b.size ≤ maxLen) :
    Calls Tryz.prog 3 #[.slice A n c, .string b] w fun e w' => e = .returned (.bool true) ∧ Below w.heap.size w w' := by
  rw [← str_data b]
  exact collateKeys_v A n c t b.data.toList w hS hg (len_of h)
theorem collateCompare_u (hS : Spans w) (hg : Given8 w A n c t) (h : b.size ≤ maxLen) (h2 : d.size ≤ maxLen) :
    Calls Tryz.prog 4 #[.slice A n c, .string b, .string d] w fun e w' => e = .returned (.bool true) ∧ Below w.heap.size w w' := by
  rw [← str_data b, ← str_data d]
  exact collateCompare_v A n c t b.data.toList d.data.toList w hS hg (len_of h) (len_of h2)
theorem collateEqual_u (hS : Spans w) (hg : Given8 w A n c t) (h : b.size ≤ 1048576) (h2 : d.size ≤ 1048576) :
    Calls Tryz.prog 6 #[.slice A n c, .string b, .string d] w fun e w' => e = .returned (.bool true) ∧ Below w.heap.size w w' := by
  have e1 : b.data.toList.length = b.size := rfl
  have e2 : d.data.toList.length = d.size := rfl
  rw [← str_data b, ← str_data d]
  exact collateEqual_v A n c t b.data.toList d.data.toList w hS hg (by omega) (by omega)
theorem collateOrder_u (hS : Spans w) (hg : Given8 w A n c t) (h : b.size ≤ maxLen) (h2 : d.size ≤ maxLen) (h3 : e.size ≤ maxLen) :
    Calls Tryz.prog 5 #[.slice A n c, .agg #[.string b, .string d, .string e]] w fun e w' => e = .returned (.bool true) ∧ Below w.heap.size w w' := by
  rw [← str_data b, ← str_data d, ← str_data e]
  exact collateOrder_v A n c t b.data.toList d.data.toList e.data.toList w hS hg (len_of h) (len_of h2) (len_of h3)
theorem collateLetters_u (a : Int) (h0 : 0 ≤ a ∧ a ≤ 255) (hS : Spans w) (hg : Given8 w A n c t) (h : b.size ≤ maxLen) :
    Calls Tryz.prog 8 #[.slice A n c, .int .u8 a, .string b] w fun e w' => e = .returned (.bool true) ∧ Below w.heap.size w w' := by
  obtain ⟨m, rfl⟩ : ∃ m : Nat, a = (m : Int) := ⟨a.toNat, by omega⟩
  rw [← str_data b]
  exact collateLetters_v A n c m t b.data.toList w hS hg (len_of h) (by omega)
end

end Go.Proofs.YtafnjbmeponobaaGreatDoor
