/-
  The contract of the reference's Few; what no proper beginning of an encoding can be.
-/
import Derived.Test.YtefonoaffeahjaaOther
namespace Go.Proofs.Ytefonoaffeahjaa
open Go.RowKit

def allShort (long : Nat) (xs : List (List UInt8)) : Bool := xs.all fun s => decide (s.length ≤ long)
def fewB (xs : List (List UInt8)) (n long : Nat) : Bool := allShort long xs && decide (xs.length ≤ n)

theorem allShort_take {long : Nat} {xs : List (List UInt8)} {k : Nat} {u : List UInt8} (h : xs[k]? = some u) : allShort long (xs.take (k + 1)) = (allShort long (xs.take k) && decide (u.length ≤ long)) := by
  obtain ⟨hk, hu⟩ := List.getElem?_eq_some_iff.1 h
  unfold allShort
  rw [List.take_succ_eq_append_getElem hk, List.all_append, hu]
  simp

theorem allShort_false {long : Nat} {xs : List (List UInt8)} {k : Nat} {u : List UInt8} (h : xs[k]? = some u) (hu : ¬ u.length ≤ long) : allShort long xs = false := by
  unfold allShort
  rw [List.all_eq_false]
  exact ⟨u, List.mem_of_getElem? h, by simpa using hu⟩

set_option maxHeartbeats 800000 in
theorem few_any (lv : Value) (xs : List (List UInt8)) (n long B : Nat) (w : World) (hl : Arr sv w B lv xs) (hb : xs.length ≤ 9223372036854775807) :
    Calls Try.prog 17 #[lv, .int .i64 n, .int .i64 long] w fun e w' => e = .returned (.bool (fewB xs n long)) ∧ w = w' := by
  obtain ⟨A, m, c, rfl⟩ := hl.form
  have hm := hl.len
  have HM := Lib.hid hm
  have hmb : m ≤ 9223372036854775807 := by omega
  clear hm
  go_enter Try.func17, Try.ntmps17
  go_wp2
  go_loop [7] (fun vi => ∃ k : Nat, k ≤ m ∧ vi = .int .i64 k ∧ Hid (allShort long (xs.take k) = true)) (fun vi => m - (intOf vi).toNat)
  case atStart => exact ⟨0, by omega, rfl, rfl⟩
  case round =>
    obtain ⟨k, hk, rfl, HA⟩ := hrel
    by_cases hkm : k < m
    · obtain ⟨b, off, u, rfl, hu, hcell⟩ := hl.at_ hkm
      simp only [sv] at hcell
      have hsz : (str u).size = u.length := rfl
      by_cases hul : u.length ≤ long
      · have HT := Lib.hid (allShort_take (long := long) hu)
        clear hu
        go_wp2
        go_round
        case rel => exact ⟨k + 1, by omega, value_int (by omega), by rw [HT.out, HA.out, decide_eq_true hul]; rfl⟩
        case measure => simp [intOf]; omega
      · have HT := Lib.hid (allShort_false hu hul)
        clear hu
        have hul2 : long < u.length := by omega
        go_wp2
        go_ret
        exact ⟨by unfold fewB; rw [HT.out]; rfl, rfl⟩
    · have hkm' : k = m := by omega
      subst hkm'
      clear hkm
      have hm := HM.out
      have ha := HA.out
      rw [List.take_of_length_le (by omega)] at ha
      have HF : Hid (fewB xs n long = decide (k ≤ n)) := by unfold fewB; rw [ha, hm, Bool.true_and]; exact rfl
      clear hm ha
      go_wp2
      go_ret
      exact ⟨by rw [HF.out]; rfl, rfl⟩

theorem prefix_none {α : Type} {d : List UInt8 → Option (α × List UInt8)} {e : α → List UInt8} (hc : ∀ y p r, d p = some (y, r) → p = e y ++ r) (he : ∀ y p r r', d p = some (y, r) → d (e y ++ r') = some (y, r'))
    {x : α} (hw : d (e x) = some (x, [])) {k : Nat} (hk : k < (e x).length) : d ((e x).take k) = none := by
  cases h : d ((e x).take k) with
  | none => rfl
  | some p =>
    obtain ⟨y, r⟩ := p
    have h2 := no_prefix (q := (e x).drop k) h hc he (by rw [List.take_append_drop]; exact hw)
    have := congrArg List.length h2
    rw [List.length_drop] at this
    simp at this
    omega

theorem decI_again {lo hi y : Int} {p r : List UInt8} (r' : List UInt8) (h : decI lo hi p = some (y, r)) : decI lo hi (encI y ++ r') = some (y, r') := by
  obtain ⟨_, h1, h2, h3, h4⟩ := decI_canon h
  exact decI_encI lo hi y r' h3 h4 h1 h2

theorem decT_again {mx : Int} {y p r : List UInt8} (r' : List UInt8) (hmx : mx ≤ 1000000) (h : decT mx p = some (y, r)) : decT mx (encT y ++ r') = some (y, r') := by
  obtain ⟨_, h1⟩ := decT_canon h
  exact decT_encT mx y r' h1 (by omega)

theorem decList_again {α : Type} {el : List UInt8 → Option (α × List UInt8)} {e : α → List UInt8} (hc : ∀ y p r, el p = some (y, r) → p = e y ++ r) (he : ∀ y p r r', el p = some (y, r) → el (e y ++ r') = some (y, r'))
    {mx : Int} {y : List α} {p r : List UInt8} (r' : List UInt8) (hmx : mx ≤ 1000000) (h : decList el mx p = some (y, r)) : decList el mx (encList e y ++ r') = some (y, r') := by
  obtain ⟨_, h1, h2⟩ := decList_canon (good := fun x => ∀ r', el (e x ++ r') = some (x, r')) (fun x bs r hx => ⟨hc x bs r hx, fun r' => he x bs r r' hx⟩) h
  exact decList_enc el e mx y r' h1 (by omega) h2

theorem encs_bound {α : Type} (e : α → List UInt8) (M : Nat) : ∀ xs : List α, (∀ x ∈ xs, (e x).length ≤ M) → (encs e xs).length ≤ M * xs.length
  | [], _ => by simp [encs]
  | x :: xs, h => by
    have h1 := h x (by simp)
    have h2 := encs_bound e M xs (fun y hy => h y (by simp [hy]))
    rw [encs, List.length_append, List.length_cons, Nat.mul_add]
    omega

theorem encT_bound (s : List UInt8) (h : s.length ≤ 1000000000) : (encT s).length ≤ 10 + s.length := by
  unfold encT
  rw [List.length_append]
  have := encI_bound s.length (by omega) (by omega)
  omega

end Go.Proofs.Ytefonoaffeahjaa
