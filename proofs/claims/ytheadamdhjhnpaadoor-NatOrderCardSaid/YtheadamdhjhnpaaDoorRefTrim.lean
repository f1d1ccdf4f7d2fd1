/-
  The reference's trim.
-/
import Derived.Test.YtheadamdhjhnpaaDoorInts
namespace Go.Proofs.YtheadamdhjhnpaaDoor
open Go.RowKit

/-- What a call that hands back new digits leaves. -/
def NewInts (w : World) (l : List Nat) (e : Ending) (w' : World) : Prop := ∃ A c, e = .returned (.slice A l.length c) ∧ Arr nv w' w'.heap.size (.slice A l.length c) l ∧ Below w.heap.size w w'

theorem NewInts.of_own {w w' : World} {base : Nat} {v : Value} {l : List Nat} (h : w'.ownsRow base 3 1 v l.length (l.map nv)) (hb : Below w.heap.size w w') : NewInts w l (.returned v) w' := by
  have h1 := Arr.of_own h
  obtain ⟨A, c, rfl⟩ := h1.form
  exact ⟨A, c, rfl, h1, hb⟩

theorem tr_step {l : List Nat} {k : Nat} (h : l[k]? = some 0) : tr (l.take (k + 1)) = tr (l.take k) := by rw [take_next h, tr_snoc_zero]
theorem tr_stop {l : List Nat} {k d : Nat} (h : l[k]? = some d) (hd : d ≠ 0) : tr (l.take (k + 1)) = l.take (k + 1) := by rw [take_next h, tr_snoc _ hd]

set_option maxHeartbeats 1600000 in
theorem trim_any (A : Option Addr) (n c : Nat) (l : List Nat) (w : World) (h : Arr nv w w.heap.size (.slice A n c) l) (hlen : n ≤ 1000000) :
    Calls Tryd.prog 63 #[.slice A n c] w (NewInts w (tr l)) := by
  have HL := Lib.hid h.len
  have hcap := h.cap
  go_enter Tryd.func63, Tryd.ntmps63
  go_wp2
  go_loop [3] (fun x => ∃ k : Nat, k ≤ n ∧ x = .int .i64 (k : Int) ∧ Hid (tr (l.take k) = tr l)) (fun x => (intOf x).toNat)
  case atStart => exact ⟨n, by omega, rfl, Lib.hid (by rw [List.take_of_length_le (by have := HL.out; omega)])⟩
  case round =>
    obtain ⟨k, hk, rfl, HT⟩ := hrel
    cases k with
    | zero =>
      have h0 := h.head (N := 0) (by omega)
      have hsl := head_ints A n c 0 (by omega)
      have HE : Hid (([] : List Nat) ++ l.take 0 = tr l) := Lib.hid (by rw [← HT.out]; rfl)
      have h1 := h0.below ((Below.refl w.heap.size w).alloc (Nat.le_refl _) (.cells #[] 3))
      go_wp2_with (at_builtin; refine append_ints _ rfl (.tmp 18) (.tmp 21) rfl w.heap.size w.heap.size (.slice (some ⟨w.heap.size, 0, none⟩) 0 0) [] rfl (own_empty w _) (l.take 0) _ rfl h1 (by simp) (by simp) ?_; intro r1 w1 hown1 hb1)
      go_ret
      rw [HE.out] at hown1
      exact NewInts.of_own hown1 (((Below.refl _ _).alloc (Nat.le_refl _) _).trans hb1)
    | succ k =>
      obtain ⟨b, off, rfl, hb, hcell⟩ := h.some_ (by omega)
      obtain ⟨d, hd⟩ : ∃ d, l[k]? = some d := ⟨_, List.getElem?_eq_getElem (by have := HL.out; omega)⟩
      have hc := hcell k d hd
      simp only [nv] at hc
      have hk1 : (((k + 1 : Nat) : Int) - 1) = (k : Int) := by omega
      have hpos : (0 : Int) < ((k + 1 : Nat) : Int) := by omega
      by_cases hz : d = 0
      · subst hz
        have HT2 : Hid (tr (l.take k) = tr l) := Lib.hid (by rw [← tr_step hd]; exact HT.out)
        clear hcell hd
        go_wp2
        go_round
        case rel => exact ⟨k, by omega, by go_num, HT2⟩
        case measure => simp [intOf]
      · have hdz : ((d : Int) == 0) = false := by simp; omega
        have HE : Hid (([] : List Nat) ++ l.take (k + 1) = tr l) := Lib.hid (by rw [← HT.out, tr_stop hd hz]; rfl)
        have h0 := h.head (N := k + 1) (by omega)
        have h1 := h0.below ((Below.refl w.heap.size w).alloc (Nat.le_refl _) (.cells #[] 3))
        have hsl := head_ints (some ⟨b, off, none⟩) n c (k + 1) (by omega)
        have hl := HL.out
        clear hcell hd hz
        go_wp2_with (at_builtin; refine append_ints _ rfl (.tmp 18) (.tmp 21) rfl w.heap.size w.heap.size (.slice (some ⟨w.heap.size, 0, none⟩) 0 0) [] rfl (own_empty w _) (l.take (k + 1)) _ rfl h1 (by rw [List.length_take]; simp; omega) (by simp) ?_; intro r1 w1 hown1 hb1)
        go_ret
        rw [HE.out] at hown1
        exact NewInts.of_own hown1 (((Below.refl _ _).alloc (Nat.le_refl _) _).trans hb1)

end Go.Proofs.YtheadamdhjhnpaaDoor
