/-
  The program's isNotation.
-/
import Derived.Test.YtheadamdhjhnpaaDoorShow
namespace Go.Proofs.YtheadamdhjhnpaaDoor
open Go.RowKit

def noteB (s : List UInt8) : Bool := formB s && s.all isDec
theorem note_parse {s : List UInt8} {b : Bool} (h : noteB s = b) : parseR s = if b then limit (decV s) else .error 7 := by
  subst h
  unfold parseR noteB
  by_cases h : formB s = true ∧ s.all isDec = true
  · rw [if_pos h, h.1, h.2]; rfl
  · rw [if_neg h]
    have : (formB s && s.all isDec) = false := by
      cases h1 : formB s with
      | false => rfl
      | true =>
        cases h2 : s.all isDec with
        | false => rfl
        | true => exact absurd ⟨h1, h2⟩ h
    rw [this]; rfl

theorem str_empty (t : List UInt8) : (str t).toList.isEmpty = t.isEmpty := by rw [str_toList]
theorem note_form {s : List UInt8} (h : formB s = false) : noteB s = false := by unfold noteB; rw [h]; rfl
theorem note_good {s t : List UInt8} (h : formB s = true) (ht : t = [] ↔ s.all isDec = true) : (str t).toList.isEmpty = noteB s := by
  rw [str_empty]
  unfold noteB
  rw [h, Bool.true_and]
  cases hs : s.all isDec with
  | true => rw [ht.2 hs]; rfl
  | false =>
    cases t with
    | nil => rw [ht.1 rfl] at hs; cases hs
    | cons _ _ => rfl

set_option maxRecDepth 20000 in
set_option maxHeartbeats 1600000 in
theorem notation_any (s : List UInt8) (w : World) (hlen : s.length ≤ 1000000000000) :
    Calls Tryd.prog 64 #[.string (str s)] w fun e w' => e = .returned (.bool (noteB s)) ∧ Below w.heap.size w w' := by
  have hsz : (str s).size = s.length := rfl
  have hE := str_empty s
  by_cases h0 : s = []
  · have hE2 : (str s).toList.isEmpty = true := by rw [hE, h0]; rfl
    have HN := Lib.hid (note_form (s := s) (by unfold formB; rw [h0]; rfl))
    clear hE h0
    go_enter Tryd.func64, Tryd.ntmps64
    go_wp2
    go_ret
    exact ⟨ret_bool (by rw [HN.out]), Below.refl _ _⟩
  have hE2 : (str s).toList.isEmpty = false := by rw [hE]; cases s with | nil => exact absurd rfl h0 | cons _ _ => rfl
  have hp : 0 < s.length := by cases s with | nil => exact absurd rfl h0 | cons _ _ => simp
  clear hE h0
  by_cases h7 : 700 < s.length
  · have t1 : decide (700 < (s.length : Int)) = true := by simp; omega
    have HN := Lib.hid (note_form (s := s) (by unfold formB; rw [decide_eq_false (show ¬ s.length ≤ 700 by omega)]; simp))
    clear h7
    go_enter Tryd.func64, Tryd.ntmps64
    go_wp2
    go_ret
    exact ⟨ret_bool (by rw [HN.out]), Below.refl _ _⟩
  have t1 : decide (700 < (s.length : Int)) = false := by simp; omega
  by_cases h1 : s.length = 1
  · have t2 : decide (1 < (s.length : Int)) = false := by simp; omega
    have HF : Hid (formB s = true) := Lib.hid (by unfold formB; rw [h1]; rfl)
    clear h1 h7
    go_enter Tryd.func64, Tryd.ntmps64
    go_wp2_with fail
    refine (trim_ten s _ (by omega)).mono ?_
    rintro e w1 ⟨t, rfl, ht, k1⟩
    have HT := Lib.hid (note_good HF.out ht)
    clear ht
    go_wp2
    go_ret
    exact ⟨ret_bool (by rw [← HT.out]), k1⟩
  have t2 : decide (1 < (s.length : Int)) = true := by simp; omega
  have hp2 : 0 < (str s).size := hp
  have hat := str_at s 0 hp2
  obtain ⟨c0, hc0⟩ : ∃ c, c = (str s)[0]'hp2 := ⟨_, rfl⟩
  rw [← hc0] at hat
  by_cases h48 : c0 = 48
  · have t3 : ((((str s)[0]'hp2).toNat : Int) == 48) = true := by rw [← hc0, h48]; rfl
    have HN := Lib.hid (note_form (s := s) (by unfold formB; rw [hat, h48, decide_eq_false h1]; simp))
    clear h48 hat hc0 h1 h7
    go_enter Tryd.func64, Tryd.ntmps64
    go_wp2
    go_ret
    exact ⟨ret_bool (by rw [HN.out]), Below.refl _ _⟩
  · have t3 : ((((str s)[0]'hp2).toNat : Int) == 48) = false := by
      rw [← hc0]
      have : c0.toNat ≠ 48 := fun e => h48 (by apply UInt8.toNat_inj.1; rw [e]; rfl)
      simp; omega
    have HF : Hid (formB s = true) := Lib.hid (by
      unfold formB
      rw [hat, decide_eq_true (show 1 ≤ s.length by omega), decide_eq_true (show s.length ≤ 700 by omega)]
      simp [h48])
    clear h48 hat hc0 h1 h7
    go_enter Tryd.func64, Tryd.ntmps64
    go_wp2_with fail
    refine (trim_ten s _ (by omega)).mono ?_
    rintro e w1 ⟨t, rfl, ht, k1⟩
    have HT := Lib.hid (note_good HF.out ht)
    clear ht
    go_wp2
    go_ret
    exact ⟨ret_bool (by rw [← HT.out]), k1⟩

end Go.Proofs.YtheadamdhjhnpaaDoor
