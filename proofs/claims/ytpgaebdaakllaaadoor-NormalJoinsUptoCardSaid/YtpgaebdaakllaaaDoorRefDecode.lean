/-
  The reference's Decode and Count.
-/
import Derived.Test.YtpgaebdaakllaaaDoorRefClass
namespace Go.Proofs.YtpgaebdaakllaaaDoor
open Go.RowKit

/-- What Decode hands back: a list of its own and true, or nothing and false. -/
def DecEnd (W : World) (r : Option (List Nat)) (e : Ending) (w' : World) : Prop :=
  match r with
  | some l => ∃ v, e = .returned (.tuple #[v, .bool true]) ∧ w'.ownsRow W.heap.size 3 1 v l.length (l.map nv)
  | none => e = .returned (.tuple #[.slice none 0 0, .bool false])
theorem DecEnd.good {W w' : World} {l : List Nat} {v : Value} (h : w'.ownsRow W.heap.size 3 1 v l.length (l.map nv)) : DecEnd W (some l) (.returned (.tuple #[v, .bool true])) w' := ⟨v, rfl, h⟩
theorem DecEnd.bad {W w' : World} : DecEnd W none (.returned (.tuple #[.slice none 0 0, .bool false])) w' := rfl
theorem DecEnd.of {W w' : World} {r r' : Option (List Nat)} {e : Ending} (hr : r = r') (h : DecEnd W r' e w') : DecEnd W r e w' := hr ▸ h

theorem dec_len {s : List UInt8} {l : List Nat} (h : decR s = some l) : l.length ≤ s.length := by
  obtain ⟨h1, h2⟩ := enc_dec h
  rw [← h1]
  clear h h1 h2
  induction l with
  | nil => simp
  | cons x l ih =>
    have := encC_len x
    rw [encL, List.length_append, List.length_cons]
    omega

/-- A place in a string behind the characters l. -/
def Past (s : List UInt8) (k : Nat) (l : List Nat) : Prop := k ≤ s.length ∧ l.length ≤ k ∧ decR s = (decR (s.drop k)).map (l ++ ·)
theorem Past.start (s : List UInt8) : Past s 0 [] := ⟨by omega, by simp, by simp⟩
theorem Past.done {s : List UInt8} {k : Nat} {l : List Nat} (h : Past s k l) (hk : ¬ k < s.length) : decR s = some l := by
  rw [h.2.2, List.drop_of_length_le (by omega), decR_nil]
  simp
theorem Past.next {s : List UInt8} {k c n : Nat} {l : List Nat} (h : Past s k l) (hk : k < s.length) (ha : atR (s.drop k) = (c, n)) (h0 : n ≠ 0) (hc : kindR (c : Int) ≠ 0) : Past s (k + n) (l ++ [c]) := by
  have hne : s.drop k ≠ [] := fun e => by rw [List.drop_eq_nil_iff] at e; omega
  have hl := (atR_len (s.drop k)).1
  rw [ha, List.length_drop] at hl
  refine ⟨by have : n ≤ s.length - k := hl; omega, by rw [List.length_append, List.length_singleton]; have := h.2.1; omega, ?_⟩
  have hs : ¬ ((atR (s.drop k)).2 = 0 ∨ kindR ((atR (s.drop k)).1 : Int) = 0) := by
    rw [ha]
    rintro (e | e)
    · exact h0 e
    · exact hc e
  rw [h.2.2, decR_step hne hs, ha, List.drop_drop]
  cases decR (s.drop (k + n)) <;> simp
theorem Past.bad {s : List UInt8} {k c n : Nat} {l : List Nat} (h : Past s k l) (hk : k < s.length) (ha : atR (s.drop k) = (c, n)) (h0 : n = 0 ∨ kindR (c : Int) = 0) : decR s = none := by
  have hne : s.drop k ≠ [] := fun e => by rw [List.drop_eq_nil_iff] at e; omega
  rw [h.2.2, decR_stop hne (by rw [ha]; exact h0)]
  rfl
theorem has_kind {c : Int} : hasR c = true ↔ kindR c ≠ 0 := by unfold hasR; simp
theorem has_kind_no {c : Int} (h : hasR c = false) : kindR c = 0 := by unfold hasR at h; simpa using h

set_option maxRecDepth 20000 in
set_option maxHeartbeats 1600000 in
theorem refDecode_any (s : List UInt8) (w : World) (hlen : s.length ≤ 100000000000) :
    Calls Tryd.prog 23 #[.string (str s)] w fun e w' => DecEnd w (decR s) e w' ∧ Below w.heap.size w w' := by
  have hsz : (str s).size = s.length := rfl
  obtain ⟨R, hR⟩ : ∃ R, R = decR s := ⟨_, rfl⟩
  rw [← hR]
  have HR := Lib.hid hR
  clear hR
  go_enter Tryd.func23, Tryd.ntmps23
  go_wp2
  go_loopw [4, 5] (fun v i wr => ∃ (k : Nat) (l : List Nat), Hid (Past s k l) ∧ i = .int .i64 (k : Int) ∧ wr.ownsRow w.heap.size 3 1 v l.length (l.map nv) ∧ Below w.heap.size w wr) (fun _ i _ => s.length - (intOf i).toNat)
  case atStart => exact ⟨0, [], Lib.hid (Past.start s), rfl, World.ownsRow_nil _ _ _ _, Below.refl _ _⟩
  case round =>
    obtain ⟨k, l, HP, rfl, hown, hbel⟩ := hrel
    have hkl := HP.out.1
    have hll := HP.out.2.1
    have hbs := hbel.size
    by_cases hlt : k < s.length
    · have i1 : decide ((k : Int) < (s.length : Int)) = true := by simp; omega
      have hat := at_any s k wr hlt (by omega)
      obtain ⟨c, n, hcn⟩ : ∃ c n, atR (s.drop k) = (c, n) := ⟨_, _, rfl⟩
      rw [hcn] at hat
      have HA := Lib.hid hat
      have hnl := atR_len (s.drop k)
      rw [hcn] at hnl
      have hn3 : n ≤ 3 := hnl.2
      by_cases h0 : n = 0
      · subst h0
        have HE : Hid (R = none) := Lib.hid (by rw [HR.out, HP.out.bad hlt hcn (.inl rfl)])
        clear hat hcn hnl
        go_wp2_with fail
        refine HA.out.mono ?_
        rintro e w1 ⟨rfl, q, rfl⟩
        unfold two
        go_wp2
        go_ret2
        rw [HE.out]
        exact ⟨DecEnd.bad, below_drewN hbel q⟩
      · have t0 : ((n : Int) == 0) = false := eqb_false (by omega)
        have HH := Lib.hid (has_any (c : Int))
        cases hc : hasR (c : Int) with
        | false =>
          have HE : Hid (R = none) := Lib.hid (by rw [HR.out, HP.out.bad hlt hcn (.inr (has_kind_no hc))])
          rw [hc] at HH
          clear hat hcn hnl hc
          go_wp2_with fail
          refine HA.out.mono ?_
          rintro e w1 ⟨rfl, q, rfl⟩
          unfold two
          go_wp2_with fail
          refine (HH.out _).mono ?_
          rintro e w2 ⟨rfl, q2, rfl⟩
          go_wp2
          go_ret2
          rw [HE.out]
          exact ⟨DecEnd.bad, below_drewN hbel _⟩
        | true =>
          have HN : Hid (Past s (k + n) (l ++ [c])) := Lib.hid (HP.out.next hlt hcn h0 (has_kind.1 hc))
          rw [hc] at HH
          clear hat hcn hnl hc
          go_wp2_with fail
          refine HA.out.mono ?_
          rintro e w1 ⟨rfl, q, rfl⟩
          unfold two
          go_wp2_with fail
          refine (HH.out _).mono ?_
          rintro e w2 ⟨rfl, q2, rfl⟩
          have hown2 := own_drewN hown (q + q2)
          go_wp2_with (at_builtin; refine append_int (wr.drewN (q + q2)) rfl (.tmp 25) (.tmp 27) rfl w.heap.size u4 l rfl hown2 c _ rfl rfl (by omega) hbs ?_; intro r1 w3 hown3 hb3)
          go_roundw
          case rel => exact ⟨k + n, l ++ [c], HN, by go_num, hown3, (below_drewN hbel _).trans hb3⟩
          case measure => simp [intOf]; omega
    · obtain rfl : k = s.length := by omega
      have HE : Hid (R = some l) := Lib.hid (by rw [HR.out, HP.out.done hlt])
      go_wp2
      go_ret2
      rw [HE.out]
      exact ⟨DecEnd.good hown, hbel⟩

def countR (s : List UInt8) : Nat := match decR s with | some l => l.length | none => 0
theorem countR_some {s : List UInt8} {l : List Nat} (h : decR s = some l) : countR s = l.length := by unfold countR; rw [h]
theorem countR_none {s : List UInt8} (h : decR s = none) : countR s = 0 := by unfold countR; rw [h]
theorem DecEnd.form {W w' : World} {r : Option (List Nat)} {e : Ending} (h : DecEnd W r e w') : ∃ A n c b, e = .returned (.tuple #[.slice A n c, .bool b]) ∧
    ((b = true ∧ ∃ l, r = some l ∧ n = l.length ∧ Arr nv w' w'.heap.size (.slice A n c) l ∧ w'.ownsRow W.heap.size 3 1 (.slice A n c) l.length (l.map nv)) ∨ (b = false ∧ r = none ∧ A = none ∧ n = 0 ∧ c = 0)) := by
  cases r with
  | none => exact ⟨none, 0, 0, false, h, .inr ⟨rfl, rfl, rfl, rfl, rfl⟩⟩
  | some l =>
    obtain ⟨v, rfl, hown⟩ := h
    have hA := Arr.of_own hown
    obtain ⟨A, c, rfl⟩ := hA.form
    exact ⟨A, l.length, c, true, rfl, .inl ⟨rfl, l, rfl, rfl, hA, hown⟩⟩

end Go.Proofs.YtpgaebdaakllaaaDoor
