/-
  The program's Valid, and cmp.Compare at int.
-/
import Derived.Test.YtheadamdhjhnpaaDoorTrim
namespace Go.Proofs.YtheadamdhjhnpaaDoor
open Go.RowKit

theorem validB_long {xs : List Int} (h : ¬ xs.length ≤ 128) : validB xs = false := by unfold validB; rw [decide_eq_false h]; simp
theorem validB_last {xs : List Int} (h0 : 0 < xs.length) (h : xs[xs.length - 1]? = some 0) : validB xs = false := by
  unfold validB lastB
  have hne : xs.isEmpty = false := by cases xs with | nil => simp at h0 | cons _ _ => rfl
  rw [hne, List.getLast?_eq_getElem?, h]
  simp
theorem validB_good {xs : List Int} (hlen : xs.length ≤ 128) (h : ∀ x, xs[xs.length - 1]? = some x → x ≠ 0) (hall : xs.all digB = true) : validB xs = true := by
  unfold validB lastB
  rw [hall, decide_eq_true hlen]
  cases xs with
  | nil => rfl
  | cons y ys =>
    rw [List.getLast?_eq_getElem?]
    have hx : (y :: ys)[(y :: ys).length - 1]? = some ((y :: ys)[(y :: ys).length - 1]'(by simp)) := List.getElem?_eq_getElem _
    have := h _ hx
    rw [hx]
    simp
    simpa using this

set_option maxHeartbeats 1600000 in
theorem natValid_loop (A : Option Addr) (n c : Nat) (xs : List Int) (w : World) (h : Arr iv w w.heap.size (.slice A n c) xs) (hlen : n ≤ 128) (hlast : ∀ x, xs[xs.length - 1]? = some x → x ≠ 0) :
    Calls Tryd.prog 19 #[.slice A n c] w fun e w' => e = .returned (.bool (validB xs)) ∧ w = w' := by
  have HL := Lib.hid h.len
  have t1 : decide (128 < (n : Int)) = false := by simp; omega
  have hgo : ∀ (i0 : Prop), i0 → i0 := fun _ h => h
  have hfirst : (n = 0) ∨ ∃ b off x, A = some ⟨b, off, none⟩ ∧ w.cell? ⟨b, off + (n - 1), none⟩ = some (.int .i64 x) ∧ (x == 0) = false ∧ 0 < n := by
    by_cases h0 : n = 0
    · exact .inl h0
    · right
      obtain ⟨b, off, hA, hB0, hc0⟩ := h.some_ (by omega)
      obtain ⟨x, hxt⟩ : ∃ a, xs[n - 1]? = some a := ⟨_, List.getElem?_eq_getElem (by have := HL.out; omega)⟩
      refine ⟨b, off, x, hA, hc0 _ x hxt, ?_, by omega⟩
      have := hlast x (by rw [HL.out]; exact hxt)
      simpa using this
  have hall0 : ∀ k : Nat, k = n → (xs.take k).all digB = true → validB xs = true := fun k hk ha => by
    refine validB_good (by rw [HL.out]; exact hlen) hlast ?_
    rw [List.take_of_length_le (by rw [HL.out]; omega)] at ha
    exact ha
  have HG := Lib.hid hall0
  clear hall0 hlast hgo
  rcases hfirst with rfl | ⟨b0, o0, x0, rfl, d00, ex, hn0⟩
  · have t2 : decide ((0 : Int) < ((0 : Nat) : Int)) = false := rfl
    have HV : Hid (validB xs = true) := Lib.hid (HG.out 0 rfl rfl)
    go_enter Tryd.func19, Tryd.ntmps19
    go_wp2
    go_loop [4, 24] (fun _ i => i = .int .i64 0) (fun _ i => 0)
    case atStart => rfl
    case round =>
      subst hrel
      go_wp2
      go_ret
      exact ⟨ret_bool (by rw [HV.out]), rfl⟩
  · have t2 : decide ((0 : Int) < (n : Int)) = true := by simp; omega
    have i1 : ((n : Int) - 1).toNat = n - 1 := by omega
    have i2 : (0 : Int) ≤ (n : Int) - 1 := by omega
    have i3 : (n : Int) - 1 < (n : Int) := by omega
    go_enter Tryd.func19, Tryd.ntmps19
    go_wp2
    clear d00 i1 i2 i3
    go_loop [4, 24] (fun _ i => ∃ k : Nat, k ≤ n ∧ i = .int .i64 (k : Int) ∧ Hid ((xs.take k).all digB = true)) (fun _ i => n - (intOf i).toNat)
    case atStart => exact ⟨0, by omega, rfl, Lib.hid rfl⟩
    case round =>
      obtain ⟨k, hk, rfl, HA⟩ := hrel
      by_cases hlt : k < n
      · obtain ⟨b1, o1, e1, hB0, hc0⟩ := h.some_ (by omega)
        injection e1 with e1
        injection e1 with e1 e2 _
        subst e1 e2
        obtain ⟨x, hxt⟩ : ∃ a, xs[k]? = some a := ⟨_, List.getElem?_eq_getElem (by have := HL.out; omega)⟩
        have d0 := hc0 k x hxt
        have i0 : (k : Int) < (n : Int) := by omega
        simp only [iv] at d0
        by_cases hneg : x < 0
        · have t1 : decide (x < 0) = true := by simp; omega
          have HF := Lib.hid (all_false hxt (by unfold digB; simp; omega))
          clear hc0 hxt
          go_wp2
          go_ret
          exact ⟨ret_bool (by rw [HF.out]), rfl⟩
        · have t1 : decide (x < 0) = false := by simp; omega
          by_cases hbig : 65536 ≤ x
          · have t2 : decide (65536 ≤ x) = true := by simp; omega
            have HF := Lib.hid (all_false hxt (by unfold digB; simp; omega))
            clear hc0 hxt
            go_wp2
            go_ret
            exact ⟨ret_bool (by rw [HF.out]), rfl⟩
          · have t2 : decide (65536 ≤ x) = false := by simp; omega
            have HF : Hid ((xs.take (k + 1)).all digB = true) := Lib.hid (by rw [all_take hxt, HA.out]; unfold digB; simp; omega)
            clear hc0 hxt
            go_wp2
            go_round
            case rel => exact ⟨k + 1, by omega, by go_num, HF⟩
            case measure => simp [intOf]; omega
      · obtain rfl : k = n := by omega
        have HV : Hid (validB xs = true) := Lib.hid (HG.out k rfl HA.out)
        go_wp2
        go_ret
        exact ⟨ret_bool (by rw [HV.out]), rfl⟩

set_option maxHeartbeats 1600000 in
theorem natValid_any (A : Option Addr) (n c : Nat) (xs : List Int) (w : World) (h : Arr iv w w.heap.size (.slice A n c) xs) (hlen : n ≤ 9223372036854775807) :
    Calls Tryd.prog 19 #[.slice A n c] w fun e w' => e = .returned (.bool (validB xs)) ∧ w = w' := by
  have HL := Lib.hid h.len
  by_cases h128 : n ≤ 128
  · by_cases hl : ∀ x, xs[xs.length - 1]? = some x → x ≠ 0
    · exact natValid_loop A n c xs w h h128 hl
    · have h0 : xs[xs.length - 1]? = some 0 := by
        cases hx : xs[xs.length - 1]? with
        | none => exact absurd (fun x hh => by rw [hx] at hh; cases hh) hl
        | some x =>
          by_cases h0 : x = 0
          · rw [h0]
          · exact absurd (fun y hh => by rw [hx] at hh; injection hh with hh; rw [← hh]; exact h0) hl
      have hn0 : 0 < n := by rw [← HL.out]; have := (List.getElem?_eq_some_iff.1 h0).1; omega
      obtain ⟨b0, o0, rfl, hB0, hc0⟩ := h.some_ (by omega)
      have HV := Lib.hid (validB_last (by rw [HL.out]; exact hn0) h0)
      rw [HL.out] at h0
      have d0 := hc0 _ 0 h0
      simp only [iv] at d0
      have t1 : decide (128 < (n : Int)) = false := by simp; omega
      have t2 : decide ((0 : Int) < (n : Int)) = true := by simp; omega
      have i1 : ((n : Int) - 1).toNat = n - 1 := by omega
      have i2 : (0 : Int) ≤ (n : Int) - 1 := by omega
      have i3 : (n : Int) - 1 < (n : Int) := by omega
      clear hc0 h0 hl
      go_enter Tryd.func19, Tryd.ntmps19
      go_wp2
      go_ret
      exact ⟨ret_bool (by rw [HV.out]), rfl⟩
  · have t1 : decide (128 < (n : Int)) = true := by simp; omega
    have HV := Lib.hid (validB_long (xs := xs) (by rw [HL.out]; exact h128))
    go_enter Tryd.func19, Tryd.ntmps19
    go_wp2
    go_ret
    exact ⟨ret_bool (by rw [HV.out]), rfl⟩
theorem natValid_of (A : Option Addr) (n c : Nat) (xs : List Int) (b : Bool) (hb : validB xs = b) (w : World) (h : Arr iv w w.heap.size (.slice A n c) xs) (hlen : n ≤ 9223372036854775807) :
    Calls Tryd.prog 19 #[.slice A n c] w fun e w' => e = .returned (.bool b) ∧ w = w' := by
  subst hb
  exact natValid_any A n c xs w h hlen

set_option maxHeartbeats 800000 in
theorem isNaN_any (x : Int) (w : World) : Calls Tryd.prog 66 #[.int .i64 x] w fun e w' => e = .returned (.bool false) ∧ w = w' := by
  have t1 : (x != x) = false := by simp
  go_enter Tryd.func66, Tryd.ntmps66
  go_wp2
  go_ret
  exact ⟨rfl, rfl⟩
set_option maxHeartbeats 800000 in
theorem cmp_lt (x y : Int) (w : World) (h : x < y) : Calls Tryd.prog 46 #[.int .i64 x, .int .i64 y] w fun e w' => e = .returned (.int .i64 (-1)) ∧ w = w' := by
  have t1 : decide (x < y) = true := by simpa using h
  go_enter Tryd.func46, Tryd.ntmps46
  go_wp2_with fail
  refine (isNaN_any x _).mono ?_
  rintro e w1 ⟨rfl, rfl⟩
  go_wp2_with fail
  refine (isNaN_any y _).mono ?_
  rintro e w1 ⟨rfl, rfl⟩
  go_wp2
  go_ret
  exact ⟨rfl, rfl⟩
set_option maxHeartbeats 800000 in
theorem cmp_gt (x y : Int) (w : World) (h : y < x) : Calls Tryd.prog 46 #[.int .i64 x, .int .i64 y] w fun e w' => e = .returned (.int .i64 1) ∧ w = w' := by
  have t1 : decide (x < y) = false := by simp; omega
  have t2 : decide (y < x) = true := by simpa using h
  go_enter Tryd.func46, Tryd.ntmps46
  go_wp2_with fail
  refine (isNaN_any x _).mono ?_
  rintro e w1 ⟨rfl, rfl⟩
  go_wp2_with fail
  refine (isNaN_any y _).mono ?_
  rintro e w1 ⟨rfl, rfl⟩
  go_wp2
  go_ret
  exact ⟨rfl, rfl⟩

end Go.Proofs.YtheadamdhjhnpaaDoor
