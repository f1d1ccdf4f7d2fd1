/-
  The reference's Valid, limited, Same and Few.
-/
import Derived.Test.YtheadamdhjhnpaaDoorRefTimes
namespace Go.Proofs.YtheadamdhjhnpaaDoor
open Go.RowKit

/-- A digit. -/
def digB (x : Int) : Bool := decide (0 ≤ x) && decide (x < 65536)
def lastB (xs : List Int) : Bool := xs.isEmpty || decide (xs.getLast? ≠ some 0)
def validB (xs : List Int) : Bool := xs.all digB && (decide (xs.length ≤ 128) && lastB xs)

theorem all_take {xs : List Int} {k : Nat} {x : Int} (h : xs[k]? = some x) : (xs.take (k + 1)).all digB = ((xs.take k).all digB && digB x) := by
  rw [take_next h, List.all_append]; simp
theorem all_false {xs : List Int} {k : Nat} {x : Int} (h : xs[k]? = some x) (hx : digB x = false) : validB xs = false := by
  have : xs.all digB = false := by
    rw [List.all_eq_false]
    exact ⟨x, List.mem_of_getElem? h, by simp [hx]⟩
  unfold validB
  rw [this]; rfl

/-- What is valid is a number of at most 128 digits. -/
theorem validB_num {xs : List Int} (h : validB xs = true) : ∃ n, n < pw 128 ∧ xs = (dg n).map fun d : Nat => (d : Int) := by
  unfold validB at h
  rw [Bool.and_eq_true, Bool.and_eq_true, decide_eq_true_eq] at h
  obtain ⟨h1, h2, h3⟩ := h
  have hx : xs = (xs.map Int.toNat).map fun d : Nat => (d : Int) := by
    rw [List.map_map]
    conv => lhs; rw [← List.map_id xs]
    apply List.map_congr_left
    intro x hx
    have := List.all_eq_true.1 h1 x hx
    unfold digB at this
    simp at this
    simp; omega
  have hd : Dig (xs.map Int.toNat) := by
    intro d hd
    obtain ⟨x, hx, rfl⟩ := List.mem_map.1 hd
    have := List.all_eq_true.1 h1 x hx
    unfold digB at this
    simp at this
    omega
  have hc : Can (xs.map Int.toNat) := by
    refine ⟨hd, fun m d e hd0 => ?_⟩
    subst hd0
    have hne : xs ≠ [] := by rintro rfl; simp at e
    have hl : xs.getLast? = some 0 := by
      rw [hx, e]
      simp
    unfold lastB at h3
    rw [hl] at h3
    simp at h3
    exact hne h3
  refine ⟨vl (xs.map Int.toNat), ?_, ?_⟩
  · have := vl_lt hd
    rw [List.length_map] at this
    exact Nat.lt_of_lt_of_le this (Nat.pow_le_pow_right (by omega) h2)
  · rw [hc.eq]; exact hx
theorem validB_dg {n : Nat} (h : n < pw 128) : validB ((dg n).map fun d : Nat => (d : Int)) = true := by
  unfold validB
  rw [Bool.and_eq_true, Bool.and_eq_true, decide_eq_true_eq, List.length_map]
  refine ⟨List.all_eq_true.2 fun x hx => ?_, dg_len_pw h, ?_⟩
  · obtain ⟨d, hd, rfl⟩ := List.mem_map.1 hx
    have := dig_dg n d hd
    unfold digB
    simp; omega
  · unfold lastB
    cases hl : (dg n).getLast? with
    | none =>
      have := List.getLast?_eq_none_iff.1 hl
      rw [this]; rfl
    | some d =>
      obtain ⟨m, hm⟩ := List.getLast?_eq_some_iff.1 hl
      have hd := (can_dg n).2 m d hm
      rw [hm]
      simp
      omega

set_option maxHeartbeats 1600000 in
theorem refValid_any (A : Option Addr) (n c : Nat) (xs : List Int) (w : World) (h : Arr iv w w.heap.size (.slice A n c) xs) (hlen : n ≤ 9223372036854775807) :
    Calls Tryd.prog 20 #[.slice A n c] w fun e w' => e = .returned (.bool (validB xs)) ∧ w = w' := by
  have HL := Lib.hid h.len
  go_enter Tryd.func20, Tryd.ntmps20
  go_wp2
  go_loop [3] (fun i => ∃ k : Nat, k ≤ n ∧ i = .int .i64 (k : Int) ∧ Hid ((xs.take k).all digB = true)) (fun i => n - (intOf i).toNat)
  case atStart => exact ⟨0, by omega, rfl, Lib.hid rfl⟩
  case round =>
    obtain ⟨k, hk, rfl, HA⟩ := hrel
    by_cases hlt : k < n
    · obtain ⟨b0, o0, rfl, hB0, hc0⟩ := h.some_ (by omega)
      obtain ⟨x, hxt⟩ : ∃ a, xs[k]? = some a := ⟨_, List.getElem?_eq_getElem (by have := HL.out; omega)⟩
      have d0 := hc0 k x hxt
      have i0 : (k : Int) < (n : Int) := by omega
      simp only [iv] at d0
      by_cases hneg : x < 0
      · have t1 : decide (x < 0) = true := by simp; omega
        have HF := Lib.hid (all_false hxt (by unfold digB; simp; omega))
        clear hc0 hxt
        go_wp2
        go_ret
        exact ⟨ret_bool (by rw [HF.out]), rfl⟩
      · have t1 : decide (x < 0) = false := by simp; omega
        by_cases hbig : 65536 ≤ x
        · have t2 : decide (65536 ≤ x) = true := by simp; omega
          have HF := Lib.hid (all_false hxt (by unfold digB; simp; omega))
          clear hc0 hxt
          go_wp2
          go_ret
          exact ⟨ret_bool (by rw [HF.out]), rfl⟩
        · have t2 : decide (65536 ≤ x) = false := by simp; omega
          have HF : Hid ((xs.take (k + 1)).all digB = true) := Lib.hid (by rw [all_take hxt, HA.out]; unfold digB; simp; omega)
          clear hc0 hxt
          go_wp2
          go_round
          case rel => exact ⟨k + 1, by omega, by go_num, HF⟩
          case measure => simp [intOf]; omega
    · obtain rfl : k = xs.length := by have := HL.out; omega
      have hall := HA.out
      rw [List.take_length] at hall
      obtain rfl : n = xs.length := HL.out.symm
      by_cases h128 : xs.length ≤ 128
      · have t1 : decide ((xs.length : Int) ≤ 128) = true := by simp; omega
        by_cases h0 : xs.length = 0
        · have t2 : ((xs.length : Int) == 0) = true := by rw [h0]; rfl
          have HV : Hid (validB xs = true) := Lib.hid (by
            have : xs = [] := List.length_eq_zero_iff.1 h0
            subst this; rfl)
          clear hall
          go_wp2
          go_ret
          exact ⟨ret_bool (by rw [HV.out]), rfl⟩
        · have t2 : ((xs.length : Int) == 0) = false := beq_false_of_ne (by omega)
          obtain ⟨b0, o0, rfl, hB0, hc0⟩ := h.some_ (by omega)
          obtain ⟨x, hxt⟩ : ∃ a, xs[xs.length - 1]? = some a := ⟨_, List.getElem?_eq_getElem (by omega)⟩
          have d0 := hc0 _ x hxt
          simp only [iv] at d0
          have i1 : ((xs.length : Int) - 1).toNat = xs.length - 1 := by omega
          have i2 : (0 : Int) ≤ (xs.length : Int) - 1 := by omega
          have hv : validB xs = (x != 0) := by
            unfold validB lastB
            rw [hall, decide_eq_true h128]
            have hne : xs.isEmpty = false := by cases xs with | nil => simp at h0 | cons _ _ => rfl
            rw [hne, List.getLast?_eq_getElem?, hxt]
            simp [bne]
            by_cases hx0 : x = 0 <;> simp [hx0]
          have HV := Lib.hid hv
          clear hall hc0 hxt hv
          go_wp2
          go_ret
          exact ⟨ret_bool (by rw [HV.out]), rfl⟩
      · have t1 : decide ((xs.length : Int) ≤ 128) = false := by simp; omega
        have HV : Hid (validB xs = false) := Lib.hid (by unfold validB; rw [decide_eq_false h128]; simp)
        clear hall
        go_wp2
        go_ret
        exact ⟨ret_bool (by rw [HV.out]), rfl⟩

end Go.Proofs.YtheadamdhjhnpaaDoor
