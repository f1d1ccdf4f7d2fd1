/-
  The program's Compare.
-/
import Derived.Test.YtheadamdhjhnpaaDoorValid
import Derived.Deep.RegionHeld3
import Derived.Deep.RegionLaw
namespace Go.Proofs.YtheadamdhjhnpaaDoor
open Go.RowKit

theorem below_of_drew {w w' : World} (h : ∃ k, w' = w.drewN k) : Below w.heap.size w w' := by
  obtain ⟨k, rfl⟩ := h
  exact below_drewN (Below.refl _ _) k

set_option maxHeartbeats 3200000 in
theorem natCompare_good (A A' : Option Addr) (n n' c c' a b : Nat) (xs ys : List Int) (w : World) (h : Arr iv w w.heap.size (.slice A n c) xs) (h' : Arr iv w w.heap.size (.slice A' n' c') ys) (hx : numOf xs = some a) (hy : numOf ys = some b) :
    Calls Tryd.prog 21 #[.slice A n c, .slice A' n' c'] w fun e w' => e = .returned (.int .i64 (cmpN a b)) ∧ ∃ k, w' = w.drewN k := by
  obtain ⟨hv, ha, hxs⟩ := numOf_some hx
  obtain ⟨hv2, hb, hys⟩ := numOf_some hy
  have hA : Arr nv w w.heap.size (.slice A n c) (dg a) := by
    have h2 := h
    rw [hxs] at h2
    exact h2.nat
  have hB : Arr nv w w.heap.size (.slice A' n' c') (dg b) := by
    have h2 := h'
    rw [hys] at h2
    exact h2.nat
  have HL := Lib.hid hA.len
  have HM := Lib.hid hB.len
  have HV := Lib.hid hv
  have HV2 := Lib.hid hv2
  have l1 := dg_len_pw ha
  have l2 := dg_len_pw hb
  rw [HL.out] at l1
  rw [HM.out] at l2
  clear hv hv2 ha hb hx hy hxs hys
  by_cases hnn : n = n'
  · subst hnn
    have tn : ((n : Int) != (n : Int)) = false := by simp
    go_enter Tryd.func21, Tryd.ntmps21
    go_wp2_with fail
    refine (natValid_of A n c xs true HV.out _ h (by omega)).mono ?_
    rintro e w1 ⟨rfl, rfl⟩
    go_wp2_with fail
    refine (natValid_of A' n c' ys true HV2.out _ h' (by omega)).mono ?_
    rintro e w1 ⟨rfl, rfl⟩
    go_wp2
    go_loopw [5, 6, 27] (fun _ _ i wr => ∃ j k q : Nat, k + j = n ∧ i = .int .i64 (j : Int) ∧ Hid ((dg a).drop k = (dg b).drop k) ∧ wr = w.drewN q) (fun _ _ i _ => n - (intOf i).toNat)
    case atStart => exact ⟨0, n, 0, by omega, rfl, Lib.hid (by rw [List.drop_of_length_le (by have := HL.out; omega), List.drop_of_length_le (by have := HM.out; omega)]), rfl⟩
    case round =>
      obtain ⟨j, k, q, hk, rfl, HD, rfl⟩ := hrel
      cases k with
      | zero =>
        obtain rfl : j = n := by omega
        have e : dg a = dg b := by have := HD.out; simpa using this
        have e2 : a = b := by rw [← vl_dg a, e, vl_dg]
        have HE := Lib.hid (e2 ▸ cmpN_eq a : cmpN a b = 0)
        clear e e2
        go_wp2
        go_ret
        exact ⟨ret_int (by rw [HE.out]), by first | exact drewN2 _ _ _ | exact drewN3 _ _ _ _ | exact ⟨_, rfl⟩⟩
      | succ k =>
        obtain ⟨b0, o0, rfl, hB0, hc0⟩ := hA.some_ (by omega)
        obtain ⟨b1, o1, rfl, hB1, hc1⟩ := hB.some_ (by omega)
        obtain ⟨x, hat⟩ : ∃ x, (dg a)[k]? = some x := ⟨_, List.getElem?_eq_getElem (by have := HL.out; omega)⟩
        obtain ⟨y, hbt⟩ : ∃ x, (dg b)[k]? = some x := ⟨_, List.getElem?_eq_getElem (by have := HM.out; omega)⟩
        have d0 := hc0 k x hat
        have d1 := hc1 k y hbt
        simp only [nv] at d0 d1
        have i0 : (j : Int) < (n : Int) := by omega
        have i1 : (n : Int) - 1 - (j : Int) = (k : Int) := by omega
        have s1 : IntKind.i64.wrap ((n : Int) - 1) = (n : Int) - 1 := wraps_i64 _ (by omega) (by omega)
        have s2 : IntKind.i64.wrap ((n : Int) - 1 - (j : Int)) = (k : Int) := by rw [i1]; exact wraps_i64 _ (by omega) (by omega)
        have i2 : (k : Int) < (n : Int) := by omega
        have i3 : (0 : Int) ≤ (k : Int) := by omega
        rcases Nat.lt_trichotomy x y with hab | hab | hab
        · have ta : ((x : Int) != (y : Int)) = true := by simp; omega
          have HE := Lib.hid (cmp_at (dig_dg a) hat hbt HD.out hab)
          have HE2 : Hid (cmpN a b = -1) := Lib.hid (cmpN_lt (by have := HE.out; rwa [vl_dg, vl_dg] at this))
          have hxy : (x : Int) < (y : Int) := by omega
          clear hc0 hc1 hat hbt hab HE
          go_wp2
          go_quiet (fail)
          go_wp2
          go_region_held3 (fun v => v.cell? ⟨b0, o0 + k, none⟩ = some (.int .i64 (x : Int)) ∧ v.cell? ⟨b1, o1 + k, none⟩ = some (.int .i64 (y : Int))) (exact ⟨d0, d1⟩)
            (first | (go_at_call 46; (with_reducible refine (cmp_lt _ _ _ hxy).mono ?_); rintro e w1 ⟨rfl, rfl⟩))
          go_wp2
          go_ret
          exact ⟨ret_int (by rw [HE2.out]), _, rfl⟩
        · subst hab
          have ta : ((x : Int) != (x : Int)) = false := by simp
          have HE := Lib.hid (drop_step hat hbt HD.out)
          clear hc0 hc1 hat hbt
          go_wp2
          go_quiet (fail)
          go_wp2
          go_roundw
          case rel => exact ⟨j + 1, k, _, by omega, by go_num, HE, by first | exact World.drewN_drewN _ _ _ | rfl⟩
          case measure => simp [intOf]; omega
        · have ta : ((x : Int) != (y : Int)) = true := by simp; omega
          have HE := Lib.hid (cmp_at (dig_dg b) hbt hat HD.out.symm hab)
          have HE2 : Hid (cmpN a b = 1) := Lib.hid (cmpN_gt (by have := HE.out; rwa [vl_dg, vl_dg] at this))
          have hxy : (y : Int) < (x : Int) := by omega
          clear hc0 hc1 hat hbt hab HE
          go_wp2
          go_quiet (fail)
          go_wp2
          go_region_held3 (fun v => v.cell? ⟨b0, o0 + k, none⟩ = some (.int .i64 (x : Int)) ∧ v.cell? ⟨b1, o1 + k, none⟩ = some (.int .i64 (y : Int))) (exact ⟨d0, d1⟩)
            (first | (go_at_call 46; (with_reducible refine (cmp_gt _ _ _ hxy).mono ?_); rintro e w1 ⟨rfl, rfl⟩))
          go_wp2
          go_ret
          exact ⟨ret_int (by rw [HE2.out]), _, rfl⟩
  · have tn : ((n : Int) != (n' : Int)) = true := by simp; omega
    by_cases hlt : n < n'
    · have hxy : (n : Int) < (n' : Int) := by omega
      have HE : Hid (cmpN a b = -1) := Lib.hid (cmpN_lt (by
        have := vl_lt_of_length (dig_dg a) (can_dg b) (by have := HL.out; have := HM.out; omega)
        rwa [vl_dg, vl_dg] at this))
      clear hnn hlt
      go_enter Tryd.func21, Tryd.ntmps21
      go_wp2_with fail
      refine (natValid_of A n c xs true HV.out _ h (by omega)).mono ?_
      rintro e w1 ⟨rfl, rfl⟩
      go_wp2_with fail
      refine (natValid_of A' n' c' ys true HV2.out _ h' (by omega)).mono ?_
      rintro e w1 ⟨rfl, rfl⟩
      go_wp2_with fail
      refine (cmp_lt _ _ _ hxy).mono ?_
      rintro e w1 ⟨rfl, rfl⟩
      go_wp2
      go_ret
      exact ⟨ret_int (by rw [HE.out]), 0, rfl⟩
    · have hxy : (n' : Int) < (n : Int) := by omega
      have HE : Hid (cmpN a b = 1) := Lib.hid (cmpN_gt (by
        have := vl_lt_of_length (dig_dg b) (can_dg a) (by have := HL.out; have := HM.out; omega)
        rwa [vl_dg, vl_dg] at this))
      clear hnn hlt
      go_enter Tryd.func21, Tryd.ntmps21
      go_wp2_with fail
      refine (natValid_of A n c xs true HV.out _ h (by omega)).mono ?_
      rintro e w1 ⟨rfl, rfl⟩
      go_wp2_with fail
      refine (natValid_of A' n' c' ys true HV2.out _ h' (by omega)).mono ?_
      rintro e w1 ⟨rfl, rfl⟩
      go_wp2_with fail
      refine (cmp_gt _ _ _ hxy).mono ?_
      rintro e w1 ⟨rfl, rfl⟩
      go_wp2
      go_ret
      exact ⟨ret_int (by rw [HE.out]), 0, rfl⟩

set_option maxHeartbeats 1600000 in
theorem natCompare_any (A A' : Option Addr) (n n' c c' : Nat) (xs ys : List Int) (w : World) (h : Arr iv w w.heap.size (.slice A n c) xs) (h' : Arr iv w w.heap.size (.slice A' n' c') ys) (hn : n ≤ 9223372036854775807) (hn' : n' ≤ 9223372036854775807) :
    Calls Tryd.prog 21 #[.slice A n c, .slice A' n' c'] w fun e w' => e = .returned (.int .i64 (cmpR (numOf xs) (numOf ys))) ∧ Below w.heap.size w w' := by
  cases hx : numOf xs with
  | none =>
    have HV := Lib.hid (numOf_none hx)
    go_enter Tryd.func21, Tryd.ntmps21
    go_wp2_with fail
    refine (natValid_of A n c xs false HV.out _ h hn).mono ?_
    rintro e w1 ⟨rfl, rfl⟩
    go_wp2
    go_ret
    exact ⟨rfl, Below.refl _ _⟩
  | some a =>
    cases hy : numOf ys with
    | none =>
      have HV := Lib.hid (numOf_some hx).1
      have HV2 := Lib.hid (numOf_none hy)
      go_enter Tryd.func21, Tryd.ntmps21
      go_wp2_with fail
      refine (natValid_of A n c xs true HV.out _ h hn).mono ?_
      rintro e w1 ⟨rfl, rfl⟩
      go_wp2_with fail
      refine (natValid_of A' n' c' ys false HV2.out _ h' hn').mono ?_
      rintro e w1 ⟨rfl, rfl⟩
      go_wp2
      go_ret
      exact ⟨rfl, Below.refl _ _⟩
    | some b =>
      exact (natCompare_good A A' n n' c c' a b xs ys w h h' hx hy).mono fun _ _ ⟨h1, h2⟩ => ⟨h1, below_of_drew h2⟩

end Go.Proofs.YtheadamdhjhnpaaDoor
