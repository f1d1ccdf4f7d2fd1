/-
  The reference's Same, Few, Divide, Gcd.
-/
import Derived.Test.YtheadamdhjhnpaaDoorRefOps
namespace Go.Proofs.YtheadamdhjhnpaaDoor
open Go.RowKit

set_option maxHeartbeats 1600000 in
theorem same_any (A A' : Option Addr) (n n' c c' : Nat) (xs ys : List Int) (B : Nat) (w : World) (h : Arr iv w B (.slice A n c) xs) (h' : Arr iv w B (.slice A' n' c') ys) (hn : n ≤ 9223372036854775807) (hn' : n' ≤ 9223372036854775807) :
    Calls Tryd.prog 18 #[.slice A n c, .slice A' n' c'] w fun e w' => e = .returned (.bool (decide (xs = ys))) ∧ ∃ k, w' = w.drewN k := by
  have HL := Lib.hid h.len
  have HM := Lib.hid h'.len
  by_cases hnn : n = n'
  · subst hnn
    go_enter Tryd.func18, Tryd.ntmps18
    go_wp2
    go_loopw [5] (fun i wr => ∃ k q : Nat, k ≤ n ∧ i = .int .i64 (k : Int) ∧ Hid (xs.take k = ys.take k) ∧ wr = w.drewN q) (fun i _ => n - (intOf i).toNat)
    case atStart => exact ⟨0, 0, by omega, rfl, Lib.hid rfl, rfl⟩
    case round =>
      obtain ⟨k, q, hk, rfl, HT, rfl⟩ := hrel
      by_cases hlt : k < n
      · obtain ⟨b0, o0, rfl, hB0, hc0⟩ := h.some_ (by omega)
        obtain ⟨b1, o1, rfl, hB1, hc1⟩ := h'.some_ (by omega)
        obtain ⟨x, hx⟩ : ∃ a, xs[k]? = some a := ⟨_, List.getElem?_eq_getElem (by have := HL.out; omega)⟩
        obtain ⟨y, hy⟩ : ∃ a, ys[k]? = some a := ⟨_, List.getElem?_eq_getElem (by have := HM.out; omega)⟩
        have d0 := hc0 k x hx
        have d1 := hc1 k y hy
        simp only [iv] at d0 d1
        have i0 : (k : Int) < (n : Int) := by omega
        have ih0 : (0 : Int) ≤ (k : Int) := by omega
        by_cases hxy : x = y
        · subst hxy
          have t1 : (x != x) = false := by simp
          have HT2 : Hid (xs.take (k + 1) = ys.take (k + 1)) := Lib.hid (by rw [take_next hx, take_next hy, HT.out])
          clear hc0 hc1 hx hy
          go_wp2
          go_quiet (fail)
          go_wp2
          go_roundw
          case rel => exact ⟨k + 1, _, by omega, by go_num, HT2, by first | exact World.drewN_drewN _ _ _ | rfl⟩
          case measure => simp [intOf]; omega
        · have t1 : (x != y) = true := by simpa using hxy
          have HF : Hid (decide (xs = ys) = false) := Lib.hid (by
            rw [decide_eq_false]
            rintro rfl
            rw [hx] at hy
            injection hy with hy
            exact hxy hy)
          clear hc0 hc1 hx hy hxy
          go_wp2
          go_quiet (fail)
          go_wp2
          go_ret
          exact ⟨ret_bool (by rw [HF.out]), by first | exact drewN2 _ _ _ | exact ⟨_, rfl⟩⟩
      · obtain rfl : k = n := by omega
        have HF : Hid (decide (xs = ys) = true) := Lib.hid (by
          have e := HT.out
          rw [List.take_of_length_le (by have := HL.out; omega), List.take_of_length_le (by have := HM.out; omega)] at e
          rw [decide_eq_true e])
        go_wp2
        go_ret
        exact ⟨ret_bool (by rw [HF.out]), _, rfl⟩
  · have t1 : ((n : Int) != (n' : Int)) = true := by simp; omega
    have HF : Hid (decide (xs = ys) = false) := Lib.hid (by
      rw [decide_eq_false]
      rintro rfl
      exact hnn (HL.out.symm.trans HM.out))
    clear hnn
    go_enter Tryd.func18, Tryd.ntmps18
    go_wp2
    go_ret
    exact ⟨ret_bool (by rw [HF.out]), 0, rfl⟩

def fewB (n : Nat) : Bool := decide (n ≤ 40) || (decide (128 < n) && decide (n ≤ 140))
set_option maxHeartbeats 800000 in
theorem few_any (A : Option Addr) (n c : Nat) (w : World) (hn : n ≤ 9223372036854775807) :
    Calls Tryd.prog 39 #[.slice A n c] w fun e w' => e = .returned (.bool (fewB n)) ∧ w = w' := by
  by_cases h1 : n ≤ 40
  · have t1 : decide ((n : Int) ≤ 40) = true := by simp; omega
    have HF : Hid (fewB n = true) := Lib.hid (by unfold fewB; rw [decide_eq_true h1]; rfl)
    go_enter Tryd.func39, Tryd.ntmps39
    go_wp2
    go_ret
    exact ⟨ret_bool (by rw [HF.out]), rfl⟩
  · have t1 : decide ((n : Int) ≤ 40) = false := by simp; omega
    by_cases h2 : 128 < n
    · have t2 : decide (128 < (n : Int)) = true := by simp; omega
      by_cases h3 : n ≤ 140
      · have t3 : decide ((n : Int) ≤ 140) = true := by simp; omega
        have HF : Hid (fewB n = true) := Lib.hid (by unfold fewB; rw [decide_eq_true h2, decide_eq_true h3]; simp)
        go_enter Tryd.func39, Tryd.ntmps39
        go_wp2
        go_ret
        exact ⟨ret_bool (by rw [HF.out]), rfl⟩
      · have t3 : decide ((n : Int) ≤ 140) = false := by simp; omega
        have HF : Hid (fewB n = false) := Lib.hid (by unfold fewB; rw [decide_eq_false h1, decide_eq_false h3]; simp)
        go_enter Tryd.func39, Tryd.ntmps39
        go_wp2
        go_ret
        exact ⟨ret_bool (by rw [HF.out]), rfl⟩
    · have t2 : decide (128 < (n : Int)) = false := by simp; omega
      have HF : Hid (fewB n = false) := Lib.hid (by unfold fewB; rw [decide_eq_false h1, decide_eq_false h2]; rfl)
      go_enter Tryd.func39, Tryd.ntmps39
      go_wp2
      go_ret
      exact ⟨ret_bool (by rw [HF.out]), rfl⟩

/-- What Divide hands back. -/
def divQ : Option Nat → Option Nat → Except Nat Nat
  | some a, some b => if b = 0 then .error 1 else .ok (a / b)
  | _, _ => .error 1
def divR : Option Nat → Option Nat → Except Nat Nat
  | some a, some b => if b = 0 then .error 1 else .ok (a % b)
  | _, _ => .error 1
def DivEnd (q r : Except Nat Nat) (e : Ending) (w' : World) : Prop :=
  ∃ A c A' c', e = .returned (.tuple #[.slice A (resL q).length c, .slice A' (resL r).length c', .int .i64 (code q : Int)]) ∧ Arr nv w' w'.heap.size (.slice A (resL q).length c) (resL q) ∧ Arr nv w' w'.heap.size (.slice A' (resL r).length c') (resL r)
theorem DivEnd.err {w : World} (k : Nat) : DivEnd (.error k) (.error k) (.returned (.tuple #[.slice none 0 0, .slice none 0 0, .int .i64 (k : Int)])) w := ⟨none, 0, none, 0, rfl, Arr.nil_ _ _, Arr.nil_ _ _⟩
theorem DivEnd.ok {w : World} {v v' : Value} {n m : Nat} (h : Num w v n) (h' : Num w v' m) : DivEnd (.ok n) (.ok m) (.returned (.tuple #[v, v', .int .i64 0])) w := by
  obtain ⟨A, c, rfl, h1⟩ := h
  obtain ⟨A', c', rfl, h2⟩ := h'
  exact ⟨A, c, A', c', rfl, h1, h2⟩

set_option maxHeartbeats 1600000 in
theorem refDivide_any (A A' : Option Addr) (n n' c c' : Nat) (xs ys : List Int) (w : World) (h : Arr iv w w.heap.size (.slice A n c) xs) (h' : Arr iv w w.heap.size (.slice A' n' c') ys) (hn : n ≤ 9223372036854775807) (hn' : n' ≤ 9223372036854775807) :
    Calls Tryd.prog 32 #[.slice A n c, .slice A' n' c'] w fun e w' => DivEnd (divQ (numOf xs) (numOf ys)) (divR (numOf xs) (numOf ys)) e w' ∧ Below w.heap.size w w' := by
  cases hx : numOf xs with
  | none =>
    have HV := Lib.hid (numOf_none hx)
    go_enter Tryd.func32, Tryd.ntmps32
    go_wp2_with fail
    refine (valid_of A n c xs false HV.out _ h hn).mono ?_
    rintro e w1 ⟨rfl, rfl⟩
    go_wp2
    go_ret3
    exact ⟨DivEnd.err 1, Below.refl _ _⟩
  | some a =>
    obtain ⟨hv, ha, _⟩ := numOf_some hx
    have hA := arg_num h hx
    cases hy : numOf ys with
    | none =>
      have HV := Lib.hid hv
      have HV2 := Lib.hid (numOf_none hy)
      clear hv
      go_enter Tryd.func32, Tryd.ntmps32
      go_wp2_with fail
      refine (valid_of A n c xs true HV.out _ h hn).mono ?_
      rintro e w1 ⟨rfl, rfl⟩
      go_wp2_with fail
      refine (valid_of A' n' c' ys false HV2.out _ h' hn').mono ?_
      rintro e w1 ⟨rfl, rfl⟩
      go_wp2
      go_ret3
      exact ⟨DivEnd.err 1, Below.refl _ _⟩
    | some b =>
      obtain ⟨hv2, hb, hys⟩ := numOf_some hy
      have hB := arg_num h' hy
      have hlen : n' = (dg b).length := by rw [← h'.len, hys, List.length_map]
      have HV := Lib.hid hv
      have HV2 := Lib.hid hv2
      have HA := Lib.hid ha
      have HB := Lib.hid hb
      clear hv hv2 ha hb hx hy hys
      by_cases hb0 : b = 0
      · have t0 : ((n' : Int) == 0) = true := by rw [hlen, hb0, dg_zero]; rfl
        have HQ : Hid (divQ (some a) (some b) = .error 1 ∧ divR (some a) (some b) = .error 1) := Lib.hid ⟨if_pos hb0, if_pos hb0⟩
        clear hlen hb0
        go_enter Tryd.func32, Tryd.ntmps32
        go_wp2_with fail
        refine (valid_of A n c xs true HV.out _ h hn).mono ?_
        rintro e w1 ⟨rfl, rfl⟩
        go_wp2_with fail
        refine (valid_of A' n' c' ys true HV2.out _ h' hn').mono ?_
        rintro e w1 ⟨rfl, rfl⟩
        go_wp2
        go_ret3
        rw [HQ.out.1, HQ.out.2]
        exact ⟨DivEnd.err 1, Below.refl _ _⟩
      · have t0 : ((n' : Int) == 0) = false := beq_false_of_ne (by
          have : n' ≠ 0 := by rw [hlen]; intro e; exact hb0 (dg_eq_nil.1 (List.length_eq_zero_iff.1 e))
          omega)
        have HQ : Hid (divQ (some a) (some b) = .ok (a / b) ∧ divR (some a) (some b) = .ok (a % b)) := Lib.hid ⟨if_neg hb0, if_neg hb0⟩
        have HP : Hid (0 < b) := Lib.hid (Nat.pos_of_ne_zero hb0)
        clear hlen hb0
        go_enter Tryd.func32, Tryd.ntmps32
        go_wp2_with fail
        refine (valid_of A n c xs true HV.out _ h hn).mono ?_
        rintro e w1 ⟨rfl, rfl⟩
        go_wp2_with fail
        refine (valid_of A' n' c' ys true HV2.out _ h' hn').mono ?_
        rintro e w1 ⟨rfl, rfl⟩
        go_wp2_with fail
        refine (divide_num _ _ a b _ hA hB (sn_of HA.out) HP.out (sn_of HB.out)).mono ?_
        rintro e w2 ⟨q, r, rfl, hq, hr, k2⟩
        go_wp2
        go_ret3
        rw [HQ.out.1, HQ.out.2]
        exact ⟨DivEnd.ok hq hr, k2⟩

end Go.Proofs.YtheadamdhjhnpaaDoor
