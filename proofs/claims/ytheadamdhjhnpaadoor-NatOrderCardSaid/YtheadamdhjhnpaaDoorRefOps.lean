/-
  The reference's limited, Compare, Add, Sub, Mul, Divide.
-/
import Derived.Test.YtheadamdhjhnpaaDoorRefValid
namespace Go.Proofs.YtheadamdhjhnpaaDoor
open Go.RowKit

/-- The number of a list of digits that came in, if it is valid. -/
def numOf (xs : List Int) : Option Nat := if validB xs then some (vl (xs.map Int.toNat)) else none
theorem numOf_none {xs : List Int} (h : numOf xs = none) : validB xs = false := by
  unfold numOf at h
  cases hv : validB xs with
  | false => rfl
  | true => rw [hv] at h; cases h
theorem numOf_some {xs : List Int} {n : Nat} (h : numOf xs = some n) : validB xs = true ∧ n < pw 128 ∧ xs = (dg n).map fun d : Nat => (d : Int) := by
  unfold numOf at h
  cases hv : validB xs with
  | false => rw [hv] at h; cases h
  | true =>
    rw [hv] at h
    obtain ⟨m, hm, e⟩ := validB_num hv
    have h2 : vl (xs.map Int.toNat) = m := by
      rw [e, List.map_map]
      have : (Int.toNat ∘ fun d : Nat => (d : Int)) = id := by funext d; simp
      rw [this, List.map_id, vl_dg]
    simp only [if_true, Option.some.injEq] at h
    rw [h2] at h
    subst h
    exact ⟨rfl, hm, e⟩
theorem numOf_dg {n : Nat} (h : n < pw 128) : numOf ((dg n).map fun d : Nat => (d : Int)) = some n := by
  unfold numOf
  rw [validB_dg h, if_pos rfl, List.map_map]
  have : (Int.toNat ∘ fun d : Nat => (d : Int)) = id := by funext d; simp
  rw [this, List.map_id, vl_dg]
theorem sn_of {n : Nat} (h : n < pw 128) : Sn n := Nat.lt_of_lt_of_le h (pw_mono (by omega))

theorem arg_num {w : World} {A : Option Addr} {k c n : Nat} {xs : List Int} (h : Arr iv w w.heap.size (.slice A k c) xs) (hn : numOf xs = some n) : Num w (.slice A k c) n := by
  obtain ⟨_, hlt, e⟩ := numOf_some hn
  have hl := h.len
  rw [e, List.length_map] at hl
  subst hl
  rw [e] at h
  exact ⟨A, c, rfl, h.nat⟩

/-- What a function hands back: a number, or an error. -/
def resL : Except Nat Nat → List Nat
  | .ok n => dg n
  | .error _ => []
def code : Except Nat Nat → Nat
  | .ok _ => 0
  | .error e => e
def ResEnd (r : Except Nat Nat) (e : Ending) (w' : World) : Prop :=
  ∃ A c, e = .returned (.tuple #[.slice A (resL r).length c, .int .i64 (code r : Int)]) ∧ Arr nv w' w'.heap.size (.slice A (resL r).length c) (resL r)
theorem ResEnd.err {w : World} (k : Nat) : ResEnd (.error k) (.returned (.tuple #[.slice none 0 0, .int .i64 (k : Int)])) w := ⟨none, 0, rfl, Arr.nil_ _ _⟩
theorem ResEnd.ok {w : World} {v : Value} {n : Nat} (h : Num w v n) : ResEnd (.ok n) (.returned (.tuple #[v, .int .i64 0])) w := by
  obtain ⟨A, c, rfl, h1⟩ := h
  exact ⟨A, c, rfl, h1⟩

def limit (n : Nat) : Except Nat Nat := if n < pw 128 then .ok n else .error 3
theorem limit_ok {n : Nat} (h : (dg n).length ≤ 128) : limit n = .ok n := by
  have h2 : n < pw 128 := dg_length.1 h
  unfold limit
  rw [if_pos h2]
def addR : Option Nat → Option Nat → Except Nat Nat
  | some a, some b => limit (a + b)
  | _, _ => .error 1
def subR : Option Nat → Option Nat → Except Nat Nat
  | some a, some b => if b ≤ a then .ok (a - b) else .error 2
  | _, _ => .error 1
def mulR : Option Nat → Option Nat → Except Nat Nat
  | some a, some b => limit (a * b)
  | _, _ => .error 1
def cmpR : Option Nat → Option Nat → Int
  | some a, some b => cmpN a b
  | _, _ => 0

set_option maxHeartbeats 1600000 in
theorem limited_num (W : World) (v : Value) (n : Nat) (w : World) (hk : Below W.heap.size W w) (h : Num w v n) (hn : Sm n) :
    Calls Tryd.prog 51 #[v] w fun e w' => ResEnd (limit n) e w' ∧ Below W.heap.size W w' := by
  obtain ⟨A, c, rfl, h1⟩ := h
  have l1 := hn.len
  have HT : Hid (tr (dg n) = dg n) := Lib.hid (by rw [tr_eq _ (dig_dg n), vl_dg])
  have HK : Hid (Below W.heap.size W w) := Lib.hid hk
  go_enter Tryd.func51, Tryd.ntmps51
  go_wp2_with fail
  refine (trim_at W A _ c _ _ _ hk h1 HT.out (by omega)).mono ?_
  rintro e w1 ⟨A1, c1, rfl, h2, k2⟩
  by_cases hl : (dg n).length ≤ 128
  · have t1 : decide (128 < ((dg n).length : Int)) = false := by simp; omega
    have HR : Hid (limit n = .ok n) := Lib.hid (limit_ok hl)
    go_wp2
    go_ret2
    rw [HR.out]
    exact ⟨ResEnd.ok ⟨A1, c1, rfl, h2⟩, k2⟩
  · have t1 : decide (128 < ((dg n).length : Int)) = true := by simp; omega
    have HR : Hid (limit n = .error 3) := Lib.hid (by unfold limit; rw [if_neg (fun hc => hl (dg_len_pw hc))])
    go_wp2
    go_ret2
    rw [HR.out]
    exact ⟨ResEnd.err 3, k2⟩

theorem valid_of (A : Option Addr) (n c : Nat) (xs : List Int) (b : Bool) (hb : validB xs = b) (w : World) (h : Arr iv w w.heap.size (.slice A n c) xs) (hlen : n ≤ 9223372036854775807) :
    Calls Tryd.prog 20 #[.slice A n c] w fun e w' => e = .returned (.bool b) ∧ w = w' := by
  subst hb
  exact refValid_any A n c xs w h hlen

theorem sn_add {a b : Nat} (h : a < pw 128) (h' : b < pw 128) : Sm (a + b) := by
  have := pw_two (show 128 < 1000 by omega)
  unfold Sm
  generalize pw 1000 = x at *
  generalize pw 128 = y at *
  omega
theorem sn_mul {a b : Nat} (h : a < pw 128) (h' : b < pw 128) : Sm (a * b) := by
  have h1 : a * b < pw 128 * pw 128 := Nat.mul_lt_mul'' h h'
  have h2 : pw 128 * pw 128 = pw 256 := by unfold pw; rw [← Nat.pow_add]
  rw [h2] at h1
  exact Nat.lt_of_lt_of_le h1 (pw_mono (by omega))

theorem times_num (W : World) (v v' : Value) (n m : Nat) (w : World) (hk : Below W.heap.size W w) (h : Num w v n) (h' : Num w v' m) (hn : Sm n) (hm : Sm m) :
    Calls Tryd.prog 56 #[v, v'] w fun e w' => ∃ r, e = .returned r ∧ Num w' r (n * m) ∧ Below W.heap.size W w' ∧ Below w.heap.size w w' := by
  obtain ⟨A, c, rfl, h1⟩ := h
  obtain ⟨A', c', rfl, h2⟩ := h'
  have l1 := hn.len
  have l2 := hm.len
  refine (times_any A A' _ _ c c' (dg n) (dg m) w h1 h2 (dig_dg n) (dig_dg m) (by omega) (by omega)).mono fun e w' h => ?_
  rw [vl_dg, vl_dg] at h
  obtain ⟨r, e1, e2, e3⟩ := Num.of_new h
  exact ⟨r, e1, e2, below_next hk e3, e3⟩

set_option maxHeartbeats 1600000 in
theorem refAdd_any (A A' : Option Addr) (n n' c c' : Nat) (xs ys : List Int) (w : World) (h : Arr iv w w.heap.size (.slice A n c) xs) (h' : Arr iv w w.heap.size (.slice A' n' c') ys) (hn : n ≤ 9223372036854775807) (hn' : n' ≤ 9223372036854775807) :
    Calls Tryd.prog 26 #[.slice A n c, .slice A' n' c'] w fun e w' => ResEnd (addR (numOf xs) (numOf ys)) e w' ∧ Below w.heap.size w w' := by
  cases hx : numOf xs with
  | none =>
    have hv := numOf_none hx
    have HV := Lib.hid hv
    clear hv
    go_enter Tryd.func26, Tryd.ntmps26
    go_wp2_with fail
    refine (valid_of A n c xs false HV.out _ h hn).mono ?_
    rintro e w1 ⟨rfl, rfl⟩
    go_wp2
    go_ret2
    exact ⟨ResEnd.err 1, Below.refl _ _⟩
  | some a =>
    obtain ⟨hv, ha, _⟩ := numOf_some hx
    have hA := arg_num h hx
    cases hy : numOf ys with
    | none =>
      have HV := Lib.hid hv
      have HV2 := Lib.hid (numOf_none hy)
      clear hv
      go_enter Tryd.func26, Tryd.ntmps26
      go_wp2_with fail
      refine (valid_of A n c xs true HV.out _ h hn).mono ?_
      rintro e w1 ⟨rfl, rfl⟩
      go_wp2_with fail
      refine (valid_of A' n' c' ys false HV2.out _ h' hn').mono ?_
      rintro e w1 ⟨rfl, rfl⟩
      go_wp2
      go_ret2
      exact ⟨ResEnd.err 1, Below.refl _ _⟩
    | some b =>
      obtain ⟨hv2, hb, _⟩ := numOf_some hy
      have hB := arg_num h' hy
      have HV := Lib.hid hv
      have HV2 := Lib.hid hv2
      have HA := Lib.hid ha
      have HB := Lib.hid hb
      clear hv hv2 ha hb hx hy
      go_enter Tryd.func26, Tryd.ntmps26
      go_wp2_with fail
      refine (valid_of A n c xs true HV.out _ h hn).mono ?_
      rintro e w1 ⟨rfl, rfl⟩
      go_wp2_with fail
      refine (valid_of A' n' c' ys true HV2.out _ h' hn').mono ?_
      rintro e w1 ⟨rfl, rfl⟩
      go_wp2_with fail
      refine (sum_num w _ _ a b _ (Below.refl _ _) hA hB (sn_of HA.out).sm (sn_of HB.out).sm).mono ?_
      rintro e w2 ⟨r2, rfl, h2, k2, _⟩
      go_wp2_with fail
      refine (limited_num w r2 _ _ k2 h2 (sn_add HA.out HB.out)).mono ?_
      rintro e w3 ⟨⟨A3, c3, rfl, h3⟩, k3⟩
      go_wp2
      go_ret2
      exact ⟨⟨A3, c3, rfl, h3⟩, k3⟩
set_option maxHeartbeats 1600000 in
theorem refMul_any (A A' : Option Addr) (n n' c c' : Nat) (xs ys : List Int) (w : World) (h : Arr iv w w.heap.size (.slice A n c) xs) (h' : Arr iv w w.heap.size (.slice A' n' c') ys) (hn : n ≤ 9223372036854775807) (hn' : n' ≤ 9223372036854775807) :
    Calls Tryd.prog 30 #[.slice A n c, .slice A' n' c'] w fun e w' => ResEnd (mulR (numOf xs) (numOf ys)) e w' ∧ Below w.heap.size w w' := by
  cases hx : numOf xs with
  | none =>
    have hv := numOf_none hx
    have HV := Lib.hid hv
    clear hv
    go_enter Tryd.func30, Tryd.ntmps30
    go_wp2_with fail
    refine (valid_of A n c xs false HV.out _ h hn).mono ?_
    rintro e w1 ⟨rfl, rfl⟩
    go_wp2
    go_ret2
    exact ⟨ResEnd.err 1, Below.refl _ _⟩
  | some a =>
    obtain ⟨hv, ha, _⟩ := numOf_some hx
    have hA := arg_num h hx
    cases hy : numOf ys with
    | none =>
      have HV := Lib.hid hv
      have HV2 := Lib.hid (numOf_none hy)
      clear hv
      go_enter Tryd.func30, Tryd.ntmps30
      go_wp2_with fail
      refine (valid_of A n c xs true HV.out _ h hn).mono ?_
      rintro e w1 ⟨rfl, rfl⟩
      go_wp2_with fail
      refine (valid_of A' n' c' ys false HV2.out _ h' hn').mono ?_
      rintro e w1 ⟨rfl, rfl⟩
      go_wp2
      go_ret2
      exact ⟨ResEnd.err 1, Below.refl _ _⟩
    | some b =>
      obtain ⟨hv2, hb, _⟩ := numOf_some hy
      have hB := arg_num h' hy
      have HV := Lib.hid hv
      have HV2 := Lib.hid hv2
      have HA := Lib.hid ha
      have HB := Lib.hid hb
      clear hv hv2 ha hb hx hy
      go_enter Tryd.func30, Tryd.ntmps30
      go_wp2_with fail
      refine (valid_of A n c xs true HV.out _ h hn).mono ?_
      rintro e w1 ⟨rfl, rfl⟩
      go_wp2_with fail
      refine (valid_of A' n' c' ys true HV2.out _ h' hn').mono ?_
      rintro e w1 ⟨rfl, rfl⟩
      go_wp2_with fail
      refine (times_num w _ _ a b _ (Below.refl _ _) hA hB (sn_of HA.out).sm (sn_of HB.out).sm).mono ?_
      rintro e w2 ⟨r2, rfl, h2, k2, _⟩
      go_wp2_with fail
      refine (limited_num w r2 _ _ k2 h2 (sn_mul HA.out HB.out)).mono ?_
      rintro e w3 ⟨⟨A3, c3, rfl, h3⟩, k3⟩
      go_wp2
      go_ret2
      exact ⟨⟨A3, c3, rfl, h3⟩, k3⟩
theorem cmpN_neg (n m : Nat) : decide (cmpN n m < 0) = decide (n < m) := by
  unfold cmpN
  by_cases h : n < m
  · rw [if_pos h]; simp; omega
  · rw [if_neg h]
    by_cases h2 : m < n
    · rw [if_pos h2]; simp; omega
    · rw [if_neg h2]; simp; omega

set_option maxHeartbeats 1600000 in
theorem refSub_any (A A' : Option Addr) (n n' c c' : Nat) (xs ys : List Int) (w : World) (h : Arr iv w w.heap.size (.slice A n c) xs) (h' : Arr iv w w.heap.size (.slice A' n' c') ys) (hn : n ≤ 9223372036854775807) (hn' : n' ≤ 9223372036854775807) :
    Calls Tryd.prog 28 #[.slice A n c, .slice A' n' c'] w fun e w' => ResEnd (subR (numOf xs) (numOf ys)) e w' ∧ Below w.heap.size w w' := by
  cases hx : numOf xs with
  | none =>
    have hv := numOf_none hx
    have HV := Lib.hid hv
    clear hv
    go_enter Tryd.func28, Tryd.ntmps28
    go_wp2_with fail
    refine (valid_of A n c xs false HV.out _ h hn).mono ?_
    rintro e w1 ⟨rfl, rfl⟩
    go_wp2
    go_ret2
    exact ⟨ResEnd.err 1, Below.refl _ _⟩
  | some a =>
    obtain ⟨hv, ha, _⟩ := numOf_some hx
    have hA := arg_num h hx
    cases hy : numOf ys with
    | none =>
      have HV := Lib.hid hv
      have HV2 := Lib.hid (numOf_none hy)
      clear hv
      go_enter Tryd.func28, Tryd.ntmps28
      go_wp2_with fail
      refine (valid_of A n c xs true HV.out _ h hn).mono ?_
      rintro e w1 ⟨rfl, rfl⟩
      go_wp2_with fail
      refine (valid_of A' n' c' ys false HV2.out _ h' hn').mono ?_
      rintro e w1 ⟨rfl, rfl⟩
      go_wp2
      go_ret2
      exact ⟨ResEnd.err 1, Below.refl _ _⟩
    | some b =>
      obtain ⟨hv2, hb, _⟩ := numOf_some hy
      have hB := arg_num h' hy
      have HV := Lib.hid hv
      have HV2 := Lib.hid hv2
      have HA := Lib.hid ha
      have HB := Lib.hid hb
      clear hv hv2 ha hb hx hy
      go_enter Tryd.func28, Tryd.ntmps28
      go_wp2_with fail
      refine (valid_of A n c xs true HV.out _ h hn).mono ?_
      rintro e w1 ⟨rfl, rfl⟩
      go_wp2_with fail
      refine (valid_of A' n' c' ys true HV2.out _ h' hn').mono ?_
      rintro e w1 ⟨rfl, rfl⟩
      go_wp2_with fail
      refine (compare_num _ _ a b _ hA hB (sn_of HA.out).sm (sn_of HB.out).sm).mono ?_
      rintro e w2 ⟨rfl, q, rfl⟩
      have hc := cmpN_neg a b
      by_cases hle : b ≤ a
      · rw [decide_eq_false (show ¬ a < b by omega)] at hc
        have HR : Hid (subR (some a) (some b) = .ok (a - b)) := Lib.hid (if_pos hle)
        have HLE := Lib.hid hle
        clear hle
        go_wp2_with fail
        refine (less_num w _ _ a b _ (below_drewN (Below.refl _ _) q) (hA.drewN q) (hB.drewN q) (sn_of HA.out).sm HLE.out).mono ?_
        rintro e w3 ⟨r3, rfl, h3, k3, _⟩
        go_wp2
        go_ret2
        rw [HR.out]
        exact ⟨ResEnd.ok h3, k3⟩
      · rw [decide_eq_true (show a < b by omega)] at hc
        have HR : Hid (subR (some a) (some b) = .error 2) := Lib.hid (if_neg hle)
        clear hle
        go_wp2
        go_ret2
        rw [HR.out]
        exact ⟨ResEnd.err 2, below_drewN (Below.refl _ _) q⟩
set_option maxHeartbeats 1600000 in
theorem refCompare_any (A A' : Option Addr) (n n' c c' : Nat) (xs ys : List Int) (w : World) (h : Arr iv w w.heap.size (.slice A n c) xs) (h' : Arr iv w w.heap.size (.slice A' n' c') ys) (hn : n ≤ 9223372036854775807) (hn' : n' ≤ 9223372036854775807) :
    Calls Tryd.prog 22 #[.slice A n c, .slice A' n' c'] w fun e w' => e = .returned (.int .i64 (cmpR (numOf xs) (numOf ys))) ∧ Below w.heap.size w w' := by
  cases hx : numOf xs with
  | none =>
    have hv := numOf_none hx
    have HV := Lib.hid hv
    clear hv
    go_enter Tryd.func22, Tryd.ntmps22
    go_wp2_with fail
    refine (valid_of A n c xs false HV.out _ h hn).mono ?_
    rintro e w1 ⟨rfl, rfl⟩
    go_wp2
    go_ret
    exact ⟨rfl, Below.refl _ _⟩
  | some a =>
    obtain ⟨hv, ha, _⟩ := numOf_some hx
    have hA := arg_num h hx
    cases hy : numOf ys with
    | none =>
      have HV := Lib.hid hv
      have HV2 := Lib.hid (numOf_none hy)
      clear hv
      go_enter Tryd.func22, Tryd.ntmps22
      go_wp2_with fail
      refine (valid_of A n c xs true HV.out _ h hn).mono ?_
      rintro e w1 ⟨rfl, rfl⟩
      go_wp2_with fail
      refine (valid_of A' n' c' ys false HV2.out _ h' hn').mono ?_
      rintro e w1 ⟨rfl, rfl⟩
      go_wp2
      go_ret
      exact ⟨rfl, Below.refl _ _⟩
    | some b =>
      obtain ⟨hv2, hb, _⟩ := numOf_some hy
      have hB := arg_num h' hy
      have HV := Lib.hid hv
      have HV2 := Lib.hid hv2
      have HA := Lib.hid ha
      have HB := Lib.hid hb
      clear hv hv2 ha hb hx hy
      go_enter Tryd.func22, Tryd.ntmps22
      go_wp2_with fail
      refine (valid_of A n c xs true HV.out _ h hn).mono ?_
      rintro e w1 ⟨rfl, rfl⟩
      go_wp2_with fail
      refine (valid_of A' n' c' ys true HV2.out _ h' hn').mono ?_
      rintro e w1 ⟨rfl, rfl⟩
      go_wp2_with fail
      refine (compare_num _ _ a b _ hA hB (sn_of HA.out).sm (sn_of HB.out).sm).mono ?_
      rintro e w2 ⟨rfl, q, rfl⟩
      go_wp2
      go_ret
      exact ⟨rfl, below_drewN (Below.refl _ _) q⟩

end Go.Proofs.YtheadamdhjhnpaaDoor
