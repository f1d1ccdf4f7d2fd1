/-
  The reference's divide.
-/
import Derived.Test.YtheadamdhjhnpaaDoorRefHalf
namespace Go.Proofs.YtheadamdhjhnpaaDoor
open Go.RowKit

/-- In w, the slice v is the digits of n. -/
def Num (w : World) (v : Value) (n : Nat) : Prop := ∃ A c, v = .slice A (dg n).length c ∧ Arr nv w w.heap.size (.slice A (dg n).length c) (dg n)
theorem Num.up {w w' : World} {v : Value} {n : Nat} (h : Num w v n) (hb : Below w.heap.size w w') : Num w' v n := by
  obtain ⟨A, c, e, h1⟩ := h
  exact ⟨A, c, e, h1.up hb⟩
theorem Num.drewN {w : World} {v : Value} {n : Nat} (h : Num w v n) (k : Nat) : Num (w.drewN k) v n := h
theorem Num.zero (w : World) : Num w (.slice none 0 0) 0 := ⟨none, 0, by rw [dg_zero]; rfl, by rw [dg_zero]; exact Arr.nil_ _ _⟩
theorem Num.of_new {w w' : World} {n : Nat} {e : Ending} (h : NewInts w (dg n) e w') : ∃ v, e = .returned v ∧ Num w' v n ∧ Below w.heap.size w w' := by
  obtain ⟨A, c, h1, h2, h3⟩ := h
  exact ⟨_, h1, ⟨A, c, rfl, h2⟩, h3⟩
theorem Num.of_arr {w : World} {A : Option Addr} {n c : Nat} {l : List Nat} (h : Arr nv w w.heap.size (.slice A n c) l) (hc : Can l) : Num w (.slice A n c) (vl l) := by
  have hl := h.len
  subst hl
  have e := hc.eq
  exact ⟨A, c, by rw [e], by rw [e]; exact h⟩

/-- A power of the base, as a name. -/
def pw (k : Nat) : Nat := 65536 ^ k
/-- Numbers of at most 1000, and of at most 200 digits. -/
def Sm (n : Nat) : Prop := n < pw 1000
def Sn (n : Nat) : Prop := n < pw 200
theorem dg_len_pw {n k : Nat} (h : n < pw k) : (dg n).length ≤ k := dg_length.2 h
theorem Sm.len {n : Nat} (h : Sm n) : (dg n).length ≤ 1000 := dg_len_pw (k := 1000) h
theorem lt_le {a n m : Nat} (h : n < a) (hm : m ≤ n) : m < a := Nat.lt_of_le_of_lt hm h
theorem Sm.less {n m : Nat} (h : Sm n) (hm : m ≤ n) : Sm m := lt_le (a := pw 1000) h hm
theorem dg_len_mono {n m : Nat} (h : m ≤ n) : (dg m).length ≤ (dg n).length := dg_length.2 (Nat.lt_of_le_of_lt h (dg_length.1 (Nat.le_refl _)))

theorem dg_one : dg 1 = [1] := by rw [dg_pos (by omega), show 1 / 65536 = 0 from rfl, dg_zero]
theorem Num.one (w : World) : Num (w.alloc (.cells #[.int .i64 1] 3)) (.slice (some ⟨w.heap.size, 0, none⟩) 1 1) 1 := by
  refine ⟨_, 1, by rw [dg_one]; rfl, ?_⟩
  rw [dg_one]
  refine (Arr.of_box (Box.made w 3 #[.int .i64 1]) rfl (Nat.le_refl _) ?_).more (by simp)
  intro i u hu
  cases i with
  | zero => simp at hu; subst hu; rfl
  | succ i => simp at hu

/-! The calls on numbers, from a fixed base. -/
theorem sum_num (W : World) (v v' : Value) (n m : Nat) (w : World) (hk : Below W.heap.size W w) (h : Num w v n) (h' : Num w v' m) (hn : Sm n) (hm : Sm m) :
    Calls Tryd.prog 52 #[v, v'] w fun e w' => ∃ r, e = .returned r ∧ Num w' r (n + m) ∧ Below W.heap.size W w' ∧ Below w.heap.size w w' := by
  obtain ⟨A, c, rfl, h1⟩ := h
  obtain ⟨A', c', rfl, h2⟩ := h'
  have l1 := hn.len
  have l2 := hm.len
  refine (sum_any A A' _ _ c c' (dg n) (dg m) w h1 h2 (dig_dg n) (dig_dg m) (by omega) (by omega)).mono fun e w' h => ?_
  rw [vl_dg, vl_dg] at h
  obtain ⟨r, e1, e2, e3⟩ := Num.of_new h
  exact ⟨r, e1, e2, below_next hk e3, e3⟩
theorem less_num (W : World) (v v' : Value) (n m : Nat) (w : World) (hk : Below W.heap.size W w) (h : Num w v n) (h' : Num w v' m) (hn : Sm n) (hm : m ≤ n) :
    Calls Tryd.prog 54 #[v, v'] w fun e w' => ∃ r, e = .returned r ∧ Num w' r (n - m) ∧ Below W.heap.size W w' ∧ Below w.heap.size w w' := by
  obtain ⟨A, c, rfl, h1⟩ := h
  obtain ⟨A', c', rfl, h2⟩ := h'
  have l1 := hn.len
  have l2 : (dg m).length ≤ (dg n).length := dg_len_mono hm
  refine (less_any A A' _ _ c c' (dg n) (dg m) w h1 h2 (dig_dg n) (dig_dg m) (by omega) l2 (by rw [vl_dg, vl_dg]; exact hm)).mono fun e w' h => ?_
  rw [vl_dg, vl_dg] at h
  obtain ⟨r, e1, e2, e3⟩ := Num.of_new h
  exact ⟨r, e1, e2, below_next hk e3, e3⟩
theorem half_num (W : World) (v : Value) (n : Nat) (w : World) (hk : Below W.heap.size W w) (h : Num w v n) (hn : Sm n) :
    Calls Tryd.prog 70 #[v] w fun e w' => ∃ r, e = .returned r ∧ Num w' r (n / 2) ∧ Below W.heap.size W w' ∧ Below w.heap.size w w' := by
  obtain ⟨A, c, rfl, h1⟩ := h
  have l1 := hn.len
  refine (half_any A _ c (dg n) w h1 (dig_dg n) (by omega)).mono fun e w' h => ?_
  rw [vl_dg] at h
  obtain ⟨r, e1, e2, e3⟩ := Num.of_new h
  exact ⟨r, e1, e2, below_next hk e3, e3⟩
theorem compare_num (v v' : Value) (n m : Nat) (w : World) (h : Num w v n) (h' : Num w v' m) (hn : Sm n) (hm : Sm m) :
    Calls Tryd.prog 47 #[v, v'] w fun e w' => e = .returned (.int .i64 (cmpN n m)) ∧ ∃ k, w' = w.drewN k := by
  obtain ⟨A, c, rfl, h1⟩ := h
  obtain ⟨A', c', rfl, h2⟩ := h'
  have l1 := hn.len
  have l2 := hm.len
  have := compare_any A A' _ _ c c' (dg n) (dg m) w h1 h2 (can_dg n) (can_dg m) (by omega) (by omega)
  rw [vl_dg, vl_dg] at this
  exact this

theorem cmpN_le (n m : Nat) : decide (cmpN n m ≤ 0) = decide (n ≤ m) := by
  unfold cmpN
  by_cases h : n < m
  · rw [if_pos h]; simp; omega
  · rw [if_neg h]
    by_cases h2 : m < n
    · rw [if_pos h2]; simp; omega
    · rw [if_neg h2]; simp; omega

theorem pow_bound' {M N k E : Nat} (hM : 0 < M) (h : M * 2 ^ k ≤ N) (hN : N < 2 ^ E) : k < E := by
  have h1 : 2 ^ k ≤ N := Nat.le_trans (Nat.le_mul_of_pos_left _ hM) h
  by_cases hk : k < E
  · exact hk
  · have : 2 ^ E ≤ 2 ^ k := Nat.pow_le_pow_right (by omega) (by omega)
    omega
theorem pow_bound {M N k : Nat} (hM : 0 < M) (h : M * 2 ^ k ≤ N) (hN : Sn N) : k < 16 * 200 :=
  pow_bound' hM h (by unfold Sn pw at hN; rwa [show (65536 : Nat) = 2 ^ 16 from rfl, ← Nat.pow_mul] at hN)

theorem pw_mono {a b : Nat} (h : a ≤ b) : pw a ≤ pw b := Nat.pow_le_pow_right (by omega) h
theorem pw_two {a b : Nat} (h : a < b) : 2 * pw a ≤ pw b := by
  have h1 : pw b = pw a * 65536 ^ (b - a) := by unfold pw; rw [← Nat.pow_add, show a + (b - a) = b from by omega]
  have h2 : (2 : Nat) ≤ 65536 ^ (b - a) := Nat.le_trans (by omega : 2 ≤ 65536 ^ 1) (Nat.pow_le_pow_right (by omega) (by omega))
  rw [h1, Nat.mul_comm 2]
  exact Nat.mul_le_mul (Nat.le_refl _) h2
theorem Sn.sm {n : Nat} (h : Sn n) : Sm n := Nat.lt_of_lt_of_le h (pw_mono (by omega))
theorem lt_two {a b n m : Nat} (h : n < a) (h2 : 2 * a ≤ b) (hm : m ≤ 2 * n + 1) : m < b := by omega
theorem Sn.two {n m : Nat} (h : Sn n) (hm : m ≤ 2 * n + 1) : Sm m := lt_two h (pw_two (by omega)) hm

/-- What stands at the head of a round of the second loop. -/
def Div (N M k i q r : Nat) : Prop := i ≤ k ∧ N = q * (M * 2 ^ (k - i)) + r ∧ r < M * 2 ^ (k - i)
theorem Div.start {N M k : Nat} (h : N < M * 2 ^ k) : Div N M k 0 0 N := ⟨by omega, by simp, by simpa using h⟩
theorem Div.half {N M k i q r : Nat} (h : Div N M k i q r) (hi : i < k) : M * 2 ^ (k - i) = 2 * (M * 2 ^ (k - (i + 1))) ∧ N = (q + q) * (M * 2 ^ (k - (i + 1))) + r ∧ r < 2 * (M * 2 ^ (k - (i + 1))) := by
  obtain ⟨h1, h2, h3⟩ := h
  have e : M * 2 ^ (k - i) = 2 * (M * 2 ^ (k - (i + 1))) := by
    rw [show k - i = (k - (i + 1)) + 1 from by omega, Nat.pow_succ, ← Nat.mul_assoc, Nat.mul_comm (M * 2 ^ _) 2]
  rw [e] at h2 h3
  refine ⟨e, ?_, h3⟩
  rw [h2, ← Nat.mul_assoc, Nat.mul_comm q 2, Nat.two_mul]
theorem Div.small {N M k i q r : Nat} (h : Div N M k i q r) (hi : i < k) (hr : r < M * 2 ^ (k - (i + 1))) : Div N M k (i + 1) (q + q) r := ⟨hi, (h.half hi).2.1, hr⟩
theorem Div.big {N M k i q r : Nat} (h : Div N M k i q r) (hi : i < k) (hr : M * 2 ^ (k - (i + 1)) ≤ r) : Div N M k (i + 1) (q + q + 1) (r - M * 2 ^ (k - (i + 1))) := by
  obtain ⟨_, h2, h3⟩ := h.half hi
  refine ⟨hi, ?_, by omega⟩
  rw [Nat.add_mul, Nat.one_mul]
  omega
theorem Div.done {N M k q r : Nat} (h : Div N M k k q r) (hM : 0 < M) : q = N / M ∧ r = N % M := by
  obtain ⟨_, h2, h3⟩ := h
  rw [Nat.sub_self, Nat.pow_zero, Nat.mul_one] at h2 h3
  have h4 : N = r + M * q := by rw [Nat.mul_comm M q]; omega
  rw [h4, Nat.add_mul_div_left _ _ hM, Nat.add_mul_mod_self_left, Nat.div_eq_of_lt h3, Nat.mod_eq_of_lt h3, Nat.zero_add]
  exact ⟨rfl, rfl⟩
theorem Div.bounds {N M k i q r : Nat} (h : Div N M k i q r) (hM : 0 < M) : q ≤ N ∧ r ≤ N := by
  obtain ⟨_, h2, h3⟩ := h
  have hp : 0 < M * 2 ^ (k - i) := Nat.mul_pos hM (Nat.two_pow_pos _)
  have := Nat.le_mul_of_pos_right q hp
  omega

set_option maxHeartbeats 3200000 in
theorem divide_num (v v' : Value) (N M : Nat) (w : World) (h : Num w v N) (h' : Num w v' M) (hN : Sn N) (hM : 0 < M) (hM2 : Sn M) :
    Calls Tryd.prog 58 #[v, v'] w fun e w' => ∃ q r, e = .returned (.tuple #[q, r]) ∧ Num w' q (N / M) ∧ Num w' r (N % M) ∧ Below w.heap.size w w' := by
  go_enter Tryd.func58, Tryd.ntmps58
  go_wp2
  go_loopw [1, 6] (fun b n_ wr => ∃ k : Nat, k ≤ 16 * 200 ∧ n_ = .int .i64 (k : Int) ∧ Hid (k = 0 ∨ M * 2 ^ (k - 1) ≤ N) ∧ Num wr b (M * 2 ^ k) ∧ Below w.heap.size w wr) (fun _ n_ _ => (3201 - intOf n_).toNat)
  case atStart => exact ⟨0, by omega, rfl, Lib.hid (.inl rfl), by rw [Nat.pow_zero, Nat.mul_one]; exact h', Below.refl _ _⟩
  case round =>
    obtain ⟨k, hk, rfl, HK, hb, hbel⟩ := hrel
    have hbig : Sm (M * 2 ^ k) := by
      rcases HK.out with rfl | h1
      · rw [Nat.pow_zero, Nat.mul_one]; exact hM2.sm
      · by_cases h0 : k = 0
        · subst h0; rw [Nat.pow_zero, Nat.mul_one]; exact hM2.sm
        · have e : M * 2 ^ k = 2 * (M * 2 ^ (k - 1)) := by rw [show k = (k - 1) + 1 from by omega, Nat.pow_succ, Nat.add_sub_cancel, ← Nat.mul_assoc, Nat.mul_comm (M * 2 ^ _) 2]
          rw [e]
          exact hN.two (by omega)
    have HB := Lib.hid hbig
    clear hbig
    go_wp2_with fail
    refine (compare_num _ _ (M * 2 ^ k) N _ hb (h.up hbel) HB.out hN.sm).mono ?_
    rintro e w1 ⟨rfl, q1, rfl⟩
    have hc := cmpN_le (M * 2 ^ k) N
    by_cases hle : M * 2 ^ k ≤ N
    · rw [decide_eq_true hle] at hc
      have HLE := Lib.hid hle
      clear hle
      go_wp2_with fail
      refine (sum_num w _ _ _ _ _ (below_drewN hbel q1) (hb.drewN q1) (hb.drewN q1) HB.out HB.out).mono ?_
      rintro e w2 ⟨r2, rfl, h2, k2, _⟩
      have hk3 := pow_bound hM HLE.out hN
      go_wp2
      go_roundw
      case rel => exact ⟨k + 1, by omega, by go_num, Lib.hid (.inr HLE.out), by rw [Nat.pow_succ, ← Nat.mul_assoc, Nat.mul_two]; exact h2, k2⟩
      case measure => simp [intOf]; omega
    · rw [decide_eq_false hle] at hc
      have HD := Lib.hid (Div.start (N := N) (M := M) (k := k) (by omega))
      clear hle
      go_wp2
      have hbel1 := below_drewN hbel q1
      go_loopw [0, 1, 7, 8] (fun a b q i wr => ∃ j qn rn : Nat, i = .int .i64 (j : Int) ∧ Hid (Div N M k j qn rn) ∧ Num wr a rn ∧ Num wr b (M * 2 ^ (k - j)) ∧ Num wr q qn ∧ Below w.heap.size w wr) (fun _ _ _ i _ => k - (intOf i).toNat)
      case atStart => exact ⟨0, 0, N, rfl, HD, (h.up hbel).drewN q1, hb.drewN q1, Num.zero _, hbel1⟩
      case round =>
        obtain ⟨j, qn, rn, rfl, HJ, ha, hb2, hq, hbel2⟩ := hrel
        have hjk := HJ.out.1
        have hbd := HJ.out.bounds hM
        by_cases hlt : j < k
        · have hh := HJ.out.half hlt
          have hsm : Sm (M * 2 ^ (k - j)) := HB.out.less (Nat.mul_le_mul (Nat.le_refl _) (Nat.pow_le_pow_right (by omega) (by omega)))
          have hsm2 : Sm (M * 2 ^ (k - (j + 1))) := HB.out.less (Nat.mul_le_mul (Nat.le_refl _) (Nat.pow_le_pow_right (by omega) (by omega)))
          have heq : M * 2 ^ (k - j) / 2 = M * 2 ^ (k - (j + 1)) := by rw [hh.1]; omega
          obtain ⟨Bv, hBv⟩ : ∃ Bv, Bv = M * 2 ^ (k - (j + 1)) := ⟨_, rfl⟩
          have HSM := Lib.hid hsm
          have HEQ := Lib.hid heq
          have hq1 : Sm qn := hN.sm.less hbd.1
          have ha1 : Sm rn := hN.sm.less hbd.2
          have hjk3 : (j : Int) < (k : Int) := by omega
          have H2 := Lib.hid hh
          have HSM2 := Lib.hid hsm2
          have HBV := Lib.hid hBv
          have HQ1 := Lib.hid hq1
          have HA1 := Lib.hid ha1
          clear hsm heq hh hsm2 hBv hq1 ha1
          go_wp2_with fail
          refine (half_num w _ _ _ hbel2 hb2 HSM.out).mono ?_
          rintro e w2 ⟨b3, rfl, hb3, k3, n3⟩
          rw [HEQ.out, ← HBV.out] at hb3
          go_wp2_with fail
          refine (sum_num w _ _ _ _ _ k3 (hq.up n3) (hq.up n3) HQ1.out HQ1.out).mono ?_
          rintro e w3 ⟨q4, rfl, hq4, k4, n4⟩
          have ha4 := (ha.up n3).up n4
          have hb4 := hb3.up n4
          go_wp2_with fail
          refine (compare_num _ _ Bv rn _ hb4 ha4 (by rw [HBV.out]; exact HSM2.out) HA1.out).mono ?_
          rintro e w4 ⟨rfl, q5, rfl⟩
          have hc5 := cmpN_le Bv rn
          by_cases hbr : Bv ≤ rn
          · rw [decide_eq_true hbr] at hc5
            have HD2 := Lib.hid (HJ.out.big hlt (by rw [← HBV.out]; exact hbr))
            have HBR := Lib.hid hbr
            clear hbr
            go_wp2_with fail
            refine (less_num w _ _ _ _ _ (below_drewN k4 q5) (ha4.drewN q5) (hb4.drewN q5) HA1.out HBR.out).mono ?_
            rintro e w5 ⟨a6, rfl, ha6, k6, n6⟩
            have hq6 := (hq4.drewN q5).up n6
            have hb6 := (hb4.drewN q5).up n6
            have hone : Num (w5.alloc (.cells #[.int .i64 1] 3)) (.slice (some ⟨w5.heap.size, 0, none⟩) 1 1) 1 := Num.one w5
            have hn7 := (Below.refl w5.heap.size w5).alloc (Nat.le_refl _) (.cells #[.int .i64 1] 3)
            have hqq : Sm (qn + qn) := hN.two (by omega)
            go_wp2_with fail
            refine (sum_num w _ _ _ 1 _ (below_new k6 _) (hq6.up hn7) hone hqq (hN.two (by omega))).mono ?_
            rintro e w6 ⟨q8, rfl, hq8, k8, n8⟩
            go_wp2
            go_roundw
            case rel => exact ⟨j + 1, _, _, by go_num, HD2, by rw [← HBV.out]; exact (ha6.up hn7).up n8, by rw [← HBV.out]; exact (hb6.up hn7).up n8, hq8, k8⟩
            case measure => simp [intOf]; omega
          · rw [decide_eq_false hbr] at hc5
            have HD2 := Lib.hid (HJ.out.small hlt (by rw [← HBV.out]; omega))
            clear hbr
            go_wp2
            go_roundw
            case rel => exact ⟨j + 1, _, _, by go_num, HD2, ha4.drewN q5, by rw [← HBV.out]; exact hb4.drewN q5, hq4.drewN q5, below_drewN k4 q5⟩
            case measure => simp [intOf]; omega
        · obtain rfl : j = k := by omega
          have hdone := HJ.out.done hM
          go_wp2
          go_ret2
          exact ⟨_, _, rfl, by rw [← hdone.1]; exact hq, by rw [← hdone.2]; exact ha, hbel2⟩

end Go.Proofs.YtheadamdhjhnpaaDoor
