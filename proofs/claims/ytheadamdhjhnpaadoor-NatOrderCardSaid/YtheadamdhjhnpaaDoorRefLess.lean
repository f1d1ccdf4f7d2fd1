/-
  The reference's less and compare.
-/
import Derived.Test.YtheadamdhjhnpaaDoorRefSum
namespace Go.Proofs.YtheadamdhjhnpaaDoor
open Go.RowKit

/-- What stands at the head of a round of less. -/
def Less (l m : List Nat) (k bw : Nat) (ls : List Nat) : Prop := ls.length = k ∧ Dig ls ∧ bw ≤ 1 ∧ vl (l.take k) + 65536 ^ k * bw = vl ls + vl (m.take k)
theorem Less.start (l m : List Nat) : Less l m 0 0 [] := ⟨rfl, by intro d hd; simp at hd, by omega, by simp [vl]⟩
theorem less_step {A B V P bw bw' a b d : Nat} (h : A + P * bw = V + B) (hd : a + 65536 * bw' = d + bw + b) : A + P * a + P * 65536 * bw' = V + P * d + (B + P * b) := by
  have h1 : P * (a + 65536 * bw') = P * (d + bw + b) := by rw [hd]
  rw [Nat.mul_add, Nat.mul_add, Nat.mul_add, ← Nat.mul_assoc] at h1
  omega
theorem Less.both {l m ls : List Nat} {k bw a b d bw' : Nat} (h : Less l m k bw ls) (ha : l[k]? = some a) (hb : m[k]? = some b) (hd : a + 65536 * bw' = d + bw + b) (hd2 : d < 65536) (hbw : bw' ≤ 1) : Less l m (k + 1) bw' (ls ++ [d]) := by
  obtain ⟨h1, h2, h3, h4⟩ := h
  refine ⟨by simp [h1], h2.append (by intro x hx; simp at hx; omega), hbw, ?_⟩
  rw [vl_take ha, vl_take hb, vl_snoc, h1, Nat.pow_succ]
  exact less_step h4 hd
theorem Less.left {l m ls : List Nat} {k bw a d bw' : Nat} (h : Less l m k bw ls) (ha : l[k]? = some a) (hb : m.length ≤ k) (hd : a + 65536 * bw' = d + bw) (hd2 : d < 65536) (hbw : bw' ≤ 1) : Less l m (k + 1) bw' (ls ++ [d]) := by
  obtain ⟨h1, h2, h3, h4⟩ := h
  refine ⟨by simp [h1], h2.append (by intro x hx; simp at hx; omega), hbw, ?_⟩
  have := less_step (b := 0) h4 (by omega)
  rw [vl_take ha, take_past hb, vl_snoc, h1, Nat.pow_succ]
  omega
theorem Less.done {l m ls : List Nat} {k bw : Nat} (h : Less l m k bw ls) (hk : l.length = k) (hm : m.length ≤ k) (hle : vl m ≤ vl l) : tr ls = dg (vl l - vl m) := by
  obtain ⟨h1, h2, h3, h4⟩ := h
  rw [List.take_of_length_le (by omega), List.take_of_length_le hm] at h4
  have h5 := vl_lt h2
  rw [h1] at h5
  have hb0 : bw = 0 := by
    by_cases hb : bw = 0
    · exact hb
    · obtain rfl : bw = 1 := by omega
      rw [Nat.mul_one] at h4
      omega
  subst hb0
  rw [Nat.mul_zero, Nat.add_zero] at h4
  rw [tr_eq _ h2]
  congr 1
  omega

set_option maxHeartbeats 3200000 in
theorem less_any (A A' : Option Addr) (n n' c c' : Nat) (l m : List Nat) (w : World) (h : Arr nv w w.heap.size (.slice A n c) l) (h' : Arr nv w w.heap.size (.slice A' n' c') m) (hl : Dig l) (hm : Dig m) (hlen : n ≤ 100000) (hn' : n' ≤ n) (hle : vl m ≤ vl l) :
    Calls Tryd.prog 54 #[.slice A n c, .slice A' n' c'] w (NewInts w (dg (vl l - vl m))) := by
  have HL := Lib.hid h.len
  have HM := Lib.hid h'.len
  have HLE := Lib.hid hle
  clear hle
  go_enter Tryd.func54, Tryd.ntmps54
  go_wp2
  go_loopw [5, 6, 7, 8] (fun out bw_ i _ wr => ∃ (k bw : Nat) (ls : List Nat), k ≤ n ∧ i = .int .i64 (k : Int) ∧ bw_ = .int .i64 (bw : Int) ∧ Less l m k bw ls ∧ wr.ownsRow w.heap.size 3 1 out ls.length (ls.map nv) ∧ Below w.heap.size w wr) (fun _ _ i _ _ => n - (intOf i).toNat)
  case atStart => exact ⟨0, 0, [], by omega, rfl, rfl, Less.start l m, World.ownsRow_nil _ _ _ _, Below.refl _ _⟩
  case round =>
    obtain ⟨k, bw, ls, hk, rfl, rfl, hsum, hown, hbel⟩ := hrel
    have hy := hsum.2.2.1
    have hlsl : ls.length ≤ 100000 := by rw [hsum.1]; omega
    have hsz := hbel.size
    by_cases ha : k < n
    · obtain ⟨b0, o0, rfl, hB0, hc0⟩ := h.some_ (by omega)
      obtain ⟨a, hat⟩ : ∃ a, l[k]? = some a := ⟨_, List.getElem?_eq_getElem (by have := HL.out; omega)⟩
      have d0 := (hbel.cell (p := ⟨b0, o0 + k, none⟩) hB0).trans (hc0 k a hat)
      have hal := hl.at_ hat
      simp only [nv] at d0
      have ta : decide ((k : Int) < (n : Int)) = true := by simp; omega
      have i0 : (k : Int) < (n : Int) := by omega
      clear hc0
      by_cases hb : k < n'
      · obtain ⟨b1, o1, rfl, hB1, hc1⟩ := h'.some_ (by omega)
        obtain ⟨b, hbt⟩ : ∃ a, m[k]? = some a := ⟨_, List.getElem?_eq_getElem (by have := HM.out; omega)⟩
        have d1 := (hbel.cell (p := ⟨b1, o1 + k, none⟩) hB1).trans (hc1 k b hbt)
        have hbl := hm.at_ hbt
        simp only [nv] at d1
        have tb : decide ((k : Int) < (n' : Int)) = true := by simp; omega
        have i1 : (k : Int) < (n' : Int) := by omega
        by_cases hneg : a < bw + b
        · have tn : decide ((a : Int) - (bw : Int) - (b : Int) < 0) = true := by simp; omega
          have HS := Lib.hid (hsum.both (d := a + 65536 - bw - b) (bw' := 1) hat hbt (by omega) (by omega) (by omega))
          clear hc1 hsum hat hbt
          go_wp2_with (at_builtin; refine append_int wr rfl (.tmp 35) (.tmp 37) rfl w.heap.size u5 ls rfl hown (a + 65536 - bw - b) _ (by unfold nv; exact value_int (by omega)) rfl (by omega) hsz ?_; intro r1 w1 hown1 hb1)
          go_roundw
          case rel => exact ⟨k + 1, 1, _, by omega, by go_num, rfl, HS.out, hown1, hbel.trans hb1⟩
          case measure => simp [intOf]; omega
        · have tn : decide ((a : Int) - (bw : Int) - (b : Int) < 0) = false := by simp; omega
          have HS := Lib.hid (hsum.both (d := a - bw - b) (bw' := 0) hat hbt (by omega) (by omega) (by omega))
          clear hc1 hsum hat hbt
          go_wp2_with (at_builtin; refine append_int wr rfl (.tmp 35) (.tmp 37) rfl w.heap.size u5 ls rfl hown (a - bw - b) _ (by unfold nv; exact value_int (by omega)) rfl (by omega) hsz ?_; intro r1 w1 hown1 hb1)
          go_roundw
          case rel => exact ⟨k + 1, 0, _, by omega, by go_num, rfl, HS.out, hown1, hbel.trans hb1⟩
          case measure => simp [intOf]; omega
      · have tb : decide ((k : Int) < (n' : Int)) = false := by simp; omega
        by_cases hneg : a < bw
        · have tn : decide ((a : Int) - (bw : Int) < 0) = true := by simp; omega
          have HS := Lib.hid (hsum.left (d := a + 65536 - bw) (bw' := 1) hat (by have := HM.out; omega) (by omega) (by omega) (by omega))
          clear hsum hat
          go_wp2_with (at_builtin; refine append_int wr rfl (.tmp 35) (.tmp 37) rfl w.heap.size u5 ls rfl hown (a + 65536 - bw) _ (by unfold nv; exact value_int (by omega)) rfl (by omega) hsz ?_; intro r1 w1 hown1 hb1)
          go_roundw
          case rel => exact ⟨k + 1, 1, _, by omega, by go_num, rfl, HS.out, hown1, hbel.trans hb1⟩
          case measure => simp [intOf]; omega
        · have tn : decide ((a : Int) - (bw : Int) < 0) = false := by simp; omega
          have HS := Lib.hid (hsum.left (d := a - bw) (bw' := 0) hat (by have := HM.out; omega) (by omega) (by omega) (by omega))
          clear hsum hat
          go_wp2_with (at_builtin; refine append_int wr rfl (.tmp 35) (.tmp 37) rfl w.heap.size u5 ls rfl hown (a - bw) _ (by unfold nv; exact value_int (by omega)) rfl (by omega) hsz ?_; intro r1 w1 hown1 hb1)
          go_roundw
          case rel => exact ⟨k + 1, 0, _, by omega, by go_num, rfl, HS.out, hown1, hbel.trans hb1⟩
          case measure => simp [intOf]; omega
    · have ta : decide ((k : Int) < (n : Int)) = false := by simp; omega
      have HD := Lib.hid (hsum.done (by have := HL.out; omega) (by have := HM.out; omega) HLE.out)
      have hA1 := Arr.of_own hown
      obtain ⟨A1, c1, rfl⟩ := hA1.form
      clear hown hsum
      go_wp2_with fail
      refine (trim_at w A1 _ c1 _ _ _ hbel hA1 HD.out (by omega)).mono ?_
      rintro e w2 ⟨A2, c2, rfl, hA2, k2⟩
      go_wp2
      go_ret
      exact ⟨A2, c2, rfl, hA2, k2⟩

theorem drewN2 (w : World) (a b : Nat) : ∃ k, (w.drewN a).drewN b = w.drewN k := ⟨_, World.drewN_drewN w a b⟩
theorem drewN3 (w : World) (a b c : Nat) : ∃ k, ((w.drewN a).drewN b).drewN c = w.drewN k := ⟨_, by rw [World.drewN_drewN, World.drewN_drewN]⟩

/-! compare -/
theorem vl_drop {l : List Nat} {k d : Nat} (h : l[k]? = some d) : vl l = vl (l.take k) + 65536 ^ k * (d + 65536 * vl (l.drop (k + 1))) := by
  obtain ⟨hl, he⟩ := List.getElem?_eq_some_iff.1 h
  conv => lhs; rw [← List.take_append_drop k l, vl_append, List.length_take, Nat.min_eq_left (by omega), List.drop_eq_getElem_cons hl, he, vl]
theorem cmp_at {l m : List Nat} {k a b : Nat} (hl : Dig l) (ha : l[k]? = some a) (hb : m[k]? = some b) (hd : l.drop (k + 1) = m.drop (k + 1)) (hab : a < b) : vl l < vl m := by
  rw [vl_drop ha, vl_drop hb, hd]
  have h1 := vl_lt (hl.take k)
  have h2 : (l.take k).length ≤ k := List.length_take_le _ _
  have h3 : 65536 ^ (l.take k).length ≤ 65536 ^ k := Nat.pow_le_pow_right (by omega) h2
  have h4 : 65536 ^ k * (a + 65536 * vl (m.drop (k + 1))) + 65536 ^ k ≤ 65536 ^ k * (b + 65536 * vl (m.drop (k + 1))) := by
    rw [← Nat.mul_succ]
    exact Nat.mul_le_mul (Nat.le_refl _) (by omega)
  omega
theorem drop_step {l m : List Nat} {k a : Nat} (ha : l[k]? = some a) (hb : m[k]? = some a) (hd : l.drop (k + 1) = m.drop (k + 1)) : l.drop k = m.drop k := by
  obtain ⟨h1, e1⟩ := List.getElem?_eq_some_iff.1 ha
  obtain ⟨h2, e2⟩ := List.getElem?_eq_some_iff.1 hb
  rw [List.drop_eq_getElem_cons h1, List.drop_eq_getElem_cons h2, e1, e2, hd]

theorem cmpN_lt {n m : Nat} (h : n < m) : cmpN n m = -1 := by unfold cmpN; rw [if_pos h]
theorem cmpN_gt {n m : Nat} (h : m < n) : cmpN n m = 1 := by unfold cmpN; rw [if_neg (by omega), if_pos h]
theorem cmpN_eq (n : Nat) : cmpN n n = 0 := by unfold cmpN; rw [if_neg (by omega), if_neg (by omega)]

set_option maxHeartbeats 3200000 in
theorem compare_any (A A' : Option Addr) (n n' c c' : Nat) (l m : List Nat) (w : World) (h : Arr nv w w.heap.size (.slice A n c) l) (h' : Arr nv w w.heap.size (.slice A' n' c') m) (hl : Can l) (hm : Can m) (hlen : n ≤ 100000) (hlen' : n' ≤ 100000) :
    Calls Tryd.prog 47 #[.slice A n c, .slice A' n' c'] w fun e w' => e = .returned (.int .i64 (cmpN (vl l) (vl m))) ∧ ∃ k, w' = w.drewN k := by
  have HL := Lib.hid h.len
  have HM := Lib.hid h'.len
  by_cases hnn : n = n'
  · subst hnn
    have tn : ((n : Int) != (n : Int)) = false := by simp
    go_enter Tryd.func47, Tryd.ntmps47
    go_wp2
    go_loopw [5] (fun i wr => ∃ k q : Nat, k ≤ n ∧ i = .int .i64 ((k : Int) - 1) ∧ Hid (l.drop k = m.drop k) ∧ wr = w.drewN q) (fun i _ => (intOf i + 1).toNat)
    case atStart => exact ⟨n, 0, by omega, rfl, Lib.hid (by rw [List.drop_of_length_le (by have := HL.out; omega), List.drop_of_length_le (by have := HM.out; omega)]), rfl⟩
    case round =>
      obtain ⟨k, q, hk, rfl, HD, rfl⟩ := hrel
      cases k with
      | zero =>
        have e : l = m := by have := HD.out; simpa using this
        have HE := Lib.hid (e ▸ cmpN_eq (vl l) : cmpN (vl l) (vl m) = 0)
        clear e
        go_wp2
        go_ret
        exact ⟨ret_int (by rw [HE.out]), by first | exact drewN2 _ _ _ | exact drewN3 _ _ _ _ | exact ⟨_, rfl⟩⟩
      | succ k =>
        obtain ⟨b0, o0, rfl, hB0, hc0⟩ := h.some_ (by omega)
        obtain ⟨b1, o1, rfl, hB1, hc1⟩ := h'.some_ (by omega)
        obtain ⟨a, hat⟩ : ∃ a, l[k]? = some a := ⟨_, List.getElem?_eq_getElem (by have := HL.out; omega)⟩
        obtain ⟨b, hbt⟩ : ∃ a, m[k]? = some a := ⟨_, List.getElem?_eq_getElem (by have := HM.out; omega)⟩
        have d0 := hc0 k a hat
        have d1 := hc1 k b hbt
        simp only [nv] at d0 d1
        have hk1 : (((k + 1 : Nat) : Int) - 1) = (k : Int) := by omega
        rw [hk1]
        have i0 : (k : Int) < (n : Int) := by omega
        have ih0 : (0 : Int) ≤ (k : Int) := by omega
        rcases Nat.lt_trichotomy a b with hab | hab | hab
        · have ta : decide (a < b) = true := by simp; omega
          have HE := Lib.hid (cmpN_lt (cmp_at hl.1 hat hbt HD.out hab))
          clear hc0 hc1 hat hbt hk1 hab
          go_wp2
          go_quiet (fail)
          go_wp2
          go_ret
          exact ⟨ret_int (by rw [HE.out]), by first | exact drewN2 _ _ _ | exact drewN3 _ _ _ _ | exact ⟨_, rfl⟩⟩
        · subst hab
          have ta : decide (a < a) = false := by simp
          have HE := Lib.hid (drop_step hat hbt HD.out)
          clear hc0 hc1 hat hbt hk1
          go_wp2
          go_quiet (fail)
          go_wp2
          go_quiet (fail)
          go_wp2
          go_roundw
          case rel => exact ⟨k, _, by omega, by go_num, HE, by first | exact World.drewN_drewN _ _ _ | rfl⟩
          case measure => simp [intOf]
        · have ta : decide (a < b) = false := by simp; omega
          have tb : decide (b < a) = true := by simp; omega
          have HE := Lib.hid (cmpN_gt (cmp_at hm.1 hbt hat HD.out.symm hab))
          clear hc0 hc1 hat hbt hk1 hab
          go_wp2
          go_quiet (fail)
          go_wp2
          go_quiet (fail)
          go_wp2
          go_ret
          exact ⟨ret_int (by rw [HE.out]), by first | exact drewN2 _ _ _ | exact drewN3 _ _ _ _ | exact ⟨_, rfl⟩⟩
  · have tn : ((n : Int) != (n' : Int)) = true := by simp; omega
    by_cases hlt : n < n'
    · have tl : decide ((n : Int) < (n' : Int)) = true := by simp; omega
      have HE := Lib.hid (cmpN_lt (vl_lt_of_length hl.1 hm (by have := HL.out; have := HM.out; omega)))
      clear hnn
      go_enter Tryd.func47, Tryd.ntmps47
      go_wp2
      go_ret
      exact ⟨ret_int (by rw [HE.out]), 0, rfl⟩
    · have tl : decide ((n : Int) < (n' : Int)) = false := by simp; omega
      have HE := Lib.hid (cmpN_gt (vl_lt_of_length hm.1 hl (by have := HL.out; have := HM.out; omega)))
      clear hnn
      go_enter Tryd.func47, Tryd.ntmps47
      go_wp2
      go_ret
      exact ⟨ret_int (by rw [HE.out]), 0, rfl⟩

end Go.Proofs.YtheadamdhjhnpaaDoor
