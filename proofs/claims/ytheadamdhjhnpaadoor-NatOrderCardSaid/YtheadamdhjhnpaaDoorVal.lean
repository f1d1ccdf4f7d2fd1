/-
  The laws' own valid, and the arithmetic of valid numbers.
-/
import Derived.Test.YtheadamdhjhnpaaDoorAwake
namespace Go.Proofs.YtheadamdhjhnpaaDoor
open Go.RowKit

def okB (N : Nat) (xs : List Int) : Bool := validB xs && decide (xs.length ≤ N)
def allOk (N : Nat) (vs : List (Value × List Int)) : Bool := vs.all fun p => okB N p.2
theorem allOk_take {N : Nat} {vs : List (Value × List Int)} {k : Nat} {p : Value × List Int} (h : vs[k]? = some p) : allOk N (vs.take (k + 1)) = (allOk N (vs.take k) && okB N p.2) := by
  unfold allOk
  rw [take_next h, List.all_append]; simp
theorem allOk_false {N : Nat} {vs : List (Value × List Int)} {k : Nat} {p : Value × List Int} (h : vs[k]? = some p) (hp : okB N p.2 = false) : allOk N vs = false := by
  unfold allOk
  rw [List.all_eq_false]
  exact ⟨p, List.mem_of_getElem? h, by simp [hp]⟩

set_option maxHeartbeats 1600000 in
theorem lawValid_any (N g m : Nat) (vs : List (Value × List Int)) (w : World) (hb : Box w g 22 ((vs.map (·.1)).toArray)) (hm : vs.length = m) (hm2 : m ≤ 1000) (_hN : N ≤ 1000) (h : ∀ p, p ∈ vs → Ints w p.1 p.2) (b : Bool) (hres : allOk N vs = b) :
    Calls Tryd.prog 44 #[.int .i64 (N : Int), .slice (some ⟨g, 0, none⟩) m m] w fun e w' => e = .returned (.bool b) ∧ w = w' := by
  subst hres
  have HM := Lib.hid hm
  have HI := Lib.hid h
  clear hm h
  go_enter Tryd.func44, Tryd.ntmps44
  go_wp2
  go_loop [6, 9] (fun _ i => ∃ k : Nat, k ≤ m ∧ i = .int .i64 (k : Int) ∧ Hid (allOk N (vs.take k) = true)) (fun _ i => m - (intOf i).toNat)
  case atStart => exact ⟨0, by omega, rfl, Lib.hid rfl⟩
  case round =>
    obtain ⟨k, hk, rfl, HA⟩ := hrel
    by_cases hlt : k < m
    · obtain ⟨p, hp⟩ : ∃ p, vs[k]? = some p := ⟨_, List.getElem?_eq_getElem (by have := HM.out; omega)⟩
      have hI := HI.out p (List.mem_of_getElem? hp)
      have d0 := hb.cell k
      rw [List.getElem?_toArray, List.getElem?_map, hp, Option.map_some] at d0
      have hI2 := hI
      obtain ⟨A, n, c, e, hn, hA⟩ := hI
      rw [e] at d0 hI2
      have hlen := hA.len
      have i0 : (k : Int) < (m : Int) := by omega
      cases hv : validB p.2 with
      | false =>
        have HF := Lib.hid (allOk_false (N := N) hp (by unfold okB; rw [hv]; rfl))
        have HV := Lib.hid hv
        clear hp hv hlen e hA
        go_wp2_with fail
        refine (refValid_at _ p.2 false _ hI2 HV.out).mono ?_
        rintro e w1 ⟨rfl, rfl⟩
        go_wp2
        go_ret
        exact ⟨ret_bool (by rw [HF.out]), rfl⟩
      | true =>
        by_cases hN2 : n ≤ N
        · have t1 : decide (N < n) = false := by simp; omega
          have HF : Hid (allOk N (vs.take (k + 1)) = true) := Lib.hid (by rw [allOk_take hp, HA.out]; unfold okB; rw [hv, hlen]; simp; omega)
          have HV := Lib.hid hv
          clear hp hv hlen e hA
          go_wp2_with fail
          refine (refValid_at _ p.2 true _ hI2 HV.out).mono ?_
          rintro e w1 ⟨rfl, rfl⟩
          go_wp2
          go_round
          case rel => exact ⟨k + 1, by omega, by go_num, HF⟩
          case measure => simp [intOf]; omega
        · have t1 : decide (N < n) = true := by simp; omega
          have HF := Lib.hid (allOk_false (N := N) hp (by unfold okB; rw [hv, hlen, decide_eq_false hN2]; rfl))
          have HV := Lib.hid hv
          clear hp hv hlen e hA
          go_wp2_with fail
          refine (refValid_at _ p.2 true _ hI2 HV.out).mono ?_
          rintro e w1 ⟨rfl, rfl⟩
          go_wp2
          go_ret
          exact ⟨ret_bool (by rw [HF.out]), rfl⟩
    · obtain rfl : k = m := by omega
      have HF : Hid (allOk N vs = true) := Lib.hid (by
        have := HA.out
        rwa [List.take_of_length_le (by have := HM.out; omega)] at this)
      go_wp2
      go_ret
      exact ⟨ret_bool (by rw [HF.out]), rfl⟩

theorem mem_one {α : Type} {a p : α} (h : p ∈ [a]) : p = a := by simpa using h
theorem valid1_at (N : Nat) (hN : N ≤ 1000) (W : World) (v : Value) (xs : List Int) (b : Bool) (w : World) (hk : Below W.heap.size W w) (h : Ints w v xs) (hres : okB N xs = b) :
    Calls Tryd.prog 44 #[.int .i64 (N : Int), .slice (some ⟨w.heap.size, 0, none⟩) 1 1] (w.alloc (.cells #[v] 22)) fun e w' => e = .returned (.bool b) ∧ Below W.heap.size W w' ∧ Below w.heap.size w w' := by
  have hnew : Below w.heap.size w (w.alloc (.cells #[v] 22)) := (Below.refl _ _).alloc (Nat.le_refl _) _
  refine (lawValid_any N w.heap.size 1 [(v, xs)] _ (Box.made w _ _) rfl (by omega) hN (fun p hp => by rw [mem_one hp]; exact h.up hnew) b (by rw [← hres]; simp [allOk])).mono ?_
  rintro e w' ⟨h1, rfl⟩
  exact ⟨h1, below_next hk hnew, hnew⟩
theorem valid2_at (N : Nat) (hN : N ≤ 1000) (W : World) (v v' : Value) (xs ys : List Int) (b : Bool) (w : World) (hk : Below W.heap.size W w) (h : Ints w v xs) (h' : Ints w v' ys) (hres : (okB N xs && okB N ys) = b) :
    Calls Tryd.prog 44 #[.int .i64 (N : Int), .slice (some ⟨w.heap.size, 0, none⟩) 2 2] (w.alloc (.cells #[v, v'] 22)) fun e w' => e = .returned (.bool b) ∧ Below W.heap.size W w' ∧ Below w.heap.size w w' := by
  have hnew : Below w.heap.size w (w.alloc (.cells #[v, v'] 22)) := (Below.refl _ _).alloc (Nat.le_refl _) _
  refine (lawValid_any N w.heap.size 2 [(v, xs), (v', ys)] _ (Box.made w _ _) rfl (by omega) hN (fun p hp => ?_) b (by rw [← hres]; simp [allOk])).mono ?_
  · simp at hp
    rcases hp with rfl | rfl
    · exact h.up hnew
    · exact h'.up hnew
  · rintro e w' ⟨h1, rfl⟩
    exact ⟨h1, below_next hk hnew, hnew⟩
theorem valid3_at (N : Nat) (hN : N ≤ 1000) (W : World) (v v' v2 : Value) (xs ys zs : List Int) (b : Bool) (w : World) (hk : Below W.heap.size W w) (h : Ints w v xs) (h' : Ints w v' ys) (h2 : Ints w v2 zs) (hres : (okB N xs && (okB N ys && okB N zs)) = b) :
    Calls Tryd.prog 44 #[.int .i64 (N : Int), .slice (some ⟨w.heap.size, 0, none⟩) 3 3] (w.alloc (.cells #[v, v', v2] 22)) fun e w' => e = .returned (.bool b) ∧ Below W.heap.size W w' ∧ Below w.heap.size w w' := by
  have hnew : Below w.heap.size w (w.alloc (.cells #[v, v', v2] 22)) := (Below.refl _ _).alloc (Nat.le_refl _) _
  refine (lawValid_any N w.heap.size 3 [(v, xs), (v', ys), (v2, zs)] _ (Box.made w _ _) rfl (by omega) hN (fun p hp => ?_) b (by rw [← hres]; simp [allOk])).mono ?_
  · simp at hp
    rcases hp with rfl | rfl | rfl
    · exact h.up hnew
    · exact h'.up hnew
    · exact h2.up hnew
  · rintro e w' ⟨h1, rfl⟩
    exact ⟨h1, below_next hk hnew, hnew⟩

/-- What passes is a number of at most N digits. -/
theorem ok_num {N : Nat} {xs : List Int} (h : okB N xs = true) (_hN : N ≤ 128) : ∃ a, a < pw N ∧ xs = nI a := by
  unfold okB at h
  rw [Bool.and_eq_true, decide_eq_true_eq] at h
  obtain ⟨a, _, hxs⟩ := validB_num h.1
  refine ⟨a, ?_, hxs⟩
  have h2 := h.2
  rw [hxs, List.length_map] at h2
  exact dg_length.1 h2
theorem ok_nI {N a : Nat} (h : a < pw N) (hN : N ≤ 128) : okB N (nI a) = true := by
  unfold okB nI
  rw [validB_dg (Nat.lt_of_lt_of_le h (pw_mono hN)), List.length_map, decide_eq_true (dg_len_pw h)]
  rfl

/-! Results of valid numbers. -/
theorem lt128 {x k : Nat} (h : x < pw k) (hk : k ≤ 128) : x < pw 128 := Nat.lt_of_lt_of_le h (pw_mono hk)
theorem add_lt {a b i j : Nat} (h : a < pw i) (h' : b < pw j) (hij : i ≤ j) : a + b < pw (j + 1) := add_fits (Nat.lt_of_lt_of_le h (pw_mono hij)) h'
theorem mul_lt {a b i j : Nat} (h : a < pw i) (h' : b < pw j) : a * b < pw (i + j) := by
  rw [pw_add]
  exact Nat.mul_lt_mul'' h h'
theorem rAdd {a b m : Nat} (ha : a < pw 128) (hb : b < pw 128) (hm : m < pw 128) (e : a + b = m) : addR (numOf (nI a)) (numOf (nI b)) = .ok m := by
  subst e
  rw [numOf_nI ha, numOf_nI hb]
  exact if_pos hm
theorem rMul {a b m : Nat} (ha : a < pw 128) (hb : b < pw 128) (hm : m < pw 128) (e : a * b = m) : mulR (numOf (nI a)) (numOf (nI b)) = .ok m := by
  subst e
  rw [numOf_nI ha, numOf_nI hb]
  exact if_pos hm
theorem rSub {a b m : Nat} (ha : a < pw 128) (hb : b < pw 128) (e : m + b = a) : subR (numOf (nI a)) (numOf (nI b)) = .ok m := by
  rw [numOf_nI ha, numOf_nI hb]
  show (if b ≤ a then Except.ok (a - b) else .error 2) = _
  rw [if_pos (by omega), show a - b = m from by omega]
theorem rDivQ {a b m : Nat} (ha : a < pw 128) (hb : b < pw 128) (h0 : b ≠ 0) (e : a / b = m) : divQ (numOf (nI a)) (numOf (nI b)) = .ok m := by
  subst e
  rw [numOf_nI ha, numOf_nI hb]
  exact if_neg h0
theorem rDivR {a b m : Nat} (ha : a < pw 128) (hb : b < pw 128) (h0 : b ≠ 0) (e : a % b = m) : divR (numOf (nI a)) (numOf (nI b)) = .ok m := by
  subst e
  rw [numOf_nI ha, numOf_nI hb]
  exact if_neg h0
theorem rGcd {a b m : Nat} (ha : a < pw 128) (hb : b < pw 128) (e : Nat.gcd a b = m) : gcdR (numOf (nI a)) (numOf (nI b)) = .ok m := by
  subst e
  rw [numOf_nI ha, numOf_nI hb]
  rfl
theorem rCmp {a b : Nat} {z : Int} (ha : a < pw 128) (hb : b < pw 128) (e : cmpN a b = z) : cmpR (numOf (nI a)) (numOf (nI b)) = z := by
  subst e
  rw [numOf_nI ha, numOf_nI hb]
  rfl
theorem rPow {a n m : Nat} (ha : a < pw 128) (hn : n ≤ 1000) (hm : m < pw 128) (e : a ^ n = m) : powR (numOf (nI a)) (n : Int) = .ok m := by
  subst e
  rw [numOf_nI ha]
  show (if (n : Int) < 0 ∨ 1000 < (n : Int) then Except.error 2 else limit (a ^ (n : Int).toNat)) = _
  rw [if_neg (by omega), Int.toNat_natCast]
  exact if_pos hm
theorem rShift {a n m : Nat} (ha : a < pw 128) (hn : n ≤ 2047) (hm : m < pw 128) (e : a * 2 ^ n = m) : shiftR (numOf (nI a)) (n : Int) = .ok m := by
  subst e
  rw [numOf_nI ha]
  show (if (n : Int) < 0 ∨ 2047 < (n : Int) then Except.error 2 else limit (a * 2 ^ (n : Int).toNat)) = _
  rw [if_neg (by omega), Int.toNat_natCast]
  exact if_pos hm
theorem rBits {a m : Nat} (ha : a < pw 128) (e : lb a = m) : bitsR (numOf (nI a)) = m := by
  subst e
  rw [numOf_nI ha]
  rfl

theorem ints_len {w : World} {A : Option Addr} {n c : Nat} {xs : List Int} (h : Ints w (.slice A n c) xs) : xs.length = n := by
  obtain ⟨A', n', c', e, _, h1⟩ := h
  injection e with _ e2 _
  rw [e2]; exact h1.len
theorem nI_len (n : Nat) : (nI n).length = (dg n).length := by unfold nI; rw [List.length_map]
theorem nI_zero : nI 0 = [] := by unfold nI; rw [dg_zero]; rfl
theorem nI_ne {n m : Nat} (h : (nI n).length = m) (h0 : n ≠ 0) : m ≠ 0 := by
  rw [← h, nI_len]
  exact fun e => h0 (dg_eq_nil.1 (List.length_eq_zero_iff.1 e))
theorem zero_form {w : World} {v : Value} (h : Ints w v (nI 0)) : ∃ A c, v = .slice A 0 c := by
  obtain ⟨A, n, c, rfl, hn, h1⟩ := h
  have := h1.len
  rw [nI_zero] at this
  simp at this
  subst this
  exact ⟨A, c, rfl⟩
theorem lit_nI (w : World) (n : Nat) (h0 : n ≠ 0) (h : n < 65536) : Ints (w.alloc (.cells #[.int .i64 (n : Int)] 3)) (.slice (some ⟨w.heap.size, 0, none⟩) 1 1) (nI n) := by
  rw [nI_small h0 h]
  exact lit_ints w [(n : Int)] 1 rfl (by omega)
theorem two_lt {n k : Nat} (h : n < 16 * k) : 2 ^ n < pw k := by
  unfold pw
  rw [show (65536 : Nat) = 2 ^ 16 from rfl, ← Nat.pow_mul]
  exact Nat.pow_lt_pow_right (by omega) h
theorem pow_lt {a i n : Nat} (h : a < pw i) : a ^ n < pw (i * n + 1) := by
  have h1 : a ^ n ≤ pw (i * n) := by
    unfold pw at h ⊢
    rw [Nat.pow_mul]
    exact Nat.pow_le_pow_left (Nat.le_of_lt h) n
  have h2 := pw_two (show i * n < i * n + 1 by omega)
  have := pw_pos (i * n)
  omega
theorem lb_two {a n : Nat} (h : a ≠ 0) : lb (a * 2 ^ n) = lb a + n := by
  have := lb_shift a h n 0 (Nat.two_pow_pos n)
  rw [Nat.zero_add, Nat.mul_comm] at this
  omega
theorem cmpN_swap (a b : Nat) : cmpN b a = -cmpN a b := by
  unfold cmpN
  split <;> split <;> (try split) <;> omega
theorem cmpN_zero (a b : Nat) : decide (nI a = nI b) = (cmpN a b == 0) := by
  rcases Nat.lt_trichotomy a b with h | h | h
  · rw [cmpN_lt h, decide_eq_false]
    · rfl
    · intro e
      have h1 : numOf (nI a) = numOf (nI b) := by rw [e]
      have h2 : dg a = dg b := by
        have := congrArg (List.map Int.toNat) e
        unfold nI at this
        rw [List.map_map, List.map_map] at this
        have hid : (Int.toNat ∘ fun d : Nat => (d : Int)) = id := by funext d; simp
        rw [hid, List.map_id, List.map_id] at this
        exact this
      have h3 := congrArg vl h2
      rw [vl_dg, vl_dg] at h3
      omega
  · subst h
    rw [cmpN_eq, decide_eq_true rfl]
    rfl
  · rw [cmpN_gt h, decide_eq_false]
    · rfl
    · intro e
      have h2 : dg a = dg b := by
        have := congrArg (List.map Int.toNat) e
        unfold nI at this
        rw [List.map_map, List.map_map] at this
        have hid : (Int.toNat ∘ fun d : Nat => (d : Int)) = id := by funext d; simp
        rw [hid, List.map_id, List.map_id] at this
        exact this
      have h3 := congrArg vl h2
      rw [vl_dg, vl_dg] at h3
      omega
theorem cmpN_add (a b c : Nat) : cmpN (a + c) (b + c) = cmpN a b := by
  unfold cmpN
  split <;> split <;> (try split) <;> (try split) <;> omega
theorem cmpN_mul {a b c : Nat} (hc : c ≠ 0) : cmpN (a * c) (b * c) = cmpN a b := by
  have hp : 0 < c := Nat.pos_of_ne_zero hc
  rcases Nat.lt_trichotomy a b with h | h | h
  · rw [cmpN_lt h, cmpN_lt ((Nat.mul_lt_mul_right hp).2 h)]
  · subst h; rw [cmpN_eq, cmpN_eq]
  · rw [cmpN_gt h, cmpN_gt ((Nat.mul_lt_mul_right hp).2 h)]

end Go.Proofs.YtheadamdhjhnpaaDoor
