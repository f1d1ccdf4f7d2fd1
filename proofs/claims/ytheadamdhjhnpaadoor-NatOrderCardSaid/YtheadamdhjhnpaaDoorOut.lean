/-
  The calls of nat and of its reference at slices known by what they hold.
-/
import Derived.Test.YtheadamdhjhnpaaDoorParse
namespace Go.Proofs.YtheadamdhjhnpaaDoor
open Go.RowKit

/-- In w, the value is a slice that holds these integers. -/
def Ints (w : World) (v : Value) (xs : List Int) : Prop := ∃ A n c, v = .slice A n c ∧ n ≤ 9223372036854775807 ∧ Arr iv w w.heap.size (.slice A n c) xs
theorem Ints.up {w w' : World} {v : Value} {xs : List Int} (h : Ints w v xs) (hb : Below w.heap.size w w') : Ints w' v xs := by
  obtain ⟨A, n, c, e, hn, h1⟩ := h
  exact ⟨A, n, c, e, hn, h1.up hb⟩
theorem Ints.nil_ (w : World) : Ints w (.slice none 0 0) [] := ⟨none, 0, 0, rfl, by omega, Arr.nil_ _ _⟩
def nI (n : Nat) : List Int := (dg n).map fun d : Nat => (d : Int)
def resI (r : Except Nat Nat) : List Int := (resL r).map fun d : Nat => (d : Int)
theorem resL_len (r : Except Nat Nat) {A : Option Addr} {c : Nat} {w : World} (h : Arr nv w w.heap.size (.slice A (resL r).length c) (resL r)) (hb : (resL r).length ≤ 9223372036854775807) : Ints w (.slice A (resL r).length c) (resI r) :=
  ⟨A, _, c, rfl, hb, h.int⟩
theorem numOf_nI {n : Nat} (h : n < pw 128) : numOf (nI n) = some n := numOf_dg h

theorem limit_cases (n : Nat) : ∃ r, limit n = r ∧ ((∃ m, m < pw 128 ∧ r = .ok m) ∨ ∃ k, r = .error k) := by
  by_cases h : n < pw 128
  · exact ⟨_, if_pos h, .inl ⟨n, h, rfl⟩⟩
  · exact ⟨_, if_neg h, .inr ⟨3, rfl⟩⟩
def Good (r : Except Nat Nat) : Prop := (resL r).length ≤ 9223372036854775807
theorem good_err (k : Nat) : Good (.error k) := by show (0 : Nat) ≤ _; omega
theorem good_ok {n : Nat} (h : n < pw 128) : Good (.ok n) := Nat.le_trans (dg_len_pw h) (by omega)
theorem good_limit (n : Nat) : Good (limit n) := by
  unfold limit
  split
  · rename_i h; exact good_ok h
  · exact good_err 3
theorem numOf_lt {xs : List Int} {n : Nat} (h : numOf xs = some n) : n < pw 128 := (numOf_some h).2.1
theorem good_add (xs ys : List Int) : Good (addR (numOf xs) (numOf ys)) := by
  unfold addR; split
  · exact good_limit _
  · exact good_err 1
theorem good_mul (xs ys : List Int) : Good (mulR (numOf xs) (numOf ys)) := by
  unfold mulR; split
  · exact good_limit _
  · exact good_err 1
theorem good_sub (xs ys : List Int) : Good (subR (numOf xs) (numOf ys)) := by
  unfold subR; split
  · rename_i a b h1 h2
    split
    · exact good_ok (Nat.lt_of_le_of_lt (Nat.sub_le _ _) (numOf_lt h1))
    · exact good_err 2
  · exact good_err 1
theorem good_gcd (xs ys : List Int) : Good (gcdR (numOf xs) (numOf ys)) := by
  unfold gcdR; split
  · rename_i a b h1 h2
    rcases Nat.eq_zero_or_pos a with h0 | h0
    · rw [h0, Nat.gcd_zero_left]; exact good_ok (numOf_lt h2)
    · exact good_ok (Nat.lt_of_le_of_lt (Nat.le_of_dvd h0 (Nat.gcd_dvd_left a b)) (numOf_lt h1))
  · exact good_err 1
theorem good_divQ (xs ys : List Int) : Good (divQ (numOf xs) (numOf ys)) := by
  unfold divQ; split
  · rename_i a b h1 h2
    split
    · exact good_err 1
    · exact good_ok (Nat.lt_of_le_of_lt (Nat.div_le_self _ _) (numOf_lt h1))
  · exact good_err 1
theorem good_divR (xs ys : List Int) : Good (divR (numOf xs) (numOf ys)) := by
  unfold divR; split
  · rename_i a b h1 h2
    split
    · exact good_err 1
    · exact good_ok (Nat.lt_of_le_of_lt (Nat.mod_le _ _) (numOf_lt h1))
  · exact good_err 1
theorem good_pow (xs : List Int) (p : Int) : Good (powR (numOf xs) p) := by
  unfold powR; split
  · split
    · exact good_err 2
    · exact good_limit _
  · exact good_err 1
theorem good_shift (xs : List Int) (p : Int) : Good (shiftR (numOf xs) p) := by
  unfold shiftR; split
  · split
    · exact good_err 2
    · exact good_limit _
  · exact good_err 1
theorem good_of (n : Int) (h : n ≤ 9223372036854775807) : Good (ofR n) := by
  unfold ofR; split
  · exact good_err 2
  · refine good_ok (Nat.lt_of_lt_of_le (show n.toNat < pw 4 from ?_) (pw_mono (by omega)))
    have : pw 4 = 18446744073709551616 := by decide
    omega
theorem good_parse (s : List UInt8) : Good (parseR s) := by
  unfold parseR; split
  · exact good_limit _
  · exact good_err 7

theorem natAdd_at (W : World) (v v' : Value) (xs ys : List Int) (r : Except Nat Nat) (w : World) (hk : Below W.heap.size W w) (h : Ints w v xs) (h' : Ints w v' ys) (hr : addR (numOf xs) (numOf ys) = r) :
    Calls Tryd.prog 25 #[v, v'] w fun e w' => ∃ u, e = .returned (.tuple #[u, .int .i64 (code r : Int)]) ∧ Ints w' u (resI r) ∧ Below W.heap.size W w' ∧ Below w.heap.size w w' := by
  obtain ⟨A, n, c, rfl, hn, h1⟩ := h
  obtain ⟨A', n', c', rfl, hn', h2⟩ := h'
  have hg := good_add xs ys
  rw [hr] at hg
  refine (natAdd_any A A' n n' c c' xs ys w h1 h2 hn hn').mono ?_
  rintro e w' ⟨h3, h4⟩
  rw [hr] at h3
  obtain ⟨A3, c3, h5, h6⟩ := h3
  exact ⟨_, h5, resL_len r h6 hg, below_next hk h4, h4⟩
theorem natSub_at (W : World) (v v' : Value) (xs ys : List Int) (r : Except Nat Nat) (w : World) (hk : Below W.heap.size W w) (h : Ints w v xs) (h' : Ints w v' ys) (hr : subR (numOf xs) (numOf ys) = r) :
    Calls Tryd.prog 27 #[v, v'] w fun e w' => ∃ u, e = .returned (.tuple #[u, .int .i64 (code r : Int)]) ∧ Ints w' u (resI r) ∧ Below W.heap.size W w' ∧ Below w.heap.size w w' := by
  obtain ⟨A, n, c, rfl, hn, h1⟩ := h
  obtain ⟨A', n', c', rfl, hn', h2⟩ := h'
  have hg := good_sub xs ys
  rw [hr] at hg
  refine (natSub_any A A' n n' c c' xs ys w h1 h2 hn hn').mono ?_
  rintro e w' ⟨h3, h4⟩
  rw [hr] at h3
  obtain ⟨A3, c3, h5, h6⟩ := h3
  exact ⟨_, h5, resL_len r h6 hg, below_next hk h4, h4⟩
theorem natMul_at (W : World) (v v' : Value) (xs ys : List Int) (r : Except Nat Nat) (w : World) (hk : Below W.heap.size W w) (h : Ints w v xs) (h' : Ints w v' ys) (hr : mulR (numOf xs) (numOf ys) = r) :
    Calls Tryd.prog 29 #[v, v'] w fun e w' => ∃ u, e = .returned (.tuple #[u, .int .i64 (code r : Int)]) ∧ Ints w' u (resI r) ∧ Below W.heap.size W w' ∧ Below w.heap.size w w' := by
  obtain ⟨A, n, c, rfl, hn, h1⟩ := h
  obtain ⟨A', n', c', rfl, hn', h2⟩ := h'
  have hg := good_mul xs ys
  rw [hr] at hg
  refine (natMul_any A A' n n' c c' xs ys w h1 h2 hn hn').mono ?_
  rintro e w' ⟨h3, h4⟩
  rw [hr] at h3
  obtain ⟨A3, c3, h5, h6⟩ := h3
  exact ⟨_, h5, resL_len r h6 hg, below_next hk h4, h4⟩
theorem natGcd_at (W : World) (v v' : Value) (xs ys : List Int) (r : Except Nat Nat) (w : World) (hk : Below W.heap.size W w) (h : Ints w v xs) (h' : Ints w v' ys) (hr : gcdR (numOf xs) (numOf ys) = r) :
    Calls Tryd.prog 37 #[v, v'] w fun e w' => ∃ u, e = .returned (.tuple #[u, .int .i64 (code r : Int)]) ∧ Ints w' u (resI r) ∧ Below W.heap.size W w' ∧ Below w.heap.size w w' := by
  obtain ⟨A, n, c, rfl, hn, h1⟩ := h
  obtain ⟨A', n', c', rfl, hn', h2⟩ := h'
  have hg := good_gcd xs ys
  rw [hr] at hg
  refine (natGcd_any A A' n n' c c' xs ys w h1 h2 hn hn').mono ?_
  rintro e w' ⟨h3, h4⟩
  rw [hr] at h3
  obtain ⟨A3, c3, h5, h6⟩ := h3
  exact ⟨_, h5, resL_len r h6 hg, below_next hk h4, h4⟩
theorem natDivide_at (W : World) (v v' : Value) (xs ys : List Int) (q r : Except Nat Nat) (w : World) (hk : Below W.heap.size W w) (h : Ints w v xs) (h' : Ints w v' ys) (hq : divQ (numOf xs) (numOf ys) = q) (hr : divR (numOf xs) (numOf ys) = r) :
    Calls Tryd.prog 31 #[v, v'] w fun e w' => ∃ u u', e = .returned (.tuple #[u, u', .int .i64 (code q : Int)]) ∧ Ints w' u (resI q) ∧ Ints w' u' (resI r) ∧ Below W.heap.size W w' ∧ Below w.heap.size w w' := by
  obtain ⟨A, n, c, rfl, hn, h1⟩ := h
  obtain ⟨A', n', c', rfl, hn', h2⟩ := h'
  have hg := good_divQ xs ys
  have hg2 := good_divR xs ys
  rw [hq] at hg
  rw [hr] at hg2
  refine (natDivide_any A A' n n' c c' xs ys w h1 h2 hn hn').mono ?_
  rintro e w' ⟨h3, h4⟩
  rw [hq, hr] at h3
  obtain ⟨A3, c3, A4, c4, h5, h6, h7⟩ := h3
  exact ⟨_, _, h5, resL_len q h6 hg, resL_len r h7 hg2, below_next hk h4, h4⟩
theorem natCompare_at (W : World) (v v' : Value) (xs ys : List Int) (z : Int) (w : World) (hk : Below W.heap.size W w) (h : Ints w v xs) (h' : Ints w v' ys) (hz : cmpR (numOf xs) (numOf ys) = z) :
    Calls Tryd.prog 21 #[v, v'] w fun e w' => e = .returned (.int .i64 z) ∧ Below W.heap.size W w' ∧ Below w.heap.size w w' := by
  obtain ⟨A, n, c, rfl, hn, h1⟩ := h
  obtain ⟨A', n', c', rfl, hn', h2⟩ := h'
  subst hz
  exact (natCompare_any A A' n n' c c' xs ys w h1 h2 hn hn').mono fun _ _ ⟨h3, h4⟩ => ⟨h3, below_next hk h4, h4⟩
theorem natPower_at (W : World) (v : Value) (xs : List Int) (p : Int) (r : Except Nat Nat) (w : World) (hk : Below W.heap.size W w) (h : Ints w v xs) (hr : powR (numOf xs) p = r) :
    Calls Tryd.prog 33 #[v, .int .i64 p] w fun e w' => ∃ u, e = .returned (.tuple #[u, .int .i64 (code r : Int)]) ∧ Ints w' u (resI r) ∧ Below W.heap.size W w' ∧ Below w.heap.size w w' := by
  obtain ⟨A, n, c, rfl, hn, h1⟩ := h
  have hg := good_pow xs p
  rw [hr] at hg
  refine (natPower_any A n c xs p w h1 hn).mono ?_
  rintro e w' ⟨h3, h4⟩
  rw [hr] at h3
  obtain ⟨A3, c3, h5, h6⟩ := h3
  exact ⟨_, h5, resL_len r h6 hg, below_next hk h4, h4⟩
theorem natShift_at (W : World) (v : Value) (xs : List Int) (p : Int) (r : Except Nat Nat) (w : World) (hk : Below W.heap.size W w) (h : Ints w v xs) (hr : shiftR (numOf xs) p = r) :
    Calls Tryd.prog 35 #[v, .int .i64 p] w fun e w' => ∃ u, e = .returned (.tuple #[u, .int .i64 (code r : Int)]) ∧ Ints w' u (resI r) ∧ Below W.heap.size W w' ∧ Below w.heap.size w w' := by
  obtain ⟨A, n, c, rfl, hn, h1⟩ := h
  have hg := good_shift xs p
  rw [hr] at hg
  refine (natShift_any A n c xs p w h1 hn).mono ?_
  rintro e w' ⟨h3, h4⟩
  rw [hr] at h3
  obtain ⟨A3, c3, h5, h6⟩ := h3
  exact ⟨_, h5, resL_len r h6 hg, below_next hk h4, h4⟩
theorem natOf_at (W : World) (n : Int) (hn : n ≤ 9223372036854775807) (r : Except Nat Nat) (w : World) (hk : Below W.heap.size W w) (hr : ofR n = r) :
    Calls Tryd.prog 14 #[.int .i64 n] w fun e w' => ∃ u, e = .returned (.tuple #[u, .int .i64 (code r : Int)]) ∧ Ints w' u (resI r) ∧ Below W.heap.size W w' ∧ Below w.heap.size w w' := by
  have hg := good_of n hn
  rw [hr] at hg
  refine (natOf_any n hn w).mono ?_
  rintro e w' ⟨h3, h4⟩
  rw [hr] at h3
  obtain ⟨A3, c3, h5, h6⟩ := h3
  exact ⟨_, h5, resL_len r h6 hg, below_next hk h4, h4⟩
theorem natInt_at (v : Value) (xs : List Int) (r : Except Nat Nat) (w : World) (h : Ints w v xs) (hr : intR (numOf xs) = r) :
    Calls Tryd.prog 16 #[v] w fun e w' => e = .returned (.tuple #[.int .i64 (valOf r : Int), .int .i64 (code r : Int)]) ∧ w = w' := by
  obtain ⟨A, n, c, rfl, hn, h1⟩ := h
  subst hr
  exact natInt_any A n c xs w h1 hn
theorem natBits_at (v : Value) (xs : List Int) (m : Nat) (w : World) (h : Ints w v xs) (hm : bitsR (numOf xs) = m) :
    Calls Tryd.prog 23 #[v] w fun e w' => e = .returned (.int .i64 (m : Int)) ∧ w = w' := by
  obtain ⟨A, n, c, rfl, hn, h1⟩ := h
  subst hm
  exact natBits_any A n c xs w h1 hn
theorem natValid_at (v : Value) (xs : List Int) (b : Bool) (w : World) (h : Ints w v xs) (hb : validB xs = b) :
    Calls Tryd.prog 19 #[v] w fun e w' => e = .returned (.bool b) ∧ w = w' := by
  obtain ⟨A, n, c, rfl, hn, h1⟩ := h
  subst hb
  exact natValid_any A n c xs w h1 hn
theorem natShow_at (W : World) (v : Value) (xs : List Int) (s : List UInt8) (k : Nat) (w : World) (hk : Below W.heap.size W w) (h : Ints w v xs) (hs : showS (numOf xs) = s) (hc : showC (numOf xs) = k) :
    Calls Tryd.prog 40 #[v] w fun e w' => e = .returned (.tuple #[.string (str s), .int .i64 (k : Int)]) ∧ Below W.heap.size W w' ∧ Below w.heap.size w w' := by
  obtain ⟨A, n, c, rfl, hn, h1⟩ := h
  subst hs hc
  exact (natShow_any A n c xs w h1 hn).mono fun _ _ ⟨h3, h4⟩ => ⟨h3, below_next hk h4, h4⟩
theorem natParse_at (W : World) (s : List UInt8) (hlen : s.length ≤ 1000000000000) (r : Except Nat Nat) (w : World) (hk : Below W.heap.size W w) (hr : parseR s = r) :
    Calls Tryd.prog 42 #[.string (str s)] w fun e w' => ∃ u, e = .returned (.tuple #[u, .int .i64 (code r : Int)]) ∧ Ints w' u (resI r) ∧ Below W.heap.size W w' ∧ Below w.heap.size w w' := by
  have hg := good_parse s
  rw [hr] at hg
  refine (natParse_any s w hlen).mono ?_
  rintro e w' ⟨h3, h4⟩
  rw [hr] at h3
  obtain ⟨A3, c3, h5, h6⟩ := h3
  exact ⟨_, h5, resL_len r h6 hg, below_next hk h4, h4⟩
theorem refAdd_at (W : World) (v v' : Value) (xs ys : List Int) (r : Except Nat Nat) (w : World) (hk : Below W.heap.size W w) (h : Ints w v xs) (h' : Ints w v' ys) (hr : addR (numOf xs) (numOf ys) = r) :
    Calls Tryd.prog 26 #[v, v'] w fun e w' => ∃ u, e = .returned (.tuple #[u, .int .i64 (code r : Int)]) ∧ Ints w' u (resI r) ∧ Below W.heap.size W w' ∧ Below w.heap.size w w' := by
  obtain ⟨A, n, c, rfl, hn, h1⟩ := h
  obtain ⟨A', n', c', rfl, hn', h2⟩ := h'
  have hg := good_add xs ys
  rw [hr] at hg
  refine (refAdd_any A A' n n' c c' xs ys w h1 h2 hn hn').mono ?_
  rintro e w' ⟨h3, h4⟩
  rw [hr] at h3
  obtain ⟨A3, c3, h5, h6⟩ := h3
  exact ⟨_, h5, resL_len r h6 hg, below_next hk h4, h4⟩
theorem refSub_at (W : World) (v v' : Value) (xs ys : List Int) (r : Except Nat Nat) (w : World) (hk : Below W.heap.size W w) (h : Ints w v xs) (h' : Ints w v' ys) (hr : subR (numOf xs) (numOf ys) = r) :
    Calls Tryd.prog 28 #[v, v'] w fun e w' => ∃ u, e = .returned (.tuple #[u, .int .i64 (code r : Int)]) ∧ Ints w' u (resI r) ∧ Below W.heap.size W w' ∧ Below w.heap.size w w' := by
  obtain ⟨A, n, c, rfl, hn, h1⟩ := h
  obtain ⟨A', n', c', rfl, hn', h2⟩ := h'
  have hg := good_sub xs ys
  rw [hr] at hg
  refine (refSub_any A A' n n' c c' xs ys w h1 h2 hn hn').mono ?_
  rintro e w' ⟨h3, h4⟩
  rw [hr] at h3
  obtain ⟨A3, c3, h5, h6⟩ := h3
  exact ⟨_, h5, resL_len r h6 hg, below_next hk h4, h4⟩
theorem refMul_at (W : World) (v v' : Value) (xs ys : List Int) (r : Except Nat Nat) (w : World) (hk : Below W.heap.size W w) (h : Ints w v xs) (h' : Ints w v' ys) (hr : mulR (numOf xs) (numOf ys) = r) :
    Calls Tryd.prog 30 #[v, v'] w fun e w' => ∃ u, e = .returned (.tuple #[u, .int .i64 (code r : Int)]) ∧ Ints w' u (resI r) ∧ Below W.heap.size W w' ∧ Below w.heap.size w w' := by
  obtain ⟨A, n, c, rfl, hn, h1⟩ := h
  obtain ⟨A', n', c', rfl, hn', h2⟩ := h'
  have hg := good_mul xs ys
  rw [hr] at hg
  refine (refMul_any A A' n n' c c' xs ys w h1 h2 hn hn').mono ?_
  rintro e w' ⟨h3, h4⟩
  rw [hr] at h3
  obtain ⟨A3, c3, h5, h6⟩ := h3
  exact ⟨_, h5, resL_len r h6 hg, below_next hk h4, h4⟩
theorem refGcd_at (W : World) (v v' : Value) (xs ys : List Int) (r : Except Nat Nat) (w : World) (hk : Below W.heap.size W w) (h : Ints w v xs) (h' : Ints w v' ys) (hr : gcdR (numOf xs) (numOf ys) = r) :
    Calls Tryd.prog 38 #[v, v'] w fun e w' => ∃ u, e = .returned (.tuple #[u, .int .i64 (code r : Int)]) ∧ Ints w' u (resI r) ∧ Below W.heap.size W w' ∧ Below w.heap.size w w' := by
  obtain ⟨A, n, c, rfl, hn, h1⟩ := h
  obtain ⟨A', n', c', rfl, hn', h2⟩ := h'
  have hg := good_gcd xs ys
  rw [hr] at hg
  refine (refGcd_any A A' n n' c c' xs ys w h1 h2 hn hn').mono ?_
  rintro e w' ⟨h3, h4⟩
  rw [hr] at h3
  obtain ⟨A3, c3, h5, h6⟩ := h3
  exact ⟨_, h5, resL_len r h6 hg, below_next hk h4, h4⟩
theorem refDivide_at (W : World) (v v' : Value) (xs ys : List Int) (q r : Except Nat Nat) (w : World) (hk : Below W.heap.size W w) (h : Ints w v xs) (h' : Ints w v' ys) (hq : divQ (numOf xs) (numOf ys) = q) (hr : divR (numOf xs) (numOf ys) = r) :
    Calls Tryd.prog 32 #[v, v'] w fun e w' => ∃ u u', e = .returned (.tuple #[u, u', .int .i64 (code q : Int)]) ∧ Ints w' u (resI q) ∧ Ints w' u' (resI r) ∧ Below W.heap.size W w' ∧ Below w.heap.size w w' := by
  obtain ⟨A, n, c, rfl, hn, h1⟩ := h
  obtain ⟨A', n', c', rfl, hn', h2⟩ := h'
  have hg := good_divQ xs ys
  have hg2 := good_divR xs ys
  rw [hq] at hg
  rw [hr] at hg2
  refine (refDivide_any A A' n n' c c' xs ys w h1 h2 hn hn').mono ?_
  rintro e w' ⟨h3, h4⟩
  rw [hq, hr] at h3
  obtain ⟨A3, c3, A4, c4, h5, h6, h7⟩ := h3
  exact ⟨_, _, h5, resL_len q h6 hg, resL_len r h7 hg2, below_next hk h4, h4⟩
theorem refCompare_at (W : World) (v v' : Value) (xs ys : List Int) (z : Int) (w : World) (hk : Below W.heap.size W w) (h : Ints w v xs) (h' : Ints w v' ys) (hz : cmpR (numOf xs) (numOf ys) = z) :
    Calls Tryd.prog 22 #[v, v'] w fun e w' => e = .returned (.int .i64 z) ∧ Below W.heap.size W w' ∧ Below w.heap.size w w' := by
  obtain ⟨A, n, c, rfl, hn, h1⟩ := h
  obtain ⟨A', n', c', rfl, hn', h2⟩ := h'
  subst hz
  exact (refCompare_any A A' n n' c c' xs ys w h1 h2 hn hn').mono fun _ _ ⟨h3, h4⟩ => ⟨h3, below_next hk h4, h4⟩
theorem refPower_at (W : World) (v : Value) (xs : List Int) (p : Int) (r : Except Nat Nat) (w : World) (hk : Below W.heap.size W w) (h : Ints w v xs) (hr : powR (numOf xs) p = r) :
    Calls Tryd.prog 34 #[v, .int .i64 p] w fun e w' => ∃ u, e = .returned (.tuple #[u, .int .i64 (code r : Int)]) ∧ Ints w' u (resI r) ∧ Below W.heap.size W w' ∧ Below w.heap.size w w' := by
  obtain ⟨A, n, c, rfl, hn, h1⟩ := h
  have hg := good_pow xs p
  rw [hr] at hg
  refine (refPower_any A n c xs p w h1 hn).mono ?_
  rintro e w' ⟨h3, h4⟩
  rw [hr] at h3
  obtain ⟨A3, c3, h5, h6⟩ := h3
  exact ⟨_, h5, resL_len r h6 hg, below_next hk h4, h4⟩
theorem refShift_at (W : World) (v : Value) (xs : List Int) (p : Int) (r : Except Nat Nat) (w : World) (hk : Below W.heap.size W w) (h : Ints w v xs) (hr : shiftR (numOf xs) p = r) :
    Calls Tryd.prog 36 #[v, .int .i64 p] w fun e w' => ∃ u, e = .returned (.tuple #[u, .int .i64 (code r : Int)]) ∧ Ints w' u (resI r) ∧ Below W.heap.size W w' ∧ Below w.heap.size w w' := by
  obtain ⟨A, n, c, rfl, hn, h1⟩ := h
  have hg := good_shift xs p
  rw [hr] at hg
  refine (refShift_any A n c xs p w h1 hn).mono ?_
  rintro e w' ⟨h3, h4⟩
  rw [hr] at h3
  obtain ⟨A3, c3, h5, h6⟩ := h3
  exact ⟨_, h5, resL_len r h6 hg, below_next hk h4, h4⟩
theorem refOf_at (W : World) (n : Int) (hn : n ≤ 9223372036854775807) (r : Except Nat Nat) (w : World) (hk : Below W.heap.size W w) (hr : ofR n = r) :
    Calls Tryd.prog 15 #[.int .i64 n] w fun e w' => ∃ u, e = .returned (.tuple #[u, .int .i64 (code r : Int)]) ∧ Ints w' u (resI r) ∧ Below W.heap.size W w' ∧ Below w.heap.size w w' := by
  have hg := good_of n hn
  rw [hr] at hg
  refine (refOf_any n hn w).mono ?_
  rintro e w' ⟨h3, h4⟩
  rw [hr] at h3
  obtain ⟨A3, c3, h5, h6⟩ := h3
  exact ⟨_, h5, resL_len r h6 hg, below_next hk h4, h4⟩
theorem refInt_at (v : Value) (xs : List Int) (r : Except Nat Nat) (w : World) (h : Ints w v xs) (hr : intR (numOf xs) = r) :
    Calls Tryd.prog 17 #[v] w fun e w' => e = .returned (.tuple #[.int .i64 (valOf r : Int), .int .i64 (code r : Int)]) ∧ w = w' := by
  obtain ⟨A, n, c, rfl, hn, h1⟩ := h
  subst hr
  exact refInt_any A n c xs w h1 hn
theorem refBits_at (v : Value) (xs : List Int) (m : Nat) (w : World) (h : Ints w v xs) (hm : bitsR (numOf xs) = m) :
    Calls Tryd.prog 24 #[v] w fun e w' => e = .returned (.int .i64 (m : Int)) ∧ w = w' := by
  obtain ⟨A, n, c, rfl, hn, h1⟩ := h
  subst hm
  exact refBits_any A n c xs w h1 hn
theorem refValid_at (v : Value) (xs : List Int) (b : Bool) (w : World) (h : Ints w v xs) (hb : validB xs = b) :
    Calls Tryd.prog 20 #[v] w fun e w' => e = .returned (.bool b) ∧ w = w' := by
  obtain ⟨A, n, c, rfl, hn, h1⟩ := h
  subst hb
  exact refValid_any A n c xs w h1 hn
theorem refShow_at (W : World) (v : Value) (xs : List Int) (s : List UInt8) (k : Nat) (w : World) (hk : Below W.heap.size W w) (h : Ints w v xs) (hs : showS (numOf xs) = s) (hc : showC (numOf xs) = k) :
    Calls Tryd.prog 41 #[v] w fun e w' => e = .returned (.tuple #[.string (str s), .int .i64 (k : Int)]) ∧ Below W.heap.size W w' ∧ Below w.heap.size w w' := by
  obtain ⟨A, n, c, rfl, hn, h1⟩ := h
  subst hs hc
  exact (refShow_any A n c xs w h1 hn).mono fun _ _ ⟨h3, h4⟩ => ⟨h3, below_next hk h4, h4⟩
theorem refParse_at (W : World) (s : List UInt8) (hlen : s.length ≤ 1000000000000) (r : Except Nat Nat) (w : World) (hk : Below W.heap.size W w) (hr : parseR s = r) :
    Calls Tryd.prog 43 #[.string (str s)] w fun e w' => ∃ u, e = .returned (.tuple #[u, .int .i64 (code r : Int)]) ∧ Ints w' u (resI r) ∧ Below W.heap.size W w' ∧ Below w.heap.size w w' := by
  have hg := good_parse s
  rw [hr] at hg
  refine (refParse_any s w hlen).mono ?_
  rintro e w' ⟨h3, h4⟩
  rw [hr] at h3
  obtain ⟨A3, c3, h5, h6⟩ := h3
  exact ⟨_, h5, resL_len r h6 hg, below_next hk h4, h4⟩
theorem natAdd_ok (W : World) (v v' : Value) (xs ys : List Int) (m : Nat) (w : World) (hk : Below W.heap.size W w) (h : Ints w v xs) (h' : Ints w v' ys) (hr : addR (numOf xs) (numOf ys) = .ok m) :
    Calls Tryd.prog 25 #[v, v'] w fun e w' => ∃ u, e = .returned (.tuple #[u, .int .i64 0]) ∧ Ints w' u (nI m) ∧ Below W.heap.size W w' ∧ Below w.heap.size w w' :=
  natAdd_at W v v' xs ys (.ok m) w hk h h' hr
theorem natSub_ok (W : World) (v v' : Value) (xs ys : List Int) (m : Nat) (w : World) (hk : Below W.heap.size W w) (h : Ints w v xs) (h' : Ints w v' ys) (hr : subR (numOf xs) (numOf ys) = .ok m) :
    Calls Tryd.prog 27 #[v, v'] w fun e w' => ∃ u, e = .returned (.tuple #[u, .int .i64 0]) ∧ Ints w' u (nI m) ∧ Below W.heap.size W w' ∧ Below w.heap.size w w' :=
  natSub_at W v v' xs ys (.ok m) w hk h h' hr
theorem natMul_ok (W : World) (v v' : Value) (xs ys : List Int) (m : Nat) (w : World) (hk : Below W.heap.size W w) (h : Ints w v xs) (h' : Ints w v' ys) (hr : mulR (numOf xs) (numOf ys) = .ok m) :
    Calls Tryd.prog 29 #[v, v'] w fun e w' => ∃ u, e = .returned (.tuple #[u, .int .i64 0]) ∧ Ints w' u (nI m) ∧ Below W.heap.size W w' ∧ Below w.heap.size w w' :=
  natMul_at W v v' xs ys (.ok m) w hk h h' hr
theorem natGcd_ok (W : World) (v v' : Value) (xs ys : List Int) (m : Nat) (w : World) (hk : Below W.heap.size W w) (h : Ints w v xs) (h' : Ints w v' ys) (hr : gcdR (numOf xs) (numOf ys) = .ok m) :
    Calls Tryd.prog 37 #[v, v'] w fun e w' => ∃ u, e = .returned (.tuple #[u, .int .i64 0]) ∧ Ints w' u (nI m) ∧ Below W.heap.size W w' ∧ Below w.heap.size w w' :=
  natGcd_at W v v' xs ys (.ok m) w hk h h' hr
theorem natDivide_ok (W : World) (v v' : Value) (xs ys : List Int) (m k : Nat) (w : World) (hk : Below W.heap.size W w) (h : Ints w v xs) (h' : Ints w v' ys) (hq : divQ (numOf xs) (numOf ys) = .ok m) (hr : divR (numOf xs) (numOf ys) = .ok k) :
    Calls Tryd.prog 31 #[v, v'] w fun e w' => ∃ u u', e = .returned (.tuple #[u, u', .int .i64 0]) ∧ Ints w' u (nI m) ∧ Ints w' u' (nI k) ∧ Below W.heap.size W w' ∧ Below w.heap.size w w' :=
  natDivide_at W v v' xs ys (.ok m) (.ok k) w hk h h' hq hr
theorem natPower_ok (W : World) (v : Value) (xs : List Int) (p : Int) (m : Nat) (w : World) (hk : Below W.heap.size W w) (h : Ints w v xs) (hr : powR (numOf xs) p = .ok m) :
    Calls Tryd.prog 33 #[v, .int .i64 p] w fun e w' => ∃ u, e = .returned (.tuple #[u, .int .i64 0]) ∧ Ints w' u (nI m) ∧ Below W.heap.size W w' ∧ Below w.heap.size w w' :=
  natPower_at W v xs p (.ok m) w hk h hr
theorem natOf_ok (W : World) (n : Int) (hn : n ≤ 9223372036854775807) (m : Nat) (w : World) (hk : Below W.heap.size W w) (hr : ofR n = .ok m) :
    Calls Tryd.prog 14 #[.int .i64 n] w fun e w' => ∃ u, e = .returned (.tuple #[u, .int .i64 0]) ∧ Ints w' u (nI m) ∧ Below W.heap.size W w' ∧ Below w.heap.size w w' :=
  natOf_at W n hn (.ok m) w hk hr
theorem natShow_ok (W : World) (v : Value) (xs : List Int) (s : List UInt8) (w : World) (hk : Below W.heap.size W w) (h : Ints w v xs) (hs : showS (numOf xs) = s) (hc : showC (numOf xs) = 0) :
    Calls Tryd.prog 40 #[v] w fun e w' => e = .returned (.tuple #[.string (str s), .int .i64 0]) ∧ Below W.heap.size W w' ∧ Below w.heap.size w w' :=
  natShow_at W v xs s 0 w hk h hs hc
theorem natShift_ok (W : World) (v : Value) (xs : List Int) (p : Int) (m : Nat) (w : World) (hk : Below W.heap.size W w) (h : Ints w v xs) (hr : shiftR (numOf xs) p = .ok m) :
    Calls Tryd.prog 35 #[v, .int .i64 p] w fun e w' => ∃ u, e = .returned (.tuple #[u, .int .i64 0]) ∧ Ints w' u (nI m) ∧ Below W.heap.size W w' ∧ Below w.heap.size w w' :=
  natShift_at W v xs p (.ok m) w hk h hr

theorem same_at (W : World) (v v' : Value) (xs ys : List Int) (b : Bool) (w : World) (hk : Below W.heap.size W w) (h : Ints w v xs) (h' : Ints w v' ys) (hb : decide (xs = ys) = b) :
    Calls Tryd.prog 18 #[v, v'] w fun e w' => e = .returned (.bool b) ∧ Below W.heap.size W w' ∧ Below w.heap.size w w' := by
  obtain ⟨A, n, c, rfl, hn, h1⟩ := h
  obtain ⟨A', n', c', rfl, hn', h2⟩ := h'
  subst hb
  exact (same_any A A' n n' c c' xs ys w.heap.size w h1 h2 hn hn').mono fun _ _ ⟨h3, h4⟩ => ⟨h3, below_next hk (below_of_drew h4), below_of_drew h4⟩
theorem same_refl (W : World) (v v' : Value) (xs : List Int) (w : World) (hk : Below W.heap.size W w) (h : Ints w v xs) (h' : Ints w v' xs) :
    Calls Tryd.prog 18 #[v, v'] w fun e w' => e = .returned (.bool true) ∧ Below W.heap.size W w' ∧ Below w.heap.size w w' :=
  same_at W v v' xs xs true w hk h h' (decide_eq_true rfl)
theorem fewOne_at (v : Value) (xs : List Int) (b : Bool) (w : World) (h : Ints w v xs) (hb : fewB xs.length = b) :
    Calls Tryd.prog 39 #[v] w fun e w' => e = .returned (.bool b) ∧ w = w' := by
  obtain ⟨A, n, c, rfl, hn, h1⟩ := h
  subst hb
  rw [h1.len]
  exact few_any A n c w hn

set_option maxHeartbeats 800000 in
theorem few_at (v v' : Value) (xs ys : List Int) (b : Bool) (w : World) (h : Ints w v xs) (h' : Ints w v' ys) (hb : (fewB xs.length && fewB ys.length) = b) :
    Calls Tryd.prog 13 #[v, v'] w fun e w' => e = .returned (.bool b) ∧ w = w' := by
  subst hb
  cases hx : fewB xs.length with
  | false =>
    have HX := Lib.hid hx
    go_enter Tryd.func13, Tryd.ntmps13
    go_wp2_with fail
    refine (fewOne_at v xs false w h HX.out).mono ?_
    rintro e w1 ⟨rfl, rfl⟩
    go_wp2
    go_ret
    exact ⟨rfl, rfl⟩
  | true =>
    obtain ⟨b2, hb2⟩ : ∃ b2, fewB ys.length = b2 := ⟨_, rfl⟩
    have HX := Lib.hid hx
    have HY := Lib.hid hb2
    rw [hb2]
    clear hb2 hx
    go_enter Tryd.func13, Tryd.ntmps13
    go_wp2_with fail
    refine (fewOne_at v xs true w h HX.out).mono ?_
    rintro e w1 ⟨rfl, rfl⟩
    go_wp2_with fail
    refine (fewOne_at v' ys b2 w h' HY.out).mono ?_
    rintro e w1 ⟨rfl, rfl⟩
    go_wp2
    go_ret
    exact ⟨rfl, rfl⟩

end Go.Proofs.YtheadamdhjhnpaaDoor
