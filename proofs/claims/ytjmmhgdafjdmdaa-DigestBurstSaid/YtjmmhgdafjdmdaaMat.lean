/-
  The matrices of Join: their contracts.
-/
import Derived.Test.YtjmmhgdafjdmdaaMore
import Derived.Deep.QuietTactic
import Derived.BigQuiet
import Derived.Great.BuildSlice
namespace Go.Proofs.Ytjmmhgdafjdmdaa
open Go.RowKit

/-- The cells are what e shifts make of each bit. -/
def Mat (e : Nat) (cs : Array Value) : Prop := cs.size = 32 ∧ ∀ i, i < 32 → cs[i]? = some (.int .u32 ((shn e (bit i)).toNat : Int))
/-- The cells from k on. -/
def MatFrom (row : BitVec 32) (k : Nat) (cs : Array Value) : Prop := cs.size = 32 ∧ ∀ i, k ≤ i → i < 32 → cs[i]? = some (.int .u32 ((shn (31 - i) row).toNat : Int))

theorem MatFrom.start (row : BitVec 32) : MatFrom row 32 (zeros 32) := ⟨zeros_size _, fun i h1 h2 => by omega⟩
theorem MatFrom.step {row : BitVec 32} {k : Nat} {cs : Array Value} (h : MatFrom row (k + 1) cs) (hk : k < 32) : MatFrom row k (cs.setIfInBounds k (.int .u32 ((shn (31 - k) row).toNat : Int))) := by
  refine ⟨by simp [h.1], fun i h1 h2 => ?_⟩
  by_cases hik : k = i
  · subst hik
    rw [Array.getElem?_setIfInBounds_self, if_pos (by rw [h.1]; exact hk)]
  · rw [Array.getElem?_setIfInBounds_ne hik]
    exact h.2 i (by omega) h2
theorem MatFrom.done {e : Nat} {cs : Array Value} (h : MatFrom (shn e (bit 31)) 0 cs) : Mat e cs := by
  refine ⟨h.1, fun i hi => ?_⟩
  rw [h.2 i (Nat.zero_le _) hi, ← shn_add, Nat.add_comm, shn_add, shn_bit (31 - i) 31 (by omega) (by omega), show 31 - (31 - i) = i from by omega]
theorem all_one {cs : Array Value} (h : ∀ i, i < cs.size → ∃ n, cs[i]? = some (.int .u32 n)) : cs.all (·.oneCell') = true := by
  rw [Array.all_eq_true]
  intro i hi
  obtain ⟨n, hn⟩ := h i hi
  rw [Array.getElem?_eq_getElem hi] at hn
  simp only [Option.some.injEq] at hn
  rw [hn]
  rfl
theorem Mat.one {e : Nat} {cs : Array Value} (h : Mat e cs) : cs.all (·.oneCell') = true := all_one fun i hi => ⟨_, h.2 i (by rw [h.1] at hi; exact hi)⟩
theorem MatFrom.one {row : BitVec 32} {cs : Array Value} (h : MatFrom row 0 cs) : cs.all (·.oneCell') = true := all_one fun i hi => ⟨_, h.2 i (Nat.zero_le _) (by rw [h.1] at hi; exact hi)⟩

set_option maxRecDepth 100000 in
set_option maxHeartbeats 1600000 in
theorem matrixWith_any (row : BitVec 32) (w : World) :
    Calls Try.prog 38 #[.int .u32 (row.toNat : Int)] w fun e w' => ∃ cs, e = .returned (.agg cs) ∧ MatFrom row 0 cs ∧ Below w.heap.size w w' := by
  have hz := zero_mat
  go_enter Try.func38, Try.ntmps38
  go_wp2
  clear hz
  go_loopw [0, 4] (fun x i wr => ∃ (k : Nat) (cs : Array Value), k ≤ 32 ∧ x = .int .u32 ((shn (32 - k) row).toNat : Int) ∧ i = .int .i64 ((k : Int) - 1) ∧ MatFrom row k cs ∧ Box wr w.heap.size 52 (zeros 32) ∧ Box wr (w.heap.size + 1) 52 cs ∧ Below w.heap.size w wr) (fun _ i _ => (intOf i + 1).toNat)
  case atStart => exact ⟨32, _, by omega, rfl, rfl, MatFrom.start _, (Box.made _ _ _).alloc _, by have := Box.made (w.alloc (.cells (zeros 32) 52)) 52 (zeros 32); simpa using this, ((Below.refl _ _).alloc (Nat.le_refl _) _).alloc (by simp) _⟩
  case round =>
    obtain ⟨k, cs, hk, rfl, rfl, hm, hb0, hb1, hbel⟩ := hrel
    cases k with
    | zero =>
      go_wp2_with (first | refine wpList_load_row rfl 52 (.tmp 3) rfl (w.heap.size + 1) rfl 52 cs (0, 0) _ hb1 Try.underlying52 rfl (by rw [size_mat, hm.1]) ?_ | refine wpList_store_row rfl 52 (.tmp 2) (.tmp 14) rfl w.heap.size cs rfl rfl 52 (zeros 32) hb0 (by rw [size_mat, hm.1]) (by rw [zeros_size, hm.1]) hm.one ?_)
      exact bodyPost_ret (results_cell_row rfl _ _ w.heap.size 52 cs (0, 0) _ rfl (hb0.row cs) Try.underlying52 rfl (by rw [size_mat, hm.1])) rfl ⟨cs, rfl, hm, below_row hbel (Nat.le_refl _) _⟩
    | succ k =>
      have hst := hm.step (by omega)
      obtain ⟨x2, hx2⟩ : ∃ x, cs[k]? = some x := ⟨_, Array.getElem?_eq_getElem (show k < cs.size by rw [hm.1]; omega)⟩
      have hc := hb1.cell k
      rw [hx2] at hc
      have hf := hb1.free k
      have hk1 : (((k + 1 : Nat) : Int) - 1) = (k : Int) := by omega
      have hsh : sh (shn (31 - k) row) = shn (32 - k) row := by rw [← shn_succ', show 31 - k + 1 = 32 - k from by omega]
      have h31 : 32 - (k + 1) = 31 - k := by omega
      rw [hk1, h31]
      have HST := Lib.hid hst
      have HM := Lib.hid hm
      have HSH := Lib.hid hsh
      clear hst hm hsh hx2 hk1 h31
      go_wp2_with fail
      refine (shift_any (shn (31 - k) row) _).mono ?_
      rintro e w' ⟨rfl, rfl⟩
      go_wp2
      go_roundw
      case rel => exact ⟨k, _, by omega, by rw [HSH.out], rfl, HST.out, hb0.put_other _ _ (by simp), hb1.put _ _, hbel.setCell (by simp) _⟩
      case measure => simp [intOf]

set_option maxHeartbeats 800000 in
theorem shiftByByte_any (w : World) :
    Calls Try.prog 30 #[] w fun e w' => ∃ cs, e = .returned (.agg cs) ∧ Mat 8 cs ∧ Below w.heap.size w w' := by
  have hz := zero_mat
  have h8 : (8388608 : Int) = ((shn 8 (bit 31)).toNat : Int) := by decide
  go_enter Try.func30, Try.ntmps30
  go_wp2_with fail
  refine (matrixWith_any (shn 8 (bit 31)) _).mono ?_
  rintro e w1 ⟨cs, rfl, hm, hb⟩
  have hbox : Box w1 w.heap.size 52 (zeros 32) := (Box.made w 52 (zeros 32)).below hb (by simp)
  have hbel : Below w.heap.size w w1 := ((Below.refl _ _).alloc (Nat.le_refl _) _).trans (hb.mono (by simp))
  clear h8
  go_wp2_with (refine wpList_store_row rfl 52 (.tmp 0) (.tmp 1) rfl w.heap.size cs rfl rfl 52 (zeros 32) hbox (by rw [size_mat, hm.1]) (by rw [zeros_size, hm.1]) hm.one ?_)
  exact bodyPost_ret (results_cell_row rfl _ _ w.heap.size 52 cs (0, 0) _ rfl (hbox.row cs) Try.underlying52 rfl (by rw [size_mat, hm.1])) rfl ⟨cs, rfl, hm.done, below_row hbel (Nat.le_refl _) _⟩

theorem below_drewN {B : Nat} {a w : World} (h : Below B a w) (n : Nat) : Below B a (w.drewN n) := ⟨h.os, h.tape, h.output, h.size, h.block⟩

theorem bit_test (r : BitVec 32) (m : Nat) : (bits .and .u32 ((r.toNat : Int) / 2 ^ m) 1 == 1) = r.getLsbD m := by
  have e : ((r.toNat : Int) / 2 ^ m) = (((r >>> m).toNat : Nat) : Int) := by
    rw [BitVec.toNat_ushiftRight, Nat.shiftRight_eq_div_pow]; simp
  rw [e, lsb_and, BitVec.getLsbD_ushiftRight]
  simp only [Nat.add_zero]
  cases r.getLsbD m <;> rfl

set_option maxRecDepth 100000 in
set_option maxHeartbeats 1600000 in
theorem times_any (g e : Nat) (cs : Array Value) (r : BitVec 32) (w : World) (hb : Box w g 52 cs) (hm : Mat e cs) :
    Calls Try.prog 31 #[.pointer (some ⟨g, 0, none⟩), .int .u32 (r.toNat : Int)] w fun o w' => o = .returned (.int .u32 ((shn e r).toNat : Int)) ∧ ∃ n, w' = w.drewN n := by
  go_enter Try.func31, Try.ntmps31
  go_wp2
  go_loopw [5, 9] (fun x i wr => ∃ k n : Nat, k ≤ 32 ∧ x = .int .u32 ((shn e (low k r)).toNat : Int) ∧ i = .int .i64 (k : Int) ∧ wr = w.drewN n) (fun _ i _ => 32 - (intOf i).toNat)
  case atStart => exact ⟨0, 0, by omega, by rw [low_zero, shn_zero]; rfl, rfl, rfl⟩
  case round =>
    obtain ⟨k, n, hk, rfl, rfl, rfl⟩ := hrel
    by_cases hlt : k < 32
    · have hc := hb.cell k
      rw [hm.2 k hlt] at hc
      have htest := bit_test r k
      have hlow := low_succ k r
      have hlt' : (k : Int) < 32 := by omega
      cases hbit : r.getLsbD k with
      | true =>
        rw [hbit] at htest hlow
        rw [if_pos rfl] at hlow
        have hx : bits .xor .u32 ((shn e (low k r)).toNat : Int) ((shn e (bit k)).toNat : Int) = ((shn e (low (k + 1) r)).toNat : Int) := by rw [u32_xor, hlow, shn_xor]
        have HX := Lib.hid hx
        clear hx hlow hbit
        go_wp2
        go_quiet (fail)
        go_wp2
        go_roundw
        case rel => exact ⟨k + 1, _, by omega, by rw [HX.out], by go_num, rfl⟩
        case measure => simp [intOf]; omega
      | false =>
        rw [hbit] at htest hlow
        simp at hlow
        have HL := Lib.hid hlow
        clear hlow hbit
        go_wp2
        go_quiet (fail)
        go_wp2
        go_roundw
        case rel => exact ⟨k + 1, _, by omega, by rw [HL.out], by go_num, rfl⟩
        case measure => simp [intOf]; omega
    · obtain rfl : k = 32 := by omega
      have hl : low 32 r = r := by
        apply BitVec.eq_of_getLsbD_eq
        intro i hi
        rw [low_lsb]; simp [hi]
      have HL := Lib.hid hl
      clear hl
      go_wp2
      go_ret
      exact ⟨ret_int (by rw [HL.out]), _, rfl⟩

set_option maxRecDepth 100000 in
set_option maxHeartbeats 1600000 in
theorem square_any (g e : Nat) (cs : Array Value) (w : World) (hb : Box w g 52 cs) (hm : Mat e cs) :
    Calls Try.prog 32 #[.pointer (some ⟨g, 0, none⟩)] w fun o w' => ∃ cs', o = .returned (.agg cs') ∧ Mat (e + e) cs' ∧ Below w.heap.size w w' := by
  have hz := zero_mat
  have hlt := hb.lt
  have hc := hb.cell 31
  rw [hm.2 31 (by omega)] at hc
  have hb1 := hb.alloc (.cells (zeros 32) 52)
  have HB := Lib.hid hb1
  clear hb1
  go_enter Try.func32, Try.ntmps32
  go_wp2_with fail
  refine (times_any g e cs (shn e (bit 31)) _ HB.out hm).mono ?_
  rintro o w1 ⟨rfl, n, rfl⟩
  go_wp2_with fail
  refine (matrixWith_any (shn e (shn e (bit 31))) _).mono ?_
  rintro o w1 ⟨cs2, rfl, hm2, hb2⟩
  rw [← shn_add] at hm2
  have hbox : Box w1 w.heap.size 52 (zeros 32) := ((Box.made w 52 (zeros 32)).drewN n).below hb2 (by simp)
  have hbel : Below w.heap.size w w1 := (below_drewN ((Below.refl _ _).alloc (Nat.le_refl _) _) n).trans (hb2.mono (by simp))
  clear hc hz
  go_wp2_with (refine wpList_store_row rfl 52 (.tmp 2) (.tmp 9) rfl w.heap.size cs2 rfl rfl 52 (zeros 32) hbox (by rw [size_mat, hm2.1]) (by rw [zeros_size, hm2.1]) hm2.one ?_)
  exact bodyPost_ret (results_cell_row rfl _ _ w.heap.size 52 cs2 (0, 0) _ rfl (hbox.row cs2) Try.underlying52 rfl (by rw [size_mat, hm2.1])) rfl ⟨cs2, rfl, hm2.done, below_row hbel (Nat.le_refl _) _⟩

theorem shn_sum (e N : Nat) (X : BitVec 32) (h : N % 2 = 1) : shn ((e + e) * (N / 2)) (shn e X) = shn (e * N) X := by
  rw [← shn_add]
  congr 1
  have : N = 2 * (N / 2) + 1 := by omega
  generalize N / 2 = m at *
  subst this
  rw [Nat.mul_add, Nat.mul_one, ← Nat.mul_assoc, Nat.mul_two, Nat.add_comm]
theorem shn_even (e N : Nat) (h : ¬ N % 2 = 1) : (e + e) * (N / 2) = e * N := by
  have : N = 2 * (N / 2) := by omega
  generalize N / 2 = m at *
  subst this
  rw [← Nat.mul_assoc, Nat.mul_two]

theorem wraps_i64 (n : Int) (h0 : 0 ≤ n) (h1 : n < 2 ^ 63) : IntKind.i64.wrap n = n := by rw [IntKind.wrap_i64]; omega
theorem odd_test (N : Nat) (h : N < 2 ^ 63) : (bits .and .i64 (N : Int) 1 == 1) = decide (N % 2 = 1) := by
  have h1 := bits_mask .i64 63 (by decide) wraps_i64 1 (by decide) (N : Int) (by omega) (by omega)
  have h2 : bits .and .i64 (N : Int) 1 = ((N % 2 : Nat) : Int) := by simpa using h1
  rw [h2]
  by_cases h3 : N % 2 = 1
  · rw [h3]; rfl
  · rw [show N % 2 = 0 by omega]; rfl

set_option maxHeartbeats 400000 in
theorem join_neg (x y : BitVec 32) (n : Int) (w : World) (h0 : n < 0) :
    Calls Try.prog 18 #[.int .u32 (x.toNat : Int), .int .u32 (y.toNat : Int), .int .i64 n] w fun o w' => o = .returned (.int .u32 0) ∧ w = w' := by
  go_enter Try.func18, Try.ntmps18
  go_wp2
  go_ret
  exact ⟨rfl, rfl⟩

set_option maxRecDepth 100000 in
set_option maxHeartbeats 1600000 in
theorem join_any (x y : BitVec 32) (n : Nat) (w : World) (hn : n < 2 ^ 63) :
    Calls Try.prog 18 #[.int .u32 (x.toNat : Int), .int .u32 (y.toNat : Int), .int .i64 (n : Int)] w fun o w' => o = .returned (.int .u32 ((join x y n).toNat : Int)) ∧ Below w.heap.size w w' := by
  have hz := zero_mat
  go_enter Try.func18, Try.ntmps18
  go_wp2_with fail
  refine (shiftByByte_any _).mono ?_
  rintro o w1 ⟨cs, rfl, hm, hb⟩
  go_wp2_with (refine wpList_store_rowTo rfl 52 (.tmp 7) (.tmp 10) rfl rfl w1.heap.size cs rfl rfl 52 (zeros 32) (Box.made _ _ _) (by rw [size_mat, hm.1]) (by rw [zeros_size, hm.1]) hm.one ?_)
  have hbel := below_two (o := .cells (zeros 32) 52) hb cs
  have hbox : Box ((w1.alloc (.cells (zeros 32) 52)).setRow w1.heap.size cs) w1.heap.size 52 cs := (Box.made w1 52 (zeros 32)).row cs
  have hsz := hb.size
  clear hz
  go_loopw [0, 2] (fun x_ n_ wr => ∃ (X : BitVec 32) (N e : Nat) (cs : Array Value), x_ = .int .u32 (X.toNat : Int) ∧ n_ = .int .i64 (N : Int) ∧ N < 2 ^ 63 ∧ Hid (shn (e * N) X = shn (8 * n) x) ∧ Mat e cs ∧ Box wr w1.heap.size 52 cs ∧ Below w.heap.size w wr) (fun _ n_ _ => (intOf n_).toNat)
  case atStart => exact ⟨x, n, 8, cs, rfl, rfl, hn, rfl, hm, hbox, hbel⟩
  case round =>
    obtain ⟨X, N, e, cs2, rfl, rfl, hN, HE, hm2, hbox2, hbel2⟩ := hrel
    by_cases hpos : 0 < N
    · have hpos' : (0 : Int) < (N : Int) := by omega
      have htest := odd_test N hN
      by_cases hodd : N % 2 = 1
      · rw [decide_eq_true hodd] at htest
        have HS := Lib.hid (shn_sum e N X hodd)
        have HO := Lib.hid hodd
        clear hodd
        go_wp2_with fail
        refine (times_any w1.heap.size e cs2 X _ hbox2 hm2).mono ?_
        rintro o w2 ⟨rfl, k, rfl⟩
        go_wp2_with fail
        refine (square_any w1.heap.size e cs2 _ (hbox2.drewN k) hm2).mono ?_
        rintro o w3 ⟨cs3, rfl, hm3, hb3⟩
        have hbox3 : Box w3 w1.heap.size 52 cs2 := (hbox2.drewN k).below hb3 (hbox2.drewN k).lt
        have hbel3 : Below w.heap.size w w3 := (below_drewN hbel2 k).trans (hb3.mono hbel2.size)
        clear htest
        go_wp2_with (refine wpList_store_rowTo rfl 52 (.tmp 7) (.tmp 20) rfl rfl w1.heap.size cs3 rfl rfl 52 cs2 hbox3 (by rw [size_mat, hm3.1]) (by rw [hm2.1, hm3.1]) hm3.one ?_)
        go_roundw
        case rel => exact ⟨shn e X, N / 2, e + e, cs3, rfl, by go_num, by omega, HS.out.trans HE.out, hm3, hbox3.row cs3, below_row hbel3 hsz _⟩
        case measure => simp [intOf]; omega
      · rw [decide_eq_false hodd] at htest
        have HS := Lib.hid (shn_even e N hodd)
        clear hodd
        go_wp2_with fail
        refine (square_any w1.heap.size e cs2 _ hbox2 hm2).mono ?_
        rintro o w3 ⟨cs3, rfl, hm3, hb3⟩
        have hbox3 : Box w3 w1.heap.size 52 cs2 := hbox2.below hb3 hbox2.lt
        have hbel3 : Below w.heap.size w w3 := hbel2.trans (hb3.mono hbel2.size)
        clear htest
        go_wp2_with (refine wpList_store_rowTo rfl 52 (.tmp 7) (.tmp 20) rfl rfl w1.heap.size cs3 rfl rfl 52 cs2 hbox3 (by rw [size_mat, hm3.1]) (by rw [hm2.1, hm3.1]) hm3.one ?_)
        go_roundw
        case rel => exact ⟨X, N / 2, e + e, cs3, rfl, by go_num, by omega, Lib.hid (by rw [HS.out]; exact HE.out), hm3, hbox3.row cs3, below_row hbel3 hsz _⟩
        case measure => simp [intOf]; omega
    · obtain rfl : N = 0 := by omega
      have hx : bits .xor .u32 (X.toNat : Int) (y.toNat : Int) = ((join x y n).toNat : Int) := by
        have h := HE.out
        rw [Nat.mul_zero] at h
        rw [u32_xor]; unfold join; rw [← h]; rfl
      go_wp2
      go_ret
      exact ⟨rfl, hbel2⟩

end Go.Proofs.Ytjmmhgdafjdmdaa
