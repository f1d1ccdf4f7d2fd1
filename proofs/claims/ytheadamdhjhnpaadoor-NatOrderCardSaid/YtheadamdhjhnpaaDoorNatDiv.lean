/-
  The program's Divide and Gcd.
-/
import Derived.Test.YtheadamdhjhnpaaDoorNatOps
namespace Go.Proofs.YtheadamdhjhnpaaDoor
open Go.RowKit

set_option maxHeartbeats 1600000 in
theorem natDivide_any (A A' : Option Addr) (n n' c c' : Nat) (xs ys : List Int) (w : World) (h : Arr iv w w.heap.size (.slice A n c) xs) (h' : Arr iv w w.heap.size (.slice A' n' c') ys) (hn : n ≤ 9223372036854775807) (hn' : n' ≤ 9223372036854775807) :
    Calls Tryd.prog 31 #[.slice A n c, .slice A' n' c'] w fun e w' => DivEnd (divQ (numOf xs) (numOf ys)) (divR (numOf xs) (numOf ys)) e w' ∧ Below w.heap.size w w' := by
  cases hx : numOf xs with
  | none =>
    have HV := Lib.hid (numOf_none hx)
    go_enter Tryd.func31, Tryd.ntmps31
    go_wp2_with fail
    refine (natValid_of A n c xs false HV.out _ h hn).mono ?_
    rintro e w1 ⟨rfl, rfl⟩
    go_wp2
    go_ret3
    exact ⟨DivEnd.err 1, Below.refl _ _⟩
  | some a =>
    obtain ⟨hv, ha, _⟩ := numOf_some hx
    have hA := arg_num h hx
    cases hy : numOf ys with
    | none =>
      have HV := Lib.hid hv
      have HV2 := Lib.hid (numOf_none hy)
      clear hv
      go_enter Tryd.func31, Tryd.ntmps31
      go_wp2_with fail
      refine (natValid_of A n c xs true HV.out _ h hn).mono ?_
      rintro e w1 ⟨rfl, rfl⟩
      go_wp2_with fail
      refine (natValid_of A' n' c' ys false HV2.out _ h' hn').mono ?_
      rintro e w1 ⟨rfl, rfl⟩
      go_wp2
      go_ret3
      exact ⟨DivEnd.err 1, Below.refl _ _⟩
    | some b =>
      obtain ⟨hv2, hb, hys⟩ := numOf_some hy
      have hB := arg_num h' hy
      have hlen : n' = (dg b).length := by rw [← h'.len, hys, List.length_map]
      have HV := Lib.hid hv
      have HV2 := Lib.hid hv2
      have HA := Lib.hid ha
      have HB := Lib.hid hb
      clear hv hv2 ha hb hx hy hys
      by_cases hb0 : b = 0
      · have t0 : ((n' : Int) == 0) = true := by rw [hlen, hb0, dg_zero]; rfl
        have HQ : Hid (divQ (some a) (some b) = .error 1 ∧ divR (some a) (some b) = .error 1) := Lib.hid ⟨if_pos hb0, if_pos hb0⟩
        clear hlen hb0
        go_enter Tryd.func31, Tryd.ntmps31
        go_wp2_with fail
        refine (natValid_of A n c xs true HV.out _ h hn).mono ?_
        rintro e w1 ⟨rfl, rfl⟩
        go_wp2_with fail
        refine (natValid_of A' n' c' ys true HV2.out _ h' hn').mono ?_
        rintro e w1 ⟨rfl, rfl⟩
        go_wp2
        go_ret3
        rw [HQ.out.1, HQ.out.2]
        exact ⟨DivEnd.err 1, Below.refl _ _⟩
      · have t0 : ((n' : Int) == 0) = false := beq_false_of_ne (by
          have : n' ≠ 0 := by rw [hlen]; intro e; exact hb0 (dg_eq_nil.1 (List.length_eq_zero_iff.1 e))
          omega)
        have HQ : Hid (divQ (some a) (some b) = .ok (a / b) ∧ divR (some a) (some b) = .ok (a % b)) := Lib.hid ⟨if_neg hb0, if_neg hb0⟩
        have HP : Hid (0 < b) := Lib.hid (Nat.pos_of_ne_zero hb0)
        clear hlen hb0
        go_enter Tryd.func31, Tryd.ntmps31
        go_wp2_with fail
        refine (natValid_of A n c xs true HV.out _ h hn).mono ?_
        rintro e w1 ⟨rfl, rfl⟩
        go_wp2_with fail
        refine (natValid_of A' n' c' ys true HV2.out _ h' hn').mono ?_
        rintro e w1 ⟨rfl, rfl⟩
        go_wp2_with fail
        refine (quotient_num _ _ a b _ hA hB (sn_of HA.out) HP.out (sn_of HB.out)).mono ?_
        rintro e w2 ⟨q, r, rfl, hq, hr, k2⟩
        go_wp2
        go_ret3
        rw [HQ.out.1, HQ.out.2]
        exact ⟨DivEnd.ok hq hr, k2⟩

set_option maxHeartbeats 1600000 in
theorem natGcd_any (A A' : Option Addr) (n n' c c' : Nat) (xs ys : List Int) (w : World) (h : Arr iv w w.heap.size (.slice A n c) xs) (h' : Arr iv w w.heap.size (.slice A' n' c') ys) (hn : n ≤ 9223372036854775807) (hn' : n' ≤ 9223372036854775807) :
    Calls Tryd.prog 37 #[.slice A n c, .slice A' n' c'] w fun e w' => ResEnd (gcdR (numOf xs) (numOf ys)) e w' ∧ Below w.heap.size w w' := by
  cases hx : numOf xs with
  | none =>
    have HV := Lib.hid (numOf_none hx)
    go_enter Tryd.func37, Tryd.ntmps37
    go_wp2_with fail
    refine (natValid_of A n c xs false HV.out _ h hn).mono ?_
    rintro e w1 ⟨rfl, rfl⟩
    go_wp2
    go_ret2
    exact ⟨ResEnd.err 1, Below.refl _ _⟩
  | some a0 =>
    obtain ⟨hv, ha, _⟩ := numOf_some hx
    have hA := arg_num h hx
    cases hy : numOf ys with
    | none =>
      have HV := Lib.hid hv
      have HV2 := Lib.hid (numOf_none hy)
      clear hv
      go_enter Tryd.func37, Tryd.ntmps37
      go_wp2_with fail
      refine (natValid_of A n c xs true HV.out _ h hn).mono ?_
      rintro e w1 ⟨rfl, rfl⟩
      go_wp2_with fail
      refine (natValid_of A' n' c' ys false HV2.out _ h' hn').mono ?_
      rintro e w1 ⟨rfl, rfl⟩
      go_wp2
      go_ret2
      exact ⟨ResEnd.err 1, Below.refl _ _⟩
    | some b0 =>
      obtain ⟨hv2, hb, _⟩ := numOf_some hy
      have hB := arg_num h' hy
      have HV := Lib.hid hv
      have HV2 := Lib.hid hv2
      have HA := Lib.hid (sn_of ha)
      have HB := Lib.hid (sn_of hb)
      clear hv hv2 ha hb hx hy
      go_enter Tryd.func37, Tryd.ntmps37
      go_wp2_with fail
      refine (natValid_of A n c xs true HV.out _ h hn).mono ?_
      rintro e w1 ⟨rfl, rfl⟩
      go_wp2_with fail
      refine (natValid_of A' n' c' ys true HV2.out _ h' hn').mono ?_
      rintro e w1 ⟨rfl, rfl⟩
      go_wp2
      go_loopg [0, 1, 6, 7] b0 (fun g a_ b_ _ _ wr => ∃ a : Nat, Hid (Nat.gcd a g = Nat.gcd a0 b0) ∧ Num wr a_ a ∧ Num wr b_ g ∧ Hid (Sn a) ∧ Hid (Sn g) ∧ Below w.heap.size w wr)
      case atStart => exact ⟨a0, Lib.hid rfl, hA, hB, HA, HB, Below.refl _ _⟩
      case round =>
        obtain ⟨a, HG, ha, hb, SA, SB, hbel⟩ := hrel
        obtain ⟨Ab, cb, rfl, hbr⟩ := hb
        by_cases h0 : gk = 0
        · subst h0
          have t0 : decide (0 < (dg 0).length) = false := by rw [dg_zero]; rfl
          have HR : Hid (gcdR (some a0) (some b0) = .ok a) := Lib.hid (by
            have := HG.out
            rw [Nat.gcd_zero_right] at this
            rw [this]; rfl)
          obtain ⟨Aa, ca, rfl, har⟩ := ha
          have hl1 := SA.out.sm.len
          go_wp2_with fail
          refine (clone_any Aa _ ca (dg a) wr har (by omega)).mono ?_
          rintro e w2 ⟨v, rfl, hown1, k2⟩
          have hA1 := Arr.of_own hown1
          obtain ⟨A1, c1, rfl⟩ := hA1.form
          go_wp2
          go_ret2
          rw [HR.out]
          exact ⟨ResEnd.ok ⟨A1, c1, rfl, hA1⟩, below_next hbel k2⟩
        · have t0 : decide (0 < (dg gk).length) = true := by
            have : (dg gk).length ≠ 0 := fun e => h0 (dg_eq_nil.1 (List.length_eq_zero_iff.1 e))
            simp; omega
          have HP : Hid (0 < gk) := Lib.hid (Nat.pos_of_ne_zero h0)
          have HG2 : Hid (Nat.gcd gk (a % gk) = Nat.gcd a0 b0) := Lib.hid (by rw [gcd_step]; exact HG.out)
          clear h0
          go_wp2_with fail
          refine (quotient_num _ _ a gk _ ha ⟨Ab, cb, rfl, hbr⟩ SA.out HP.out SB.out).mono ?_
          rintro e w2 ⟨q, r, rfl, hq, hr, k2⟩
          have hlt := Nat.mod_lt a HP.out
          have SR : Hid (Sn (a % gk)) := Lib.hid (lt_le (a := pw 200) SB.out (Nat.le_of_lt hlt))
          go_wp2
          go_roundg (a % gk)
          case rel => exact ⟨gk, HG2, (Num.up ⟨Ab, cb, rfl, hbr⟩ k2 : Num w2 _ gk), hr, SB, SR, below_next hbel k2⟩
          case measure => exact hlt

end Go.Proofs.YtheadamdhjhnpaaDoor
