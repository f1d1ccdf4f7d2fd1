/-
  The program's Of, Int, Bits.
-/
import Derived.Test.YtheadamdhjhnpaaDoorNatDiv
import Derived.Test.YtheadamdhjhnpaaDoorLen
namespace Go.Proofs.YtheadamdhjhnpaaDoor
open Go.RowKit

set_option maxHeartbeats 1600000 in
theorem natOf_any (n : Int) (hn : n ≤ 9223372036854775807) (w : World) :
    Calls Tryd.prog 14 #[.int .i64 n] w fun e w' => ResEnd (ofR n) e w' ∧ Below w.heap.size w w' := by
  by_cases hneg : n < 0
  · have t1 : decide (n < 0) = true := by simpa using hneg
    have HR : Hid (ofR n = .error 2) := Lib.hid (by unfold ofR; rw [if_pos hneg])
    clear hneg
    go_enter Tryd.func14, Tryd.ntmps14
    go_wp2
    go_ret2
    rw [HR.out]
    exact ⟨ResEnd.err 2, Below.refl _ _⟩
  · obtain ⟨N, rfl⟩ : ∃ N : Nat, n = (N : Int) := ⟨n.toNat, by omega⟩
    have t1 : decide ((N : Int) < 0) = false := by simp
    have HR : Hid (ofR (N : Int) = .ok N) := Lib.hid (by unfold ofR; rw [if_neg hneg, Int.toNat_natCast])
    have hN : N < 65536 ^ 4 := by simp only [Nat.reducePow]; omega
    have HL : Hid ((dg N).length ≤ 4) := Lib.hid (dg_length.2 hN)
    clear hneg hN
    go_enter Tryd.func14, Tryd.ntmps14
    go_wp2
    go_loopw [0, 4] (fun x out wr => ∃ (m : Nat) (ls : List Nat), m ≤ N ∧ x = .int .i64 (m : Int) ∧ Hid (ls ++ dg m = dg N) ∧ wr.ownsRow w.heap.size 3 1 out ls.length (ls.map nv) ∧ Below w.heap.size w wr) (fun x _ _ => (intOf x).toNat)
    case atStart => exact ⟨N, [], by omega, rfl, Lib.hid rfl, World.ownsRow_nil _ _ _ _, Below.refl _ _⟩
    case round =>
      obtain ⟨m, ls, hm, rfl, HD, hown, hbel⟩ := hrel
      by_cases h0 : m = 0
      · subst h0
        have hE : ls = dg N := by have := HD.out; rw [dg_zero, List.append_nil] at this; exact this
        have HE := Lib.hid hE
        clear hE
        go_wp2
        go_ret2
        rw [HR.out]
        rw [HE.out] at hown
        have hA := Arr.of_own hown
        obtain ⟨A1, c1, rfl⟩ := hA.form
        exact ⟨ResEnd.ok ⟨A1, c1, rfl, hA⟩, hbel⟩
      · have t2 : decide (0 < (m : Int)) = true := by simp; omega
        have hD2 : (ls ++ [m % 65536]) ++ dg (m / 65536) = dg N := by rw [← HD.out, dg_pos h0, List.append_assoc]; rfl
        have hxx : ls.length + 1 ≤ 4 := by
          have h2 := HL.out
          rw [← hD2, List.length_append, List.length_append, List.length_singleton] at h2
          omega
        have HD2 := Lib.hid hD2
        have hsz := hbel.size
        have hdec : m / 65536 < m := by omega
        clear hD2
        go_wp2_with (at_builtin; refine append_nat wr rfl (.tmp 11) (.tmp 14) rfl w.heap.size u4 ls rfl hown (m % 65536) _ (by unfold nv; exact value_int (by omega)) rfl (by omega) hsz ?_; intro r1 w1 hown1 hb1)
        go_roundw
        case rel => exact ⟨m / 65536, _, by omega, by go_num, HD2, hown1, hbel.trans hb1⟩
        case measure => simp [intOf]; exact hdec


theorem int_len {a : Nat} (h : 4 < (dg a).length) : intR (some a) = .error 2 := by
  refine int_big fun hc => ?_
  have h2 : a < pw 4 := by
    have : pw 4 = 18446744073709551616 := by decide
    omega
  have := dg_len_pw h2
  omega

set_option maxHeartbeats 1600000 in
theorem natInt_any (A : Option Addr) (n c : Nat) (xs : List Int) (w : World) (h : Arr iv w w.heap.size (.slice A n c) xs) (hn : n ≤ 9223372036854775807) :
    Calls Tryd.prog 16 #[.slice A n c] w fun e w' => IntEnd (intR (numOf xs)) e ∧ w = w' := by
  cases hx : numOf xs with
  | none =>
    have HV := Lib.hid (numOf_none hx)
    go_enter Tryd.func16, Tryd.ntmps16
    go_wp2_with fail
    refine (natValid_of A n c xs false HV.out _ h hn).mono ?_
    rintro e w1 ⟨rfl, rfl⟩
    go_wp2
    go_ret2
    exact ⟨rfl, rfl⟩
  | some a =>
    obtain ⟨hv, ha, hxs⟩ := numOf_some hx
    have hA := arg_num h hx
    obtain ⟨el, hA2, _⟩ := num_lt hA
    have HV := Lib.hid hv
    have HEl : Hid ((dg a).length = n) := Lib.hid el.symm
    have hl128 : n ≤ 128 := by rw [el]; exact dg_len_pw ha
    clear hv ha hx hxs el
    by_cases h4 : n ≤ 4
    · have t1 : decide (4 < (n : Int)) = false := by simp; omega
      have hlt : a < 18446744073709551616 := by
        have h1 : a < pw n := by have := vl_lt' (dig_dg a); rwa [vl_dg, HEl.out] at this
        have h2 := pw_mono h4
        have : pw 4 = 18446744073709551616 := by decide
        omega
      by_cases hq : a ≤ 4611686018427387904
      · have t2 : decide (4611686018427387904 < (a : Int)) = false := by simp; omega
        have HR : Hid (intR (some a) = .ok a) := Lib.hid (int_ok hq)
        go_enter Tryd.func16, Tryd.ntmps16
        go_wp2_with fail
        refine (natValid_of A n c xs true HV.out _ h hn).mono ?_
        rintro e w1 ⟨rfl, rfl⟩
        go_wp2_with fail
        refine (leading_any A n c (dg a) _ _ hA2 (dig_dg a) h4).mono ?_
        rintro e w1 ⟨rfl, rfl⟩
        rw [vl_dg]
        go_wp2_with fail
        refine (leading_any A n c (dg a) _ _ hA2 (dig_dg a) h4).mono ?_
        rintro e w1 ⟨rfl, rfl⟩
        rw [vl_dg]
        go_wp2
        go_ret2
        rw [HR.out]
        exact ⟨rfl, rfl⟩
      · have t2 : decide (4611686018427387904 < (a : Int)) = true := by simp; omega
        have HR : Hid (intR (some a) = .error 2) := Lib.hid (int_big hq)
        go_enter Tryd.func16, Tryd.ntmps16
        go_wp2_with fail
        refine (natValid_of A n c xs true HV.out _ h hn).mono ?_
        rintro e w1 ⟨rfl, rfl⟩
        go_wp2_with fail
        refine (leading_any A n c (dg a) _ _ hA2 (dig_dg a) h4).mono ?_
        rintro e w1 ⟨rfl, rfl⟩
        rw [vl_dg]
        go_wp2
        go_ret2
        rw [HR.out]
        exact ⟨rfl, rfl⟩
    · have t1 : decide (4 < (n : Int)) = true := by simp; omega
      have HR := Lib.hid (int_len (a := a) (by rw [HEl.out]; omega))
      go_enter Tryd.func16, Tryd.ntmps16
      go_wp2_with fail
      refine (natValid_of A n c xs true HV.out _ h hn).mono ?_
      rintro e w1 ⟨rfl, rfl⟩
      go_wp2
      go_ret2
      rw [HR.out]
      exact ⟨rfl, rfl⟩

set_option maxHeartbeats 1600000 in
theorem natBits_any (A : Option Addr) (n c : Nat) (xs : List Int) (w : World) (h : Arr iv w w.heap.size (.slice A n c) xs) (hn : n ≤ 9223372036854775807) :
    Calls Tryd.prog 23 #[.slice A n c] w fun e w' => e = .returned (.int .i64 (bitsR (numOf xs) : Int)) ∧ w = w' := by
  cases hx : numOf xs with
  | none =>
    have HV := Lib.hid (numOf_none hx)
    go_enter Tryd.func23, Tryd.ntmps23
    go_wp2_with fail
    refine (natValid_of A n c xs false HV.out _ h hn).mono ?_
    rintro e w1 ⟨rfl, rfl⟩
    go_wp2
    go_ret
    exact ⟨rfl, rfl⟩
  | some a =>
    obtain ⟨hv, ha, hxs⟩ := numOf_some hx
    have HV := Lib.hid hv
    have hlen : n = (dg a).length := by rw [← h.len, hxs, List.length_map]
    have hl128 := dg_len_pw ha
    have hA : Arr nv w w.heap.size (.slice A n c) (dg a) := by
      have h2 := h
      rw [hxs] at h2
      exact h2.nat
    clear hv ha hx hxs
    by_cases h0 : a = 0
    · have t0 : ((n : Int) == 0) = true := by rw [hlen, h0, dg_zero]; rfl
      have HR : Hid (bitsR (some a) = 0) := Lib.hid (by rw [h0]; exact lb_zero)
      clear hlen
      go_enter Tryd.func23, Tryd.ntmps23
      go_wp2_with fail
      refine (natValid_of A n c xs true HV.out _ h hn).mono ?_
      rintro e w1 ⟨rfl, rfl⟩
      go_wp2
      go_ret
      rw [HR.out]
      exact ⟨rfl, rfl⟩
    · obtain ⟨d, hd0, hd, hdt, hlb⟩ := dg_top h0
      rw [← hlen] at hl128 hdt hlb
      have hn0 : n ≠ 0 := by rw [hlen]; exact fun e => h0 (dg_eq_nil.1 (List.length_eq_zero_iff.1 e))
      have t0 : ((n : Int) == 0) = false := beq_false_of_ne (by omega)
      have HR := Lib.hid hlb
      obtain ⟨b0, o0, rfl, hB0, hc0⟩ := hA.some_ (by omega)
      have d0 := hc0 _ d hdt
      simp only [nv] at d0
      have hlbd : lb d ≤ 16 := lb_le.2 (by omega)
      have i1 : ((n : Int) - 1).toNat = n - 1 := by omega
      have i2 : (0 : Int) ≤ (n : Int) - 1 := by omega
      have i3 : (n : Int) - 1 < (n : Int) := by omega
      clear hc0 hdt hlb hlen hA h0
      go_enter Tryd.func23, Tryd.ntmps23
      go_wp2_with fail
      refine (natValid_of _ n c xs true HV.out _ h hn).mono ?_
      rintro e w1 ⟨rfl, rfl⟩
      go_wp2_with fail
      refine (len_any d hd _).mono ?_
      rintro e w1 ⟨rfl, rfl⟩
      go_wp2
      go_ret
      refine ⟨ret_int ?_, rfl⟩
      have := HR.out
      show _ = ((lb a : Nat) : Int)
      omega

end Go.Proofs.YtheadamdhjhnpaaDoor
