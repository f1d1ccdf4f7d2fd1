/-
  The program's Power and Shift.
-/
import Derived.Test.YtheadamdhjhnpaaDoorNatNum
namespace Go.Proofs.YtheadamdhjhnpaaDoor
open Go.RowKit

theorem and_one (z : Int) : bits .and .i64 z 1 = z % 2 := by
  show IntKind.i64.wrap ((BitVec.ofInt 64 z &&& BitVec.ofInt 64 1).toNat : Int) = _
  rw [BitVec.toNat_and, BitVec.toNat_ofInt, show (BitVec.ofInt 64 1).toNat = 2 ^ 1 - 1 from by decide, Nat.and_two_pow_sub_one_eq_mod, wraps_i64 _ (by omega) (by omega)]
  omega

theorem shift_call (g K n c : Nat) (A : Option Addr) (a S N : Nat) (w : World) (hb : Box w g 3 (cellsOf (List.replicate N 0))) (hN : N = K + n + 1) (hA : Arr nv w g (.slice A n c) (dg a)) (hS : S < 65536) (hn : n ≤ 1000) (hK : K ≤ 1000) :
    Calls Tryd.prog 49 #[.slice (some ⟨g, K, none⟩) (N - K) (N - K), .slice A n c, .int .i64 (S : Int)] w fun e w' =>
      ∃ (u : Value) (os : List Nat), e = .returned u ∧ os.length = N ∧ Dig os ∧ vl os = pw K * (a * S) ∧ Box w' g 3 (cellsOf os) ∧ w.grownBy w' (some g) := by
  have hal := hA.len
  have ha : a < pw n := by have := vl_lt' (dig_dg a); rwa [vl_dg, hal] at this
  have e1 : N - K = n + 1 := by omega
  rw [e1]
  have hz : List.replicate N 0 = List.replicate K 0 ++ (List.replicate (n + 1) 0 ++ []) := by rw [List.append_nil, List.replicate_append_replicate, hN, Nat.add_assoc]
  rw [hz] at hb
  have hzd : ∀ k, Dig (List.replicate k 0) := fun k d hd => by have := List.eq_of_mem_replicate hd; omega
  refine (addMul_any g K (n + 1) (n + 1) A n c (List.replicate K 0) (List.replicate (n + 1) 0) [] (dg a) (S : Int) w hb (by simp) (by simp) (hzd _) hA (dig_dg a) (by omega) (by omega) (by omega) (by omega) (Nat.le_refl _)).mono ?_
  rintro e w' ⟨cy, ds, rfl, hE, hB, hG⟩
  have hfit : a * S < pw (n + 1) := by
    rw [pw_succ]
    exact Nat.mul_lt_mul'' ha hS
  obtain ⟨_, hv⟩ := hE.zero (x := a * S) (by rw [vl_zeros, vl_dg, Int.natCast_mul, Int.mul_comm]; simp) (by rw [List.length_replicate]; exact hfit)
  have hl := hE.1
  rw [List.length_replicate] at hl
  refine ⟨_, _, rfl, ?_, (hzd K).append (hE.2.1.append (fun d hd => by simp at hd)), ?_, hB, hG⟩
  · simp; omega
  · rw [vl_app, vl_zeros, List.append_nil, List.length_replicate, hv, Nat.zero_add]
theorem shift_val {a K R P S : Nat} (h : P = 16 * K + R) (hS : S = 2 ^ R) : pw K * (a * S) = a * 2 ^ P := by
  unfold pw
  rw [hS, h, Nat.pow_add, show (65536 : Nat) = 2 ^ 16 from rfl, ← Nat.pow_mul, Nat.mul_left_comm]

set_option maxRecDepth 20000 in
set_option maxHeartbeats 1600000 in
theorem natShift_any (A : Option Addr) (n c : Nat) (xs : List Int) (p : Int) (w : World) (h : Arr iv w w.heap.size (.slice A n c) xs) (hn : n ≤ 9223372036854775807) :
    Calls Tryd.prog 35 #[.slice A n c, .int .i64 p] w fun e w' => ResEnd (shiftR (numOf xs) p) e w' ∧ Below w.heap.size w w' := by
  cases hx : numOf xs with
  | none =>
    have HV := Lib.hid (numOf_none hx)
    go_enter Tryd.func35, Tryd.ntmps35
    go_wp2_with fail
    refine (natValid_of A n c xs false HV.out _ h hn).mono ?_
    rintro e w1 ⟨rfl, rfl⟩
    go_wp2
    go_ret2
    exact ⟨ResEnd.err 1, Below.refl _ _⟩
  | some a =>
    obtain ⟨hv, ha, hxs⟩ := numOf_some hx
    have hA := arg_num h hx
    have HV := Lib.hid hv
    have HA := Lib.hid ha
    clear hv hx hxs ha
    by_cases hneg : p < 0
    · have t1 : decide (p < 0) = true := by simpa using hneg
      have HR : Hid (shiftR (some a) p = .error 2) := Lib.hid (if_pos (.inl hneg))
      clear hneg
      go_enter Tryd.func35, Tryd.ntmps35
      go_wp2_with fail
      refine (natValid_of A n c xs true HV.out _ h hn).mono ?_
      rintro e w1 ⟨rfl, rfl⟩
      go_wp2
      go_ret2
      rw [HR.out]
      exact ⟨ResEnd.err 2, Below.refl _ _⟩
    · have t1 : decide (p < 0) = false := by simpa using hneg
      by_cases hbig : 2047 < p
      · have t2 : decide (2047 < p) = true := by simpa using hbig
        have HR : Hid (shiftR (some a) p = .error 2) := Lib.hid (if_pos (.inr hbig))
        clear hneg hbig
        go_enter Tryd.func35, Tryd.ntmps35
        go_wp2_with fail
        refine (natValid_of A n c xs true HV.out _ h hn).mono ?_
        rintro e w1 ⟨rfl, rfl⟩
        go_wp2
        go_ret2
        rw [HR.out]
        exact ⟨ResEnd.err 2, Below.refl _ _⟩
      · obtain ⟨P, rfl⟩ : ∃ P : Nat, p = (P : Int) := ⟨p.toNat, by omega⟩
        have hP : P ≤ 2047 := by omega
        have t2 : decide (2047 < (P : Int)) = false := by simp; omega
        have HR : Hid (shiftR (some a) (P : Int) = limit (a * 2 ^ P)) := Lib.hid (by
          show (if (P : Int) < 0 ∨ 2047 < (P : Int) then Except.error 2 else limit (a * 2 ^ (P : Int).toNat)) = _
          rw [if_neg (by omega), Int.toNat_natCast])
        obtain ⟨K, hK⟩ : ∃ K, K = P / 16 := ⟨_, rfl⟩
        obtain ⟨R, hR⟩ : ∃ R, R = P % 16 := ⟨_, rfl⟩
        have hR16 : R < 16 := by omega
        have hK128 : K < 128 := by omega
        obtain ⟨el, hA2, la⟩ := num_lt hA
        have hl128 : n ≤ 128 := by rw [el]; exact dg_len_pw HA.out
        obtain ⟨N, hN⟩ : ∃ N, N = K + n + 1 := ⟨_, rfl⟩
        have hmk : ∀ W : World, (Instr.makeSlice 25 (.int .i64 ((K : Int) + (n : Int) + 1)) (.int .i64 ((K : Int) + (n : Int) + 1))).run Tryd.prog W = .ok (.slice (some ⟨W.heap.size, 0, none⟩) N N) (W.alloc (.cells (cellsOf (List.replicate N 0)) 3)) := fun W => by
          rw [show (K : Int) + (n : Int) + 1 = (N : Int) from by omega]
          exact make_nat N (by omega) W
        have e1 : (P : Int) / 16 = (K : Int) := by omega
        have e0 : IntKind.i64.wrap (K : Int) = (K : Int) := wraps_i64 _ (by omega) (by omega)
        have e2 : (P : Int).tmod 16 = (R : Int) := by rw [Int.tmod_eq_emod_of_nonneg (by omega)]; omega
        obtain ⟨S, hS⟩ : ∃ S, S = 2 ^ R := ⟨_, rfl⟩
        have hS2 : S ≤ 2 ^ 15 := by rw [hS]; exact Nat.pow_le_pow_right (by omega) (by omega)
        have hS3 : ((2 : Int) ^ R) = (S : Int) := by rw [hS]; simp
        have hS4 : S < 65536 := by omega
        have e3 : IntKind.i64.wrap ((2 : Int) ^ R) = (S : Int) := by rw [hS3]; exact wraps_i64 _ (by omega) (by omega)
        have e4 : IntKind.i64.wrap ((K : Int) + (n : Int)) = (K : Int) + (n : Int) := wraps_i64 _ (by omega) (by omega)
        have e5 : IntKind.i64.wrap ((K : Int) + (n : Int) + 1) = (K : Int) + (n : Int) + 1 := wraps_i64 _ (by omega) (by omega)
        have HE : Hid (∀ x, x = pw K * (a * S) → limit x = shiftR (some a) (P : Int)) := Lib.hid (by
          intro x hx
          rw [HR.out, hx, shift_val (P := P) (by omega) hS])
        have HNN := Lib.hid hN
        have hsl := tail_nat w.heap.size 0 N K N (by omega) (by omega)
        have hn1 : n ≤ 1000 := by omega
        have hK1 : K ≤ 1000 := by omega
        have hN3 : N ≤ 1000 := by omega
        clear hK hR hS hS2 hS3 HR hN el la
        clear hneg hbig
        go_enter Tryd.func35, Tryd.ntmps35
        go_wp2_with fail
        refine (natValid_of A n c xs true HV.out _ h hn).mono ?_
        rintro e w1 ⟨rfl, rfl⟩
        go_wp2_with fail
        go_region_held3 (fun _ => True) (trivial)
          (first
            | (go_at_call 49; (with_reducible refine (shift_call w.heap.size K n c A a S N _ (box_one _ _ _) HNN.out (hA2.below (below_one _ _)) hS4 hn1 hK1).mono ?_); rintro e w2 ⟨u, os, rfl, hl, hd, hv, hb2, hg2⟩))
        all_goals
          have k2 : Below w.heap.size w w2 := below_only (below_one w _) hg2 (Nat.le_refl _) (Nat.le_refl _)
          have HL := Lib.hid hl
          have HD := Lib.hid hd
          have HV2 := Lib.hid (HE.out _ hv)
          have hA3 := (arr_cells hb2 hl).more hb2.lt
          clear hl hd hv
          go_wp2_with fail
          refine (natLimited_any _ N N os w2 hA3 HD.out (by omega) _ HV2.out).mono ?_
          rintro e w4 ⟨⟨A4, c4, rfl, h4⟩, rfl⟩
          go_wp2
          go_ret2
          exact ⟨⟨A4, c4, rfl, h4⟩, k2⟩

theorem one_sn : Sn 1 := by
  unfold Sn
  exact Nat.lt_of_lt_of_le (by unfold pw; omega : 1 < pw 1) (pw_mono (by omega))
theorem Num.lit (w : World) (fr : Nat × Nat) : Num (w.alloc (.cells #[.int .i64 1] 3 fr)) (.slice (some ⟨w.heap.size, 0, none⟩) 1 1) 1 := by
  refine ⟨_, 1, by rw [dg_one]; rfl, ?_⟩
  rw [dg_one]
  refine .inr ⟨_, 1, rfl, Nat.le_refl _, fun _ => by simp, fun i u hu => ?_⟩
  cases i with
  | zero =>
    simp at hu
    subst hu
    rw [plain_add, Go.cell_of_row _ w.heap.size 0 _ 3 fr (heap_alloc_new w _)]
    rfl
  | succ i => simp at hu
theorem natPow_sm {x y : Nat} (h : x < pw 256) (h' : y < pw 128) : Sm (x * y) := by
  have h1 : x * y < pw 256 * pw 128 := Nat.mul_lt_mul'' h h'
  have h2 : pw 256 * pw 128 = pw 384 := (pw_add 256 128).symm
  rw [h2] at h1
  exact Nat.lt_of_lt_of_le h1 (pw_mono (by omega))
theorem sq_lt {x : Nat} (h : x < pw 128) : x * x < pw 256 := by
  have h1 : x * x < pw 128 * pw 128 := Nat.mul_lt_mul'' h h
  have h2 : pw 128 * pw 128 = pw 256 := (pw_add 128 128).symm
  rwa [h2] at h1
theorem pw256_sm {x : Nat} (h : x < pw 256) : Sm x := Nat.lt_of_lt_of_le h (pw_mono (by omega))
theorem bit_step (P k : Nat) : P / 2 ^ k = 2 * (P / 2 ^ (k + 1)) + P / 2 ^ k % 2 := by
  rw [Nat.pow_succ, ← Nat.div_div_eq_div_mul]
  omega
theorem bit_val (P k : Nat) : bits .and .i64 ((P : Int) / 2 ^ k) 1 = ((P / 2 ^ k % 2 : Nat) : Int) := by
  rw [and_one]
  simp
theorem bit_on {P k : Nat} (h : P / 2 ^ k % 2 = 1) : (bits .and .i64 ((P : Int) / 2 ^ k) 1 == 1) = true := by rw [bit_val, h]; rfl
theorem bit_off {P k : Nat} (h : ¬ P / 2 ^ k % 2 = 1) : (bits .and .i64 ((P : Int) / 2 ^ k) 1 == 1) = false := by
  rw [bit_val, show P / 2 ^ k % 2 = 0 from by omega]; rfl
theorem odd_pow (a e : Nat) : a ^ e * a ^ e * a = a ^ (2 * e + 1) := by rw [Nat.pow_succ, pow_two_mul]
theorem num_len {w : World} {v : Value} {n : Nat} (h : Num w v n) : ∃ A c, v = .slice A (dg n).length c := by
  obtain ⟨A, c, e, _⟩ := h
  exact ⟨A, c, e⟩

set_option maxRecDepth 20000 in
set_option maxHeartbeats 1600000 in
theorem natPower_any (A : Option Addr) (n c : Nat) (xs : List Int) (p : Int) (w : World) (h : Arr iv w w.heap.size (.slice A n c) xs) (hn : n ≤ 9223372036854775807) :
    Calls Tryd.prog 33 #[.slice A n c, .int .i64 p] w fun e w' => ResEnd (powR (numOf xs) p) e w' ∧ Below w.heap.size w w' := by
  cases hx : numOf xs with
  | none =>
    have HV := Lib.hid (numOf_none hx)
    go_enter Tryd.func33, Tryd.ntmps33
    go_wp2_with fail
    refine (natValid_of A n c xs false HV.out _ h hn).mono ?_
    rintro e w1 ⟨rfl, rfl⟩
    go_wp2
    go_ret2
    exact ⟨ResEnd.err 1, Below.refl _ _⟩
  | some a =>
    obtain ⟨hv, ha, hxs⟩ := numOf_some hx
    have hA := arg_num h hx
    have HV := Lib.hid hv
    have HA := Lib.hid ha
    clear hv hx hxs ha
    by_cases hneg : p < 0
    · have t1 : decide (p < 0) = true := by simpa using hneg
      have HR : Hid (powR (some a) p = .error 2) := Lib.hid (if_pos (.inl hneg))
      clear hneg
      go_enter Tryd.func33, Tryd.ntmps33
      go_wp2_with fail
      refine (natValid_of A n c xs true HV.out _ h hn).mono ?_
      rintro e w1 ⟨rfl, rfl⟩
      go_wp2
      go_ret2
      rw [HR.out]
      exact ⟨ResEnd.err 2, Below.refl _ _⟩
    · have t1 : decide (p < 0) = false := by simpa using hneg
      by_cases hbig : 1000 < p
      · have t2 : decide (1000 < p) = true := by simpa using hbig
        have HR : Hid (powR (some a) p = .error 2) := Lib.hid (if_pos (.inr hbig))
        clear hneg hbig
        go_enter Tryd.func33, Tryd.ntmps33
        go_wp2_with fail
        refine (natValid_of A n c xs true HV.out _ h hn).mono ?_
        rintro e w1 ⟨rfl, rfl⟩
        go_wp2
        go_ret2
        rw [HR.out]
        exact ⟨ResEnd.err 2, Below.refl _ _⟩
      · obtain ⟨P, rfl⟩ : ∃ P : Nat, p = (P : Int) := ⟨p.toNat, by omega⟩
        have hP : P ≤ 1000 := by omega
        have t2 : decide (1000 < (P : Int)) = false := by simp; omega
        have HR : Hid (powR (some a) (P : Int) = limit (a ^ P)) := Lib.hid (by show (if (P : Int) < 0 ∨ 1000 < (P : Int) then Except.error 2 else limit (a ^ (P : Int).toNat)) = _; rw [if_neg (by omega), Int.toNat_natCast])
        obtain ⟨L, hL⟩ : ∃ L, L = lb P := ⟨_, rfl⟩
        have hL10 : L ≤ 10 := by rw [hL]; exact lb_le.2 (by omega)
        have hPL : P < 2 ^ L := by rw [hL]; exact lb_le.1 (Nat.le_refl _)
        have HLb := Lib.hid hL
        have HPL : Hid (P / 2 ^ L = 0) := Lib.hid (Nat.div_eq_of_lt hPL)
        have HLE : Hid (∀ k, P / 2 ^ k ≤ P) := Lib.hid (fun k => Nat.div_le_self _ _)
        clear hneg hbig hL hPL
        go_enter Tryd.func33, Tryd.ntmps33
        go_wp2_with fail
        refine (natValid_of A n c xs true HV.out _ h hn).mono ?_
        rintro e w1 ⟨rfl, rfl⟩
        go_wp2_with fail
        refine (len_any P (by omega) _).mono ?_
        rintro e w1 ⟨rfl, rfl⟩
        rw [← HLb.out]
        go_wp2
        go_loopw [6, 8, 23] (fun pv _ i wr => ∃ j k x : Nat, k + j = L ∧ i = .int .i64 (j : Int) ∧ Hid (x = a ^ (P / 2 ^ k)) ∧ Hid (x < pw 128) ∧ Num wr pv x ∧ Below w.heap.size w wr) (fun _ _ i _ => L - (intOf i).toNat)
        case atStart => exact ⟨0, L, 1, by omega, rfl, Lib.hid (by rw [HPL.out, Nat.pow_zero]), Lib.hid one_pw, Num.one w, (Below.refl _ _).alloc (Nat.le_refl _) _⟩
        case round =>
          obtain ⟨j, k, x, hk, rfl, HX, HXB, hnum, hbel⟩ := hrel
          cases k with
          | zero =>
            obtain rfl : j = L := by omega
            have HP : Hid (limit (a ^ P) = .ok x) := Lib.hid (by
              have e := HX.out
              rw [Nat.pow_zero, Nat.div_one] at e
              rw [← e]
              exact if_pos HXB.out)
            go_wp2
            go_ret2
            rw [HR.out, HP.out]
            exact ⟨ResEnd.ok hnum, hbel⟩
          | succ k =>
            have i0 : (j : Int) < (L : Int) := by omega
            have i1 : (L : Int) - 1 - (j : Int) = (k : Int) := by omega
            have s1 : IntKind.i64.wrap ((L : Int) - 1) = (L : Int) - 1 := wraps_i64 _ (by omega) (by omega)
            have s2 : IntKind.i64.wrap ((L : Int) - 1 - (j : Int)) = (k : Int) := by rw [i1]; exact wraps_i64 _ (by omega) (by omega)
            have HSQ := Lib.hid (sq_lt HXB.out)
            go_wp2_with fail
            refine (product_num w _ _ x x _ hbel hnum hnum (sn_of HXB.out).sm (sn_of HXB.out).sm).mono ?_
            rintro e w2 ⟨v2, rfl, h2, k2, n2⟩
            obtain ⟨A2, c2, rfl⟩ := num_len h2
            have hexp := bit_step P k
            by_cases hbit : P / 2 ^ k % 2 = 1
            · have t3 : (bits .and .i64 ((P : Int) / 2 ^ k) 1 == 1) = true := bit_on hbit
              have HX2 : Hid (x * x * a = a ^ (P / 2 ^ k)) := Lib.hid (by rw [hexp, hbit, HX.out]; exact odd_pow _ _)
              clear hexp hbit
              go_wp2_with fail
              refine (product_num w _ _ (x * x) a _ k2 h2 (hA.up k2) (pw256_sm HSQ.out) (sn_of HA.out).sm).mono ?_
              rintro e w3 ⟨v3, rfl, h3, k3, n3⟩
              obtain ⟨A3, c3, rfl⟩ := num_len h3
              by_cases h128 : (dg (x * x * a)).length ≤ 128
              · have t4 : decide (128 < ((dg (x * x * a)).length : Int)) = false := by simp; omega
                have HB2 : Hid (x * x * a < pw 128) := Lib.hid (dg_length.1 h128)
                go_wp2
                go_roundw
                case rel => exact ⟨j + 1, k, x * x * a, by omega, by go_num, HX2, HB2, h3, k3⟩
                case measure => simp [intOf]; omega
              · have t4 : decide (128 < ((dg (x * x * a)).length : Int)) = true := by simp; omega
                have HBig : Hid (limit (a ^ P) = .error 3) := Lib.hid (limit_big (e := P / 2 ^ k) (by rw [← HX2.out]; exact fun hc => h128 (dg_len_pw hc)) (HLE.out k))
                go_wp2
                go_ret2
                rw [HR.out, HBig.out]
                exact ⟨ResEnd.err 3, k3⟩
            · have t3 : (bits .and .i64 ((P : Int) / 2 ^ k) 1 == 1) = false := bit_off hbit
              have HX2 : Hid (x * x = a ^ (P / 2 ^ k)) := Lib.hid (by rw [hexp, show P / 2 ^ k % 2 = 0 from by omega, Nat.add_zero, HX.out, pow_two_mul])
              clear hexp hbit
              by_cases h128 : (dg (x * x)).length ≤ 128
              · have t4 : decide (128 < ((dg (x * x)).length : Int)) = false := by simp; omega
                have HB2 : Hid (x * x < pw 128) := Lib.hid (dg_length.1 h128)
                go_wp2
                go_roundw
                case rel => exact ⟨j + 1, k, x * x, by omega, by go_num, HX2, HB2, h2, k2⟩
                case measure => simp [intOf]; omega
              · have t4 : decide (128 < ((dg (x * x)).length : Int)) = true := by simp; omega
                have HBig : Hid (limit (a ^ P) = .error 3) := Lib.hid (limit_big (e := P / 2 ^ k) (by rw [← HX2.out]; exact fun hc => h128 (dg_len_pw hc)) (HLE.out k))
                go_wp2
                go_ret2
                rw [HR.out, HBig.out]
                exact ⟨ResEnd.err 3, k2⟩

end Go.Proofs.YtheadamdhjhnpaaDoor
