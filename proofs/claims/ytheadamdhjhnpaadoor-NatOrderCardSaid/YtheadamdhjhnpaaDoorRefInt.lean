/-
  The reference's Int.
-/
import Derived.Test.YtheadamdhjhnpaaDoorRefBits
namespace Go.Proofs.YtheadamdhjhnpaaDoor
open Go.RowKit

def intR : Option Nat → Except Nat Nat
  | some a => if a ≤ 4611686018427387904 then .ok a else .error 2
  | none => .error 1
def valOf : Except Nat Nat → Nat
  | .ok n => n
  | .error _ => 0
def IntEnd (r : Except Nat Nat) (e : Ending) : Prop := e = .returned (.tuple #[.int .i64 (valOf r : Int), .int .i64 (code r : Int)])

theorem vl_drop1 {l : List Nat} {k d : Nat} (h : l[k]? = some d) : vl (l.drop k) = d + 65536 * vl (l.drop (k + 1)) := by
  obtain ⟨hl, he⟩ := List.getElem?_eq_some_iff.1 h
  rw [List.drop_eq_getElem_cons hl, he, vl]
theorem vl_drop_le : ∀ (l : List Nat) (k : Nat), vl (l.drop k) ≤ vl l
  | [], k => by simp
  | d :: l, 0 => by simp
  | d :: l, k + 1 => by
    rw [List.drop_succ_cons, vl]
    have := vl_drop_le l k
    omega
theorem int_big {a : Nat} (h : ¬ a ≤ 4611686018427387904) : intR (some a) = .error 2 := if_neg h
theorem int_ok {a : Nat} (h : a ≤ 4611686018427387904) : intR (some a) = .ok a := if_pos h

set_option maxHeartbeats 1600000 in
theorem refInt_any (A : Option Addr) (n c : Nat) (xs : List Int) (w : World) (h : Arr iv w w.heap.size (.slice A n c) xs) (hn : n ≤ 9223372036854775807) :
    Calls Tryd.prog 17 #[.slice A n c] w fun e w' => IntEnd (intR (numOf xs)) e ∧ w = w' := by
  have HB := refBits_any A n c xs w h hn
  cases hx : numOf xs with
  | none =>
    have HV := Lib.hid (numOf_none hx)
    clear HB
    go_enter Tryd.func17, Tryd.ntmps17
    go_wp2_with fail
    refine (valid_of A n c xs false HV.out _ h hn).mono ?_
    rintro e w1 ⟨rfl, rfl⟩
    go_wp2
    go_ret2
    exact ⟨rfl, rfl⟩
  | some a =>
    rw [hx] at HB
    have HB2 := Lib.hid HB
    clear HB
    obtain ⟨hv, ha, hxs⟩ := numOf_some hx
    have HV := Lib.hid hv
    have hlen : n = (dg a).length := by rw [← h.len, hxs, List.length_map]
    have hl128 := dg_len_pw ha
    have hA : Arr nv w w.heap.size (.slice A n c) (dg a) := by
      have h2 := h
      rw [hxs] at h2
      exact h2.nat
    rw [← hlen] at hl128
    have HLen := Lib.hid hlen
    clear hv ha hx hxs hlen
    by_cases hbits : lb a ≤ 63
    · have t1 : decide (63 < (lb a : Int)) = false := by simp; omega
      have hsmall : a < 9223372036854775808 := lb_le.1 hbits
      clear hbits
      go_enter Tryd.func17, Tryd.ntmps17
      go_wp2_with fail
      refine (valid_of A n c xs true HV.out _ h hn).mono ?_
      rintro e w1 ⟨rfl, rfl⟩
      go_wp2_with fail
      refine HB2.out.mono ?_
      rintro e w1 ⟨rfl, rfl⟩
      simp only [bitsR]
      go_wp2
      go_loop [4, 5] (fun m i => ∃ j M : Nat, j ≤ n ∧ i = .int .i64 ((j : Int) - 1) ∧ m = .int .i64 (M : Int) ∧ Hid (vl ((dg a).drop j) = M) ∧ M < 9223372036854775808) (fun _ i => (intOf i + 1).toNat)
      case atStart => exact ⟨n, 0, by omega, rfl, rfl, Lib.hid (by rw [HLen.out, List.drop_length]; rfl), by omega⟩
      case round =>
        obtain ⟨j, M, hj, rfl, rfl, HM, hM⟩ := hrel
        cases j with
        | zero =>
          have t2 : decide ((0 : Int) ≤ ((0 : Nat) : Int) - 1) = false := rfl
          have hMa : a = M := by have := HM.out; rw [List.drop_zero, vl_dg] at this; exact this
          by_cases hq : M ≤ 4611686018427387904
          · have t3 : decide (4611686018427387904 < (M : Int)) = false := by simp; omega
            have HR : Hid (intR (some a) = .ok M) := Lib.hid (by rw [hMa]; exact int_ok hq)
            clear hMa
            go_wp2
            go_ret2
            rw [HR.out]
            exact ⟨rfl, rfl⟩
          · have t3 : decide (4611686018427387904 < (M : Int)) = true := by simp; omega
            have HR : Hid (intR (some a) = .error 2) := Lib.hid (by rw [hMa]; exact int_big hq)
            clear hMa
            go_wp2
            go_ret2
            rw [HR.out]
            exact ⟨rfl, rfl⟩
        | succ j =>
          obtain ⟨b0, o0, rfl, hB0, hc0⟩ := hA.some_ (by omega)
          obtain ⟨d, hdt⟩ : ∃ d, (dg a)[j]? = some d := ⟨_, List.getElem?_eq_getElem (by have := HLen.out; omega)⟩
          have d0 := hc0 j d hdt
          simp only [nv] at d0
          have hd := (dig_dg a).at_ hdt
          have hle := vl_drop_le (dg a) j
          rw [vl_dg] at hle
          have hst := vl_drop1 hdt
          rw [HM.out] at hst
          rw [hst] at hle
          have HS : Hid (vl ((dg a).drop j) = M * 65536 + d) := Lib.hid (by rw [hst]; omega)
          have i0 : ((j + 1 : Nat) : Int) - 1 = (j : Int) := by omega
          have i1 : (j : Int) < (n : Int) := by omega
          clear hc0 hdt hst
          rw [i0]
          go_wp2
          go_round
          case rel => exact ⟨j, M * 65536 + d, by omega, by go_num, by go_num, HS, by omega⟩
          case measure => simp [intOf]
    · have t1 : decide (63 < (lb a : Int)) = true := by simp; omega
      have hbig : ¬ a ≤ 4611686018427387904 := fun hc => hbits (lb_le.2 (Nat.lt_of_le_of_lt hc (by omega)))
      have HR := Lib.hid (int_big hbig)
      clear hbits hbig
      go_enter Tryd.func17, Tryd.ntmps17
      go_wp2_with fail
      refine (valid_of A n c xs true HV.out _ h hn).mono ?_
      rintro e w1 ⟨rfl, rfl⟩
      go_wp2_with fail
      refine HB2.out.mono ?_
      rintro e w1 ⟨rfl, rfl⟩
      simp only [bitsR]
      go_wp2
      go_ret2
      rw [HR.out]
      exact ⟨rfl, rfl⟩

end Go.Proofs.YtheadamdhjhnpaaDoor
