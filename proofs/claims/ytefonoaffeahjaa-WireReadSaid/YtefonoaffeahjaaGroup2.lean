/-
  The contract of the reference's group.
-/
import Derived.Test.YtefonoaffeahjaaGroup
namespace Go.Proofs.Ytefonoaffeahjaa
open Go.RowKit

theorem Sl.at_ {w : World} {B n c : Nat} {A : Option Addr} {xs : List UInt8} (h : Sl w B (.slice A n c) xs) {k : Nat} (hk : k < n) :
    ∃ b off u, A = some ⟨b, off, none⟩ ∧ xs[k]? = some u ∧ w.cell? ⟨b, off + k, none⟩ = some (bv u) := Arr.at_ (val := bv) h hk

theorem unfolded_at (U : Int) (u : Nat) (w : World) (h : U = (u : Int)) (h0 : u < 18446744073709551616) :
    Calls Try.prog 55 #[.int .u64 U] w fun e w' => e = .returned (.int .i64 (unzig u)) ∧ w' = w := by
  subst h
  exact (unfolded_any u w h0).mono fun e w' ⟨h1, h2⟩ => ⟨h1, h2.symm⟩

set_option maxHeartbeats 1600000 in
set_option maxRecDepth 100000 in
theorem group_any (v : Value) (bs : List UInt8) (B at_ : Nat) (w : World) (h : Sl w B v bs) (hat : at_ ≤ bs.length) (hlen : bs.length ≤ 1000000000000) :
    Calls Try.prog 48 #[v, .int .i64 at_] w fun e w' => GEnd bs.length (dec (bs.drop at_)) e ∧ ∃ k, w' = w.drewN k := by
  obtain ⟨A, c, rfl⟩ := h.form
  obtain ⟨n, hn⟩ : ∃ n, bs.length = n := ⟨_, rfl⟩
  rw [hn] at h hat hlen ⊢
  have HN := Lib.hid hn
  clear hn
  go_enter Try.func48, Try.ntmps48
  go_wp2
  go_loop [7, 8] (fun u vi => ∃ i x : Nat, u = .int .u64 x ∧ vi = .int .i64 i ∧ at_ ≤ i ∧ i ≤ n ∧ i ≤ at_ + 10 ∧ Hid (Pre (bs.drop at_) (i - at_) x)) (fun _ vi => n - (intOf vi).toNat)
  case atStart => exact ⟨at_, 0, rfl, rfl, by omega, by omega, by omega, by rw [Nat.sub_self]; exact Pre.zero _⟩
  case round =>
    obtain ⟨i, x, rfl, rfl, hai, hin', hi10, HP⟩ := hrel
    by_cases hin : i < n
    · by_cases hk : i < at_ + 10
      · obtain ⟨b, off, cb, rfl, hcb, hcell⟩ := h.at_ hin
        obtain ⟨b', off', fb, he, hfb, hfcell⟩ := h.at_ (show at_ < n by omega)
        injection he with he
        injection he with e1 e2 _
        subst e1 e2
        simp only [bv] at hcell hfcell
        have hcl := cb.toNat_lt
        have hfl := fb.toNat_lt
        have hcd : (bs.drop at_)[i - at_]? = some cb := by rw [List.getElem?_drop, show at_ + (i - at_) = i from by omega]; exact hcb
        have hfd : (bs.drop at_)[0]? = some fb := by rw [List.getElem?_drop]; exact hfb
        have HC := Lib.hid hcd
        have HF := Lib.hid hfd
        clear hcb hfb hcd hfd
        by_cases h9 : i = at_ + 9
        · by_cases hf9 : 129 < fb.toNat
          · have hnone : Hid (dec (bs.drop at_) = none) := by
              have hP := HP.out
              rw [h9, show at_ + 9 - at_ = 9 from by omega] at hP
              have hx := (hP.nine HF.out).1 hf9
              refine dec_none_of ?_
              have hc9 := HC.out
              rw [h9, show at_ + 9 - at_ = 9 from by omega] at hc9
              rw [hP.1, decL_at hc9, if_pos hx]
            have h99 : ((i : Int) == (at_ : Int) + 9) = true := by simp; omega
            have hf9' : (129 : Int) < (fb.toNat : Int) := by omega
            clear h9
            go_wp2
            go_ret3
            refine ⟨?_, 0, rfl⟩
            rw [hnone.out]
            exact ⟨_, _, rfl⟩
          · have hx57 : x < 2 ^ 57 := by
              have hP := HP.out
              rw [h9, show at_ + 9 - at_ = 9 from by omega] at hP
              have := hP.nine HF.out
              omega
            have h99 : ((i : Int) == (at_ : Int) + 9) = true := by simp; omega
            have hf9' : (fb.toNat : Int) ≤ 129 := by omega
            have hk0 : ¬ i = at_ := by omega
            have HK : Hid (i = at_ + 9) := h9
            clear h9
            by_cases h8 : cb.toNat < 128
            · have hdl : Hid (decL 0 (bs.drop at_) = some (x * 128 + cb.toNat, bs.drop (i + 1))) := by
                have := HP.out.1
                rw [decL_at HC.out, if_neg (by omega), if_pos h8, List.drop_drop, show at_ + (i - at_ + 1) = i + 1 from by omega] at this
                exact this
              have hub : x * 128 + cb.toNat < 18446744073709551616 := by omega
              have hend : ((i + 1 : Nat) : Int) = ((n - (bs.drop (i + 1)).length : Nat) : Int) := by rw [List.length_drop, HN.out]; omega
              have HEND := Lib.hid hend
              clear hend
              by_cases h128 : fb = 128
              · have hfb : ((fb.toNat : Int) != 128) = false := by rw [h128]; rfl
                have hval : (128 * (x : Int) + (cb.toNat : Int) % 128) = ((x * 128 + cb.toNat : Nat) : Int) := by omega
                have HV := Lib.hid hval
                have hka : ((i : Int) == (at_ : Int)) = false := by simp; omega
                have hnone : Hid (dec (bs.drop at_) = none) := by rw [dec_head HF.out, if_pos h128]; exact rfl
                clear hval h128
                go_wp2_with fail
                go_quiet ((go_at_call 55; exact Calls.quiet_of_same (unfolded_at _ _ _ HV.out hub)))
                go_wp2
                go_ret3
                refine ⟨?_, nq, rfl⟩
                rw [hnone.out]
                exact ⟨_, _, rfl⟩
              · have hfb : ((fb.toNat : Int) != 128) = true := by
                  have : fb.toNat ≠ 128 := fun e => h128 (UInt8.toNat_inj.1 e)
                  simp; omega
                have hval : (128 * (x : Int) + (cb.toNat : Int) % 128) = ((x * 128 + cb.toNat : Nat) : Int) := by omega
                have HV := Lib.hid hval
                have hka : ((i : Int) == (at_ : Int)) = false := by simp; omega
                have hsome : Hid (dec (bs.drop at_) = some (x * 128 + cb.toNat, bs.drop (i + 1))) := by rw [dec_head HF.out, if_neg h128]; exact hdl.out
                clear hval h128
                go_wp2_with fail
                go_quiet ((go_at_call 55; exact Calls.quiet_of_same (unfolded_at _ _ _ HV.out hub)))
                go_wp2
                go_ret3
                refine ⟨?_, nq, rfl⟩
                rw [hsome.out]
                exact congrArg (fun z => Ending.returned (.tuple #[.int .i64 (unzig (x * 128 + cb.toNat)), .int .i64 z, .bool true])) HEND.out
            · have h8' : 128 ≤ cb.toNat := by omega
              have hval : (128 * (x : Int) + (cb.toNat : Int) % 128) = ((x * 128 + cb.toNat % 128 : Nat) : Int) := by omega
              have HV := Lib.hid hval
              have hst : Hid (Pre (bs.drop at_) (i + 1 - at_) (x * 128 + cb.toNat % 128)) := by
                rw [show i + 1 - at_ = (i - at_) + 1 from by omega]
                exact HP.out.step (by omega) HC.out hx57 h8'
              clear hval
              go_wp2
              go_round
              case rel => exact ⟨i + 1, x * 128 + cb.toNat % 128, value_int HV.out, value_int (by omega), by omega, by omega, by omega, hst⟩
              case measure => simp [intOf]; omega
        · have hne : ((i : Int) == (at_ : Int) + 9) = false := by simp; omega
          have hx57 : x < 2 ^ 57 := HP.out.small (by omega)
          by_cases h8 : cb.toNat < 128
          · have hdl : Hid (decL 0 (bs.drop at_) = some (x * 128 + cb.toNat, bs.drop (i + 1))) := by
              have := HP.out.1
              rw [decL_at HC.out, if_neg (by omega), if_pos h8, List.drop_drop, show at_ + (i - at_ + 1) = i + 1 from by omega] at this
              exact this
            have hub : x * 128 + cb.toNat < 18446744073709551616 := by omega
            have hend : ((i + 1 : Nat) : Int) = ((n - (bs.drop (i + 1)).length : Nat) : Int) := by rw [List.length_drop, HN.out]; omega
            have HEND := Lib.hid hend
            clear hend
            by_cases hk0 : i = at_
            · subst hk0
              have hcf : cb = fb := by
                have a := HC.out
                have b := HF.out
                rw [Nat.sub_self, b] at a
                injection a with a
                exact a.symm
              subst hcf
              have hne8 : cb ≠ 128 := by intro e; subst e; simp at h8
              have hval : (128 * (x : Int) + (cb.toNat : Int) % 128) = ((x * 128 + cb.toNat : Nat) : Int) := by omega
              have HV := Lib.hid hval
              have hsome : Hid (dec (bs.drop i) = some (x * 128 + cb.toNat, bs.drop (i + 1))) := by rw [dec_head HF.out, if_neg hne8]; exact hdl.out
              clear hval hne8
              go_wp2_with fail
              go_quiet ((go_at_call 55; exact Calls.quiet_of_same (unfolded_at _ _ _ HV.out hub)))
              go_wp2
              go_ret3
              refine ⟨?_, nq, rfl⟩
              rw [hsome.out]
              exact congrArg (fun z => Ending.returned (.tuple #[.int .i64 (unzig (x * 128 + cb.toNat)), .int .i64 z, .bool true])) HEND.out
            by_cases h128 : fb = 128
            · have hfb : ((fb.toNat : Int) != 128) = false := by rw [h128]; rfl
              have hval : (128 * (x : Int) + (cb.toNat : Int) % 128) = ((x * 128 + cb.toNat : Nat) : Int) := by omega
              have HV := Lib.hid hval
              have hka : ((i : Int) == (at_ : Int)) = false := by simp; omega
              have hnone : Hid (dec (bs.drop at_) = none) := by rw [dec_head HF.out, if_pos h128]; exact rfl
              clear hval h128
              go_wp2_with fail
              go_quiet ((go_at_call 55; exact Calls.quiet_of_same (unfolded_at _ _ _ HV.out hub)))
              go_wp2
              go_ret3
              refine ⟨?_, nq, rfl⟩
              rw [hnone.out]
              exact ⟨_, _, rfl⟩
            · have hfb : ((fb.toNat : Int) != 128) = true := by
                have : fb.toNat ≠ 128 := fun e => h128 (UInt8.toNat_inj.1 e)
                simp; omega
              have hval : (128 * (x : Int) + (cb.toNat : Int) % 128) = ((x * 128 + cb.toNat : Nat) : Int) := by omega
              have HV := Lib.hid hval
              have hka : ((i : Int) == (at_ : Int)) = false := by simp; omega
              have hsome : Hid (dec (bs.drop at_) = some (x * 128 + cb.toNat, bs.drop (i + 1))) := by rw [dec_head HF.out, if_neg h128]; exact hdl.out
              clear hval h128
              go_wp2_with fail
              go_quiet ((go_at_call 55; exact Calls.quiet_of_same (unfolded_at _ _ _ HV.out hub)))
              go_wp2
              go_ret3
              refine ⟨?_, nq, rfl⟩
              rw [hsome.out]
              exact congrArg (fun z => Ending.returned (.tuple #[.int .i64 (unzig (x * 128 + cb.toNat)), .int .i64 z, .bool true])) HEND.out
          · have h8' : 128 ≤ cb.toNat := by omega
            have hval : (128 * (x : Int) + (cb.toNat : Int) % 128) = ((x * 128 + cb.toNat % 128 : Nat) : Int) := by omega
            have HV := Lib.hid hval
            have hst : Hid (Pre (bs.drop at_) (i + 1 - at_) (x * 128 + cb.toNat % 128)) := by
              rw [show i + 1 - at_ = (i - at_) + 1 from by omega]
              exact HP.out.step (by omega) HC.out hx57 h8'
            clear hval
            go_wp2
            go_round
            case rel => exact ⟨i + 1, x * 128 + cb.toNat % 128, value_int HV.out, value_int (by omega), by omega, by omega, by omega, hst⟩
            case measure => simp [intOf]; omega
      · have hnone : Hid (dec (bs.drop at_) = none) := by
          have hP := HP.out
          rw [show i - at_ = 10 from by omega] at hP
          have hlt : at_ < bs.length := by rw [HN.out]; omega
          have hfd : (bs.drop at_)[0]? = some (bs[at_]'hlt) := by rw [List.getElem?_drop]; exact List.getElem?_eq_getElem hlt
          rw [dec_head hfd]
          split
          · rfl
          · rename_i hne
            exact hP.ten hfd hne
        have hk10' : ¬ ((i : Int) < (at_ : Int) + 10) := by omega
        go_wp2
        go_ret3
        refine ⟨?_, 0, rfl⟩
        rw [hnone.out]
        exact ⟨_, _, rfl⟩
    · have hnone : Hid (dec (bs.drop at_) = none) := by
        refine dec_none_of (HP.out.end_ ?_)
        rw [List.length_drop, HN.out]
        omega
      go_wp2
      go_ret3
      refine ⟨?_, 0, rfl⟩
      rw [hnone.out]
      exact ⟨_, _, rfl⟩

end Go.Proofs.Ytefonoaffeahjaa
