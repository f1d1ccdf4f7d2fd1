/-
  The reference's in, listed.
-/
import Derived.Test.YtpgaebdaakllaaaDoorRefAt
namespace Go.Proofs.YtpgaebdaakllaaaDoor
open Go.RowKit

theorem in_any (c lo hi : Int) (w : World) :
    Calls Tryd.prog 51 #[.int .i64 c, .int .i64 lo, .int .i64 hi] w fun e w' => e = .returned (.bool (inB c lo hi)) ∧ w' = w := by
  by_cases h1 : lo ≤ c
  · have t1 : decide (lo ≤ c) = true := by simpa using h1
    by_cases h2 : c ≤ hi
    · have t2 : decide (c ≤ hi) = true := by simpa using h2
      have HE : Hid (inB c lo hi = true) := Lib.hid (by unfold inB; rw [t1, t2]; rfl)
      go_enter Tryd.func51, Tryd.ntmps51
      go_wp2
      go_ret
      exact ⟨ret_bool HE.out.symm, rfl⟩
    · have t2 : decide (c ≤ hi) = false := by simpa using h2
      have HE : Hid (inB c lo hi = false) := Lib.hid (by unfold inB; rw [t2, Bool.and_false])
      go_enter Tryd.func51, Tryd.ntmps51
      go_wp2
      go_ret
      exact ⟨ret_bool HE.out.symm, rfl⟩
  · have t1 : decide (lo ≤ c) = false := by simpa using h1
    have HE : Hid (inB c lo hi = false) := Lib.hid (by unfold inB; rw [t1, Bool.false_and])
    go_enter Tryd.func51, Tryd.ntmps51
    go_wp2
    go_ret
    exact ⟨ret_bool HE.out.symm, rfl⟩

theorem encL_app (a b : List Nat) : encL (a ++ b) = encL a ++ encL b := by
  induction a with
  | nil => rfl
  | cons x a ih => rw [List.cons_append, encL, encL, ih, List.append_assoc]
theorem memB_app (a b : List Nat) (c : Int) : memB (a ++ b) c = (memB a c || memB b c) := by unfold memB; rw [List.any_append]
theorem memB_one (x : Nat) (c : Int) : memB [x] c = ((x : Int) == c) := by simp [memB]
theorem drop_enc (a b : List Nat) : (encL (a ++ b)).drop (encL a).length = encL b := by rw [encL_app, List.drop_left]

set_option maxHeartbeats 1600000 in
theorem listed_any (cs : List Nat) (c : Int) (w : World) (hcs : ∀ x ∈ cs, x < 65536) (hlen : (encL cs).length ≤ 1000000) :
    Calls Tryd.prog 52 #[.string (str (encL cs)), .int .i64 c] w fun e w' => e = .returned (.bool (memB cs c)) ∧ ∃ q, w' = w.drewN q := by
  have hsz : (str (encL cs)).size = (encL cs).length := rfl
  obtain ⟨N, hN⟩ : ∃ N, N = (encL cs).length := ⟨_, rfl⟩
  rw [← hN] at hsz hlen
  go_enter Tryd.func52, Tryd.ntmps52
  go_wp2
  go_loopw [5] (fun i wr => ∃ (a b : List Nat) (k q : Nat), Hid (cs = a ++ b) ∧ k = (encL a).length ∧ i = .int .i64 (k : Int) ∧ Hid (memB a c = false) ∧ wr = w.drewN q) (fun i _ => N - (intOf i).toNat)
  case atStart => exact ⟨[], cs, 0, 0, Lib.hid rfl, rfl, rfl, Lib.hid rfl, rfl⟩
  case round =>
    obtain ⟨a, b, k, q, HC, hk, rfl, HM, rfl⟩ := hrel
    cases b with
    | nil =>
      have hkN : k = N := by rw [hN, HC.out, List.append_nil]; exact hk
      have i1 : decide ((k : Int) < (N : Int)) = false := by simp; omega
      have HE : Hid (memB cs c = false) := Lib.hid (by rw [HC.out, List.append_nil]; exact HM.out)
      clear hk
      go_wp2
      go_ret
      exact ⟨ret_bool HE.out.symm, q, rfl⟩
    | cons x b =>
      have hx : x < 65536 := hcs x (by rw [HC.out]; simp)
      have hxl := encC_len x
      have hkN : k + (encC x).length + (encL b).length = N := by rw [hN, HC.out, encL_app, encL, List.length_append, List.length_append, hk]; omega
      obtain ⟨m, hm⟩ : ∃ m, m = (encC x).length := ⟨_, rfl⟩
      rw [← hm] at hkN hxl
      have i1 : decide ((k : Int) < (N : Int)) = true := by simp; omega
      have hat : Hid (atR ((encL cs).drop k) = (x, m)) := Lib.hid (by rw [HC.out, hk, drop_enc, encL, hm]; exact atR_enc hx _)
      have HC2 : Hid (cs = (a ++ [x]) ++ b) := Lib.hid (by rw [HC.out]; simp)
      have hk2 : k + m = (encL (a ++ [x])).length := by rw [encL_app, encL, encL, List.append_nil, List.length_append, ← hk, ← hm]
      have HCall := Lib.hid (at_any (encL cs) k (w.drewN q) (by omega) (by omega))
      by_cases hxc : (x : Int) = c
      · have t1 : ((x : Int) == c) = true := by simpa using hxc
        have HE : Hid (memB cs c = true) := Lib.hid (by rw [HC2.out, memB_app, memB_app, memB_one, t1]; simp)
        clear hk hm hk2
        go_wp2_with fail
        refine HCall.out.mono ?_
        rintro e w1 ⟨rfl, q1, rfl⟩
        rw [hat.out]
        unfold two
        go_wp2
        go_ret
        exact ⟨ret_bool HE.out.symm, _, rfl⟩
      · have t1 : ((x : Int) == c) = false := by simpa using hxc
        have HE : Hid (memB (a ++ [x]) c = false) := Lib.hid (by rw [memB_app, memB_one, t1, HM.out]; rfl)
        clear hk hm
        go_wp2_with fail
        refine HCall.out.mono ?_
        rintro e w1 ⟨rfl, q1, rfl⟩
        rw [hat.out]
        unfold two
        go_wp2
        go_roundw
        case rel => exact ⟨a ++ [x], b, k + m, _, HC2, hk2, by go_num, HE, rfl⟩
        case measure => simp [intOf]; omega

end Go.Proofs.YtpgaebdaakllaaaDoor
