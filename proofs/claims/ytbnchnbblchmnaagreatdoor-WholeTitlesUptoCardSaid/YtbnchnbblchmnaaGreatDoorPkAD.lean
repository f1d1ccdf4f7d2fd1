/-
  The reference's at.
  The reference's in, listed.
  The reference's Class and Has.
  The reference's Decode and Count.
  The reference's bytes.
-/
import Derived.Test.YtbnchnbblchmnaaGreatDoorPkAC
namespace Go.Proofs.YtbnchnbblchmnaaGreatDoor
open Go.RowKit

def two (a b : Nat) : Value := .tuple #[.int .i64 (a : Int), .int .i64 (b : Int)]
theorem ret_two {a b : Int} {x y : Nat} (h1 : a = x) (h2 : b = y) : Ending.returned (.tuple #[.int .i64 a, .int .i64 b]) = .returned (two x y) := by rw [h1, h2]; rfl

theorem drop_at {s : List UInt8} {k : Nat} (h : k < (str s).size) : s.drop k = (str s)[k] :: s.drop (k + 1) := List.drop_eq_getElem_cons h
theorem drop_end {s : List UInt8} {k : Nat} (h : ¬ k < (str s).size) : s.drop k = [] := List.drop_of_length_le (Nat.le_of_not_lt h)
theorem at_none_of {s : List UInt8} {k : Nat} (hk : k < (str s).size) (hA : ¬ (str s)[k].toNat < 128) (h2 : ∀ h : k + 1 < (str s).size, is2 (str s)[k].toNat (str s)[k + 1].toNat = false)
    (h3 : ∀ (h : k + 1 < (str s).size) (h' : k + 1 + 1 < (str s).size), is3 (str s)[k].toNat (str s)[k + 1].toNat (str s)[k + 1 + 1].toNat = false) : atR (s.drop k) = (0, 0) := by
  rw [drop_at hk]
  by_cases hk1 : k + 1 < (str s).size
  · rw [drop_at hk1]
    by_cases hk2 : k + 1 + 1 < (str s).size
    · rw [drop_at hk2]; exact at_none3 hA (h2 hk1) (h3 hk1 hk2)
    · rw [drop_end hk2]; exact at_none2 hA (h2 hk1)
  · rw [drop_end hk1]; exact at_none1 hA
theorem is2_false {b c : Nat} (h : ¬ (194 ≤ b ∧ b < 224 ∧ c / 64 = 2)) : is2 b c = false := decide_eq_false h
theorem is3_false {b c d : Nat} (h : ¬ (224 ≤ b ∧ b < 240 ∧ c / 64 = 2 ∧ d / 64 = 2 ∧ 2048 ≤ v3 b c d)) : is3 b c d = false := decide_eq_false h
theorem eqb_true {a b : Int} (h : a = b) : (a == b) = true := by simp [h]
theorem eqb_false {a b : Int} (h : a ≠ b) : (a == b) = false := by simp [h]

set_option maxRecDepth 20000 in
set_option maxHeartbeats 1600000 in
theorem at_any (s : List UInt8) (k : Nat) (w : World) (hk : k < s.length) (hlen : s.length ≤ 1000000000000) :
    Calls Tryz.prog 40 #[.string (str s), .int .i64 (k : Int)] w fun e w' => e = .returned (two (atR (s.drop k)).1 (atR (s.drop k)).2) ∧ ∃ q, w' = w.drewN q := by
  have hsz : (str s).size = s.length := rfl
  have hk0 : k < (str s).size := hk
  obtain ⟨R, hR⟩ : ∃ R, R = atR (s.drop k) := ⟨_, rfl⟩
  rw [← hR]
  have HR := Lib.hid hR
  clear hR
  by_cases hA : (str s)[k].toNat < 128
  · have t0 : decide (((str s)[k].toNat : Int) < 128) = true := by simp; omega
    have HE : Hid (R = ((str s)[k].toNat, 1)) := Lib.hid (by rw [HR.out, drop_at hk0, at_ascii hA])
    go_enter Tryz.func40, Tryz.ntmps40
    go_wp2
    go_ret2
    rw [HE.out]
    exact ⟨ret_two rfl rfl, 0, rfl⟩
  have t0 : decide (((str s)[k].toNat : Int) < 128) = false := by simp; omega
  by_cases h1 : (str s)[k].toNat < 194
  · have t1 : decide (194 ≤ ((str s)[k].toNat : Int)) = false := by simp; omega
    have t2 : decide (224 ≤ ((str s)[k].toNat : Int)) = false := by simp; omega
    have HE : Hid (R = (0, 0)) := Lib.hid (by rw [HR.out, at_none_of hk0 hA (fun _ => is2_false (by omega)) (fun _ _ => is3_false (by omega))])
    go_enter Tryz.func40, Tryz.ntmps40
    go_wp2
    go_ret2
    rw [HE.out]
    exact ⟨ret_two rfl rfl, 0, rfl⟩
  have t1 : decide (194 ≤ ((str s)[k].toNat : Int)) = true := by simp; omega
  by_cases h2 : (str s)[k].toNat < 224
  · have t2 : decide (((str s)[k].toNat : Int) < 224) = true := by simp; omega
    have t20 : decide (224 ≤ ((str s)[k].toNat : Int)) = false := by simp; omega
    by_cases h3 : k + 1 < s.length
    · have h30 : k + 1 < (str s).size := h3
      have t3 : decide ((k : Int) + 1 < (s.length : Int)) = true := by simp; omega
      by_cases h4 : (str s)[k + 1].toNat / 64 = 2
      · have t4 : (((str s)[k + 1].toNat : Int) / 64 == 2) = true := eqb_true (by omega)
        have HE : Hid (R = (v2 (str s)[k].toNat (str s)[k + 1].toNat, 2)) := Lib.hid (by rw [HR.out, drop_at hk0, drop_at h30, at_two hA (is2_mk (by omega) h2 h4)])
        go_enter Tryz.func40, Tryz.ntmps40
        go_wp2
        go_ret2
        rw [HE.out]
        exact ⟨ret_two (by show _ = ((v2 _ _ : Nat) : Int); unfold v2; omega) rfl, 0, rfl⟩
      · have t4 : (((str s)[k + 1].toNat : Int) / 64 == 2) = false := eqb_false (by omega)
        have HE : Hid (R = (0, 0)) := Lib.hid (by rw [HR.out, at_none_of hk0 hA (fun _ => is2_false (by omega)) (fun _ _ => is3_false (by omega))])
        go_enter Tryz.func40, Tryz.ntmps40
        go_wp2
        go_ret2
        rw [HE.out]
        exact ⟨ret_two rfl rfl, 0, rfl⟩
    · have t3 : decide ((k : Int) + 1 < (s.length : Int)) = false := by simp; omega
      have HE : Hid (R = (0, 0)) := Lib.hid (by rw [HR.out, at_none_of hk0 hA (fun h => absurd h h3) (fun h _ => absurd h h3)])
      go_enter Tryz.func40, Tryz.ntmps40
      go_wp2
      go_ret2
      rw [HE.out]
      exact ⟨ret_two rfl rfl, 0, rfl⟩
  have t2 : decide (((str s)[k].toNat : Int) < 224) = false := by simp; omega
  have t20 : decide (224 ≤ ((str s)[k].toNat : Int)) = true := by simp; omega
  by_cases h3 : (str s)[k].toNat < 240
  · have t3 : decide (((str s)[k].toNat : Int) < 240) = true := by simp; omega
    by_cases h4 : k + 2 < s.length
    · have t4 : decide ((k : Int) + 2 < (s.length : Int)) = true := by simp; omega
      have h30 : k + 1 < (str s).size := by omega
      have h40 : k + 2 < (str s).size := h4
      by_cases h5 : (str s)[k + 1].toNat / 64 = 2
      · have t5 : (((str s)[k + 1].toNat : Int) / 64 == 2) = true := eqb_true (by omega)
        by_cases h6 : (str s)[k + 2].toNat / 64 = 2
        · have t6 : (((str s)[k + 2].toNat : Int) / 64 == 2) = true := eqb_true (by omega)
          have hb1 : (str s)[k + 1].toNat < 256 := (str s)[k + 1].toNat_lt
          have hb2 : (str s)[k + 2].toNat < 256 := (str s)[k + 2].toNat_lt
          obtain ⟨V, hV⟩ : ∃ V, V = v3 (str s)[k].toNat (str s)[k + 1].toNat (str s)[k + 2].toNat := ⟨_, rfl⟩
          have hVe : (((str s)[k].toNat : Int) - 224) * 4096 + (((str s)[k + 1].toNat : Int) - 128) * 64 + (((str s)[k + 2].toNat : Int) - 128) = (V : Int) := by rw [hV]; unfold v3; omega
          by_cases h7 : 2048 ≤ V
          · have t7 : decide (2048 ≤ (((str s)[k].toNat : Int) - 224) * 4096 + (((str s)[k + 1].toNat : Int) - 128) * 64 + (((str s)[k + 2].toNat : Int) - 128)) = true := by rw [hVe]; simp; omega
            have HE : Hid (R = (V, 3)) := Lib.hid (by rw [HR.out, drop_at hk0, drop_at h30, drop_at h40, at_three hA (is2_no (by omega)) (is3_mk (by omega) h3 h5 h6 (by rw [← hV]; exact h7)), ← hV])
            have HV := Lib.hid hVe
            clear hV hVe
            go_enter Tryz.func40, Tryz.ntmps40
            go_wp2
            go_quiet (fail)
            go_wp2
            go_ret2
            rw [HE.out]
            exact ⟨ret_two HV.out rfl, _, rfl⟩
          · have t7 : decide (2048 ≤ (((str s)[k].toNat : Int) - 224) * 4096 + (((str s)[k + 1].toNat : Int) - 128) * 64 + (((str s)[k + 2].toNat : Int) - 128)) = false := by rw [hVe]; simp; omega
            have HE : Hid (R = (0, 0)) := Lib.hid (by rw [HR.out, at_none_of hk0 hA (fun _ => is2_no (by omega)) (fun _ _ => is3_false (by show ¬ (_ ∧ _ ∧ _ ∧ _ ∧ 2048 ≤ v3 (str s)[k].toNat (str s)[k + 1].toNat (str s)[k + 2].toNat); rw [← hV]; omega))])
            clear hV hVe
            go_enter Tryz.func40, Tryz.ntmps40
            go_wp2
            go_quiet (fail)
            go_wp2
            go_ret2
            rw [HE.out]
            exact ⟨ret_two rfl rfl, _, rfl⟩
        · have t6 : (((str s)[k + 2].toNat : Int) / 64 == 2) = false := eqb_false (by omega)
          have HE : Hid (R = (0, 0)) := Lib.hid (by rw [HR.out, at_none_of hk0 hA (fun _ => is2_no (by omega)) (fun _ _ => is3_false (fun h => h6 h.2.2.2.1))])
          go_enter Tryz.func40, Tryz.ntmps40
          go_wp2
          go_ret2
          rw [HE.out]
          exact ⟨ret_two rfl rfl, 0, rfl⟩
      · have t5 : (((str s)[k + 1].toNat : Int) / 64 == 2) = false := eqb_false (by omega)
        have HE : Hid (R = (0, 0)) := Lib.hid (by rw [HR.out, at_none_of hk0 hA (fun _ => is2_no (by omega)) (fun _ _ => is3_false (fun h => h5 h.2.2.1))])
        go_enter Tryz.func40, Tryz.ntmps40
        go_wp2
        go_ret2
        rw [HE.out]
        exact ⟨ret_two rfl rfl, 0, rfl⟩
    · have t4 : decide ((k : Int) + 2 < (s.length : Int)) = false := by simp; omega
      have HE : Hid (R = (0, 0)) := Lib.hid (by rw [HR.out, at_none_of hk0 hA (fun _ => is2_no (by omega)) (fun _ h => absurd h h4)])
      go_enter Tryz.func40, Tryz.ntmps40
      go_wp2
      go_ret2
      rw [HE.out]
      exact ⟨ret_two rfl rfl, 0, rfl⟩
  · have t3 : decide (((str s)[k].toNat : Int) < 240) = false := by simp; omega
    have hb0 : (str s)[k].toNat < 256 := (str s)[k].toNat_lt
    have HE : Hid (R = (0, 0)) := Lib.hid (by rw [HR.out, at_none_of hk0 hA (fun _ => is2_no (by omega)) (fun _ _ => is3_false (by omega))])
    go_enter Tryz.func40, Tryz.ntmps40
    go_wp2
    go_ret2
    rw [HE.out]
    exact ⟨ret_two rfl rfl, 0, rfl⟩

end Go.Proofs.YtbnchnbblchmnaaGreatDoor

namespace Go.Proofs.YtbnchnbblchmnaaGreatDoor
open Go.RowKit

theorem in_any (c lo hi : Int) (w : World) :
    Calls Tryz.prog 84 #[.int .i64 c, .int .i64 lo, .int .i64 hi] w fun e w' => e = .returned (.bool (inB c lo hi)) ∧ w' = w := by
  by_cases h1 : lo ≤ c
  · have t1 : decide (lo ≤ c) = true := by simpa using h1
    by_cases h2 : c ≤ hi
    · have t2 : decide (c ≤ hi) = true := by simpa using h2
      have HE : Hid (inB c lo hi = true) := Lib.hid (by unfold inB; rw [t1, t2]; rfl)
      go_enter Tryz.func84, Tryz.ntmps84
      go_wp2
      go_ret
      exact ⟨ret_bool HE.out.symm, rfl⟩
    · have t2 : decide (c ≤ hi) = false := by simpa using h2
      have HE : Hid (inB c lo hi = false) := Lib.hid (by unfold inB; rw [t2, Bool.and_false])
      go_enter Tryz.func84, Tryz.ntmps84
      go_wp2
      go_ret
      exact ⟨ret_bool HE.out.symm, rfl⟩
  · have t1 : decide (lo ≤ c) = false := by simpa using h1
    have HE : Hid (inB c lo hi = false) := Lib.hid (by unfold inB; rw [t1, Bool.false_and])
    go_enter Tryz.func84, Tryz.ntmps84
    go_wp2
    go_ret
    exact ⟨ret_bool HE.out.symm, rfl⟩

theorem encL_app (a b : List Nat) : encL (a ++ b) = encL a ++ encL b := by
  induction a with
  | nil => rfl
  | cons x a ih => rw [List.cons_append, encL, encL, ih, List.append_assoc]
theorem memB_app (a b : List Nat) (c : Int) : memB (a ++ b) c = (memB a c || memB b c) := by unfold memB; rw [List.any_append]
theorem memB_one (x : Nat) (c : Int) : memB [x] c = ((x : Int) == c) := by simp [memB]
theorem drop_enc (a b : List Nat) : (encL (a ++ b)).drop (encL a).length = encL b := by rw [encL_app, List.drop_left]

set_option maxHeartbeats 1600000 in
theorem listed_any (cs : List Nat) (c : Int) (w : World) (hcs : ∀ x ∈ cs, x < 65536) (hlen : (encL cs).length ≤ 1000000) :
    Calls Tryz.prog 85 #[.string (str (encL cs)), .int .i64 c] w fun e w' => e = .returned (.bool (memB cs c)) ∧ ∃ q, w' = w.drewN q := by
  have hsz : (str (encL cs)).size = (encL cs).length := rfl
  obtain ⟨N, hN⟩ : ∃ N, N = (encL cs).length := ⟨_, rfl⟩
  rw [← hN] at hsz hlen
  go_enter Tryz.func85, Tryz.ntmps85
  go_wp2
  go_loopw [5] (fun i wr => ∃ (a b : List Nat) (k q : Nat), Hid (cs = a ++ b) ∧ k = (encL a).length ∧ i = .int .i64 (k : Int) ∧ Hid (memB a c = false) ∧ wr = w.drewN q) (fun i _ => N - (intOf i).toNat)
  case atStart => exact ⟨[], cs, 0, 0, Lib.hid rfl, rfl, rfl, Lib.hid rfl, rfl⟩
  case round =>
    obtain ⟨a, b, k, q, HC, hk, rfl, HM, rfl⟩ := hrel
    cases b with
    | nil =>
      have hkN : k = N := by rw [hN, HC.out, List.append_nil]; exact hk
      have i1 : decide ((k : Int) < (N : Int)) = false := by simp; omega
      have HE : Hid (memB cs c = false) := Lib.hid (by rw [HC.out, List.append_nil]; exact HM.out)
      clear hk
      go_wp2
      go_ret
      exact ⟨ret_bool HE.out.symm, q, rfl⟩
    | cons x b =>
      have hx : x < 65536 := hcs x (by rw [HC.out]; simp)
      have hxl := encC_len x
      have hkN : k + (encC x).length + (encL b).length = N := by rw [hN, HC.out, encL_app, encL, List.length_append, List.length_append, hk]; omega
      obtain ⟨m, hm⟩ : ∃ m, m = (encC x).length := ⟨_, rfl⟩
      rw [← hm] at hkN hxl
      have i1 : decide ((k : Int) < (N : Int)) = true := by simp; omega
      have hat : Hid (atR ((encL cs).drop k) = (x, m)) := Lib.hid (by rw [HC.out, hk, drop_enc, encL, hm]; exact atR_enc hx _)
      have HC2 : Hid (cs = (a ++ [x]) ++ b) := Lib.hid (by rw [HC.out]; simp)
      have hk2 : k + m = (encL (a ++ [x])).length := by rw [encL_app, encL, encL, List.append_nil, List.length_append, ← hk, ← hm]
      have HCall := Lib.hid (at_any (encL cs) k (w.drewN q) (by omega) (by omega))
      by_cases hxc : (x : Int) = c
      · have t1 : ((x : Int) == c) = true := by simpa using hxc
        have HE : Hid (memB cs c = true) := Lib.hid (by rw [HC2.out, memB_app, memB_app, memB_one, t1]; simp)
        clear hk hm hk2
        go_wp2_with fail
        refine HCall.out.mono ?_
        rintro e w1 ⟨rfl, q1, rfl⟩
        rw [hat.out]
        unfold two
        go_wp2
        go_ret
        exact ⟨ret_bool HE.out.symm, _, rfl⟩
      · have t1 : ((x : Int) == c) = false := by simpa using hxc
        have HE : Hid (memB (a ++ [x]) c = false) := Lib.hid (by rw [memB_app, memB_one, t1, HM.out]; rfl)
        clear hk hm
        go_wp2_with fail
        refine HCall.out.mono ?_
        rintro e w1 ⟨rfl, q1, rfl⟩
        rw [hat.out]
        unfold two
        go_wp2
        go_roundw
        case rel => exact ⟨a ++ [x], b, k + m, _, HC2, hk2, by go_num, HE, rfl⟩
        case measure => simp [intOf]; omega

end Go.Proofs.YtbnchnbblchmnaaGreatDoor

namespace Go.Proofs.YtbnchnbblchmnaaGreatDoor
open Go.RowKit

theorem enc_latin : encL latinL = latinB := by kernel_rfl
theorem enc_greek : encL greekL = greekB := by kernel_rfl
theorem enc_cyr : encL cyrL = cyrB := by kernel_rfl
theorem latin_small : ∀ x ∈ latinL, x < 65536 := of_decide_eq_true (by kernel_rfl)
theorem greek_small : ∀ x ∈ greekL, x < 65536 := of_decide_eq_true (by kernel_rfl)
theorem cyr_small : ∀ x ∈ cyrL, x < 65536 := of_decide_eq_true (by kernel_rfl)
theorem listed_latin (c : Int) (w : World) :
    Calls Tryz.prog 85 #[.string (str latinB), .int .i64 c] w fun e w' => e = .returned (.bool (memB latinL c)) ∧ ∃ q, w' = w.drewN q := by
  rw [← enc_latin]
  exact listed_any latinL c w latin_small (by rw [enc_latin]; exact of_decide_eq_true (by kernel_rfl))
theorem listed_greek (c : Int) (w : World) :
    Calls Tryz.prog 85 #[.string (str greekB), .int .i64 c] w fun e w' => e = .returned (.bool (memB greekL c)) ∧ ∃ q, w' = w.drewN q := by
  rw [← enc_greek]
  exact listed_any greekL c w greek_small (by rw [enc_greek]; exact of_decide_eq_true (by kernel_rfl))
theorem listed_cyr (c : Int) (w : World) :
    Calls Tryz.prog 85 #[.string (str cyrB), .int .i64 c] w fun e w' => e = .returned (.bool (memB cyrL c)) ∧ ∃ q, w' = w.drewN q := by
  rw [← enc_cyr]
  exact listed_any cyrL c w cyr_small (by rw [enc_cyr]; exact of_decide_eq_true (by kernel_rfl))

set_option maxRecDepth 20000 in
set_option maxHeartbeats 6400000 in
theorem class_any (c : Int) (w : World) :
    Calls Tryz.prog 53 #[.int .i64 c] w fun e w' => e = .returned (two (clsR c).1 (clsR c).2) ∧ ∃ q, w' = w.drewN q := by
  obtain ⟨R, hR⟩ : ∃ R, R = clsR c := ⟨_, rfl⟩
  rw [← hR]
  have HR := Lib.hid hR
  clear hR
  go_enter Tryz.func53, Tryz.ntmps53
  go_wp2_with fail
  refine (in_any _ _ _ _).mono ?_
  rintro e w1 ⟨rfl, rfl⟩
  cases hF : inB c 65281 65374
  case' false =>
    have HD : Hid (R = clsN c) := Lib.hid (by rw [HR.out]; unfold clsR; rw [hF]; rfl)
    clear HR hF
  case' true =>
    have HD : Hid (R = clsN (c - 65248)) := Lib.hid (by rw [HR.out]; unfold clsR; rw [hF]; rfl)
    have hw : 65281 ≤ c ∧ c ≤ 65374 := by unfold inB at hF; simpa using hF
    clear HR hF
  all_goals (go_wp2_with (go_at_call 84; refine (in_any _ _ _ _).mono ?_; rintro e w1 ⟨rfl, rfl⟩; generalize hq : inB _ _ _ = bq; cases bq))
  all_goals try (go_at_call 85; refine (listed_latin _ _).mono ?_; rintro e w1 ⟨rfl, q1, rfl⟩; generalize hq : memB _ _ = bq; cases bq)
  all_goals try (go_wp2_with (go_at_call 84; refine (in_any _ _ _ _).mono ?_; rintro e w1 ⟨rfl, rfl⟩; generalize hq : inB _ _ _ = bq; cases bq))
  all_goals try (go_at_call 85; refine (listed_greek _ _).mono ?_; rintro e w1 ⟨rfl, q2, rfl⟩; generalize hq : memB _ _ = bq; cases bq)
  all_goals try (go_wp2_with (go_at_call 84; refine (in_any _ _ _ _).mono ?_; rintro e w1 ⟨rfl, rfl⟩; generalize hq : inB _ _ _ = bq; cases bq))
  all_goals try (go_at_call 85; refine (listed_cyr _ _).mono ?_; rintro e w1 ⟨rfl, q3, rfl⟩; generalize hq : memB _ _ = bq; cases bq)
  all_goals try (go_wp2_with (go_at_call 84; refine (in_any _ _ _ _).mono ?_; rintro e w1 ⟨rfl, rfl⟩; generalize hq : inB _ _ _ = bq; cases bq))
  all_goals
    go_ret2
    have HE := HD.out
    clear HD
    refine ⟨ret_two ?_ ?_, by first | exact ⟨0, rfl⟩ | exact ⟨_, rfl⟩⟩ <;> (rw [HE]; unfold clsN; simp_all)

set_option maxHeartbeats 1600000 in
theorem has_any (c : Int) (w : World) :
    Calls Tryz.prog 41 #[.int .i64 c] w fun e w' => e = .returned (.bool (hasR c)) ∧ ∃ q, w' = w.drewN q := by
  have hcl := class_any c w
  obtain ⟨a, ha⟩ : ∃ a, a = (clsR c).1 := ⟨_, rfl⟩
  obtain ⟨b, hb⟩ : ∃ b, b = (clsR c).2 := ⟨_, rfl⟩
  rw [← ha, ← hb] at hcl
  have HC := Lib.hid hcl
  have HB : Hid (hasR c = (b != 0)) := Lib.hid (by rw [hb]; rfl)
  clear hcl ha hb
  go_enter Tryz.func41, Tryz.ntmps41
  go_wp2_with fail
  refine HC.out.mono ?_
  rintro e w1 ⟨rfl, q, rfl⟩
  unfold two
  go_wp2
  go_ret
  rw [HB.out]
  refine ⟨ret_bool ?_, q, rfl⟩
  cases b <;> simp
  omega

end Go.Proofs.YtbnchnbblchmnaaGreatDoor

namespace Go.Proofs.YtbnchnbblchmnaaGreatDoor
open Go.RowKit

/-- What Decode hands back: a list of its own and true, or nothing and false. -/
def DecEnd (W : World) (r : Option (List Nat)) (e : Ending) (w' : World) : Prop :=
  match r with
  | some l => ∃ v, e = .returned (.tuple #[v, .bool true]) ∧ w'.ownsRow W.heap.size 3 1 v l.length (l.map nv)
  | none => e = .returned (.tuple #[.slice none 0 0, .bool false])
theorem DecEnd.good {W w' : World} {l : List Nat} {v : Value} (h : w'.ownsRow W.heap.size 3 1 v l.length (l.map nv)) : DecEnd W (some l) (.returned (.tuple #[v, .bool true])) w' := ⟨v, rfl, h⟩
theorem DecEnd.bad {W w' : World} : DecEnd W none (.returned (.tuple #[.slice none 0 0, .bool false])) w' := rfl
theorem DecEnd.of {W w' : World} {r r' : Option (List Nat)} {e : Ending} (hr : r = r') (h : DecEnd W r' e w') : DecEnd W r e w' := hr ▸ h

theorem dec_len {s : List UInt8} {l : List Nat} (h : decR s = some l) : l.length ≤ s.length := by
  obtain ⟨h1, h2⟩ := enc_dec h
  rw [← h1]
  clear h h1 h2
  induction l with
  | nil => simp
  | cons x l ih =>
    have := encC_len x
    rw [encL, List.length_append, List.length_cons]
    omega

/-- A place in a string behind the characters l. -/
def Past (s : List UInt8) (k : Nat) (l : List Nat) : Prop := k ≤ s.length ∧ l.length ≤ k ∧ decR s = (decR (s.drop k)).map (l ++ ·)
theorem Past.start (s : List UInt8) : Past s 0 [] := ⟨by omega, by simp, by simp⟩
theorem Past.done {s : List UInt8} {k : Nat} {l : List Nat} (h : Past s k l) (hk : ¬ k < s.length) : decR s = some l := by
  rw [h.2.2, List.drop_of_length_le (by omega), decR_nil]
  simp
theorem Past.next {s : List UInt8} {k c n : Nat} {l : List Nat} (h : Past s k l) (hk : k < s.length) (ha : atR (s.drop k) = (c, n)) (h0 : n ≠ 0) (hc : kindR (c : Int) ≠ 0) : Past s (k + n) (l ++ [c]) := by
  have hne : s.drop k ≠ [] := fun e => by rw [List.drop_eq_nil_iff] at e; omega
  have hl := (atR_len (s.drop k)).1
  rw [ha, List.length_drop] at hl
  refine ⟨by have : n ≤ s.length - k := hl; omega, by rw [List.length_append, List.length_singleton]; have := h.2.1; omega, ?_⟩
  have hs : ¬ ((atR (s.drop k)).2 = 0 ∨ kindR ((atR (s.drop k)).1 : Int) = 0) := by
    rw [ha]
    rintro (e | e)
    · exact h0 e
    · exact hc e
  rw [h.2.2, decR_step hne hs, ha, List.drop_drop]
  cases decR (s.drop (k + n)) <;> simp
theorem Past.bad {s : List UInt8} {k c n : Nat} {l : List Nat} (h : Past s k l) (hk : k < s.length) (ha : atR (s.drop k) = (c, n)) (h0 : n = 0 ∨ kindR (c : Int) = 0) : decR s = none := by
  have hne : s.drop k ≠ [] := fun e => by rw [List.drop_eq_nil_iff] at e; omega
  rw [h.2.2, decR_stop hne (by rw [ha]; exact h0)]
  rfl
theorem has_kind {c : Int} : hasR c = true ↔ kindR c ≠ 0 := by unfold hasR; simp
theorem has_kind_no {c : Int} (h : hasR c = false) : kindR c = 0 := by unfold hasR at h; simpa using h

set_option maxRecDepth 20000 in
set_option maxHeartbeats 1600000 in
theorem refDecode_any (s : List UInt8) (w : World) (hlen : s.length ≤ 100000000000) :
    Calls Tryz.prog 15 #[.string (str s)] w fun e w' => DecEnd w (decR s) e w' ∧ Below w.heap.size w w' := by
  have hsz : (str s).size = s.length := rfl
  obtain ⟨R, hR⟩ : ∃ R, R = decR s := ⟨_, rfl⟩
  rw [← hR]
  have HR := Lib.hid hR
  clear hR
  go_enter Tryz.func15, Tryz.ntmps15
  go_wp2
  go_loopw [4, 5] (fun v i wr => ∃ (k : Nat) (l : List Nat), Hid (Past s k l) ∧ i = .int .i64 (k : Int) ∧ wr.ownsRow w.heap.size 3 1 v l.length (l.map nv) ∧ Below w.heap.size w wr) (fun _ i _ => s.length - (intOf i).toNat)
  case atStart => exact ⟨0, [], Lib.hid (Past.start s), rfl, World.ownsRow_nil _ _ _ _, Below.refl _ _⟩
  case round =>
    obtain ⟨k, l, HP, rfl, hown, hbel⟩ := hrel
    have hkl := HP.out.1
    have hll := HP.out.2.1
    have hbs := hbel.size
    by_cases hlt : k < s.length
    · have i1 : decide ((k : Int) < (s.length : Int)) = true := by simp; omega
      have hat := at_any s k wr hlt (by omega)
      obtain ⟨c, n, hcn⟩ : ∃ c n, atR (s.drop k) = (c, n) := ⟨_, _, rfl⟩
      rw [hcn] at hat
      have HA := Lib.hid hat
      have hnl := atR_len (s.drop k)
      rw [hcn] at hnl
      have hn3 : n ≤ 3 := hnl.2
      by_cases h0 : n = 0
      · subst h0
        have HE : Hid (R = none) := Lib.hid (by rw [HR.out, HP.out.bad hlt hcn (.inl rfl)])
        clear hat hcn hnl
        go_wp2_with fail
        refine HA.out.mono ?_
        rintro e w1 ⟨rfl, q, rfl⟩
        unfold two
        go_wp2
        go_ret2
        rw [HE.out]
        exact ⟨DecEnd.bad, below_drewN hbel q⟩
      · have t0 : ((n : Int) == 0) = false := eqb_false (by omega)
        have HH := Lib.hid (has_any (c : Int))
        cases hc : hasR (c : Int) with
        | false =>
          have HE : Hid (R = none) := Lib.hid (by rw [HR.out, HP.out.bad hlt hcn (.inr (has_kind_no hc))])
          rw [hc] at HH
          clear hat hcn hnl hc
          go_wp2_with fail
          refine HA.out.mono ?_
          rintro e w1 ⟨rfl, q, rfl⟩
          unfold two
          go_wp2_with fail
          refine (HH.out _).mono ?_
          rintro e w2 ⟨rfl, q2, rfl⟩
          go_wp2
          go_ret2
          rw [HE.out]
          exact ⟨DecEnd.bad, below_drewN hbel _⟩
        | true =>
          have HN : Hid (Past s (k + n) (l ++ [c])) := Lib.hid (HP.out.next hlt hcn h0 (has_kind.1 hc))
          rw [hc] at HH
          clear hat hcn hnl hc
          go_wp2_with fail
          refine HA.out.mono ?_
          rintro e w1 ⟨rfl, q, rfl⟩
          unfold two
          go_wp2_with fail
          refine (HH.out _).mono ?_
          rintro e w2 ⟨rfl, q2, rfl⟩
          have hown2 := own_drewN hown (q + q2)
          go_wp2_with (at_builtin; refine append_int (wr.drewN (q + q2)) rfl (.tmp 25) (.tmp 27) rfl w.heap.size u4 l rfl hown2 c _ rfl rfl (by omega) hbs ?_; intro r1 w3 hown3 hb3)
          go_roundw
          case rel => exact ⟨k + n, l ++ [c], HN, by go_num, hown3, (below_drewN hbel _).trans hb3⟩
          case measure => simp [intOf]; omega
    · obtain rfl : k = s.length := by omega
      have HE : Hid (R = some l) := Lib.hid (by rw [HR.out, HP.out.done hlt])
      go_wp2
      go_ret2
      rw [HE.out]
      exact ⟨DecEnd.good hown, hbel⟩

def countR (s : List UInt8) : Nat := match decR s with | some l => l.length | none => 0
theorem countR_some {s : List UInt8} {l : List Nat} (h : decR s = some l) : countR s = l.length := by unfold countR; rw [h]
theorem countR_none {s : List UInt8} (h : decR s = none) : countR s = 0 := by unfold countR; rw [h]
theorem DecEnd.form {W w' : World} {r : Option (List Nat)} {e : Ending} (h : DecEnd W r e w') : ∃ A n c b, e = .returned (.tuple #[.slice A n c, .bool b]) ∧
    ((b = true ∧ ∃ l, r = some l ∧ n = l.length ∧ Arr nv w' w'.heap.size (.slice A n c) l ∧ w'.ownsRow W.heap.size 3 1 (.slice A n c) l.length (l.map nv)) ∨ (b = false ∧ r = none ∧ A = none ∧ n = 0 ∧ c = 0)) := by
  cases r with
  | none => exact ⟨none, 0, 0, false, h, .inr ⟨rfl, rfl, rfl, rfl, rfl⟩⟩
  | some l =>
    obtain ⟨v, rfl, hown⟩ := h
    have hA := Arr.of_own hown
    obtain ⟨A, c, rfl⟩ := hA.form
    exact ⟨A, l.length, c, true, rfl, .inl ⟨rfl, l, rfl, rfl, hA, hown⟩⟩

end Go.Proofs.YtbnchnbblchmnaaGreatDoor

namespace Go.Proofs.YtbnchnbblchmnaaGreatDoor
open Go.RowKit

def fewB (n : Nat) : Bool := decide (n ≤ 40) || (decide (128 < n) && decide (n ≤ 140))
theorem conv_box (w : World) (bs : List UInt8) (vs : Array Value) (n : Nat) (hn : bs.length = n) (h : vs.toList = bs.map bv) :
    (convert 75 9 (.slice (some ⟨w.heap.size, 0, none⟩) n n)).run Tryz.prog (w.alloc (.cells vs 5)) = .ok (.string (str bs)) (w.alloc (.cells vs 5)) := by
  refine conv_bytes (B := w.heap.size + 1) (bs := bs) ?_ 75 5 9 Tryz.underlying75 Tryz.underlying5 Tryz.underlying9
  refine Arr.of_box (Box.made _ _ _) hn (Nat.le_refl _) ?_
  intro i u hu
  rw [← Array.getElem?_toList, h, List.getElem?_map, hu]
  rfl
theorem bv_of {n : Nat} {i : Int} (h : n < 256) (hi : i = n) : Value.int .u8 i = bv (UInt8.ofNat n) := by
  unfold bv
  rw [byte_of h, hi]
theorem lst1 {α : Type} {a x : α} (h : a = x) : [a] = [x] := by rw [h]
theorem lst2 {α : Type} {a b x y : α} (h : a = x) (h2 : b = y) : [a, b] = [x, y] := by rw [h, h2]
theorem lst3 {α : Type} {a b c x y z : α} (h : a = x) (h2 : b = y) (h3 : c = z) : [a, b, c] = [x, y, z] := by rw [h, h2, h3]
theorem enc_one {c : Nat} (h : c < 128) : encC c = [UInt8.ofNat c] := if_pos h
theorem enc_two {c : Nat} (h : ¬ c < 128) (h2 : c < 2048) : encC c = [UInt8.ofNat (192 + c / 64), UInt8.ofNat (128 + c % 64)] := by
  unfold encC
  rw [if_neg h, if_pos h2]
theorem enc_three {c : Nat} (h2 : ¬ c < 2048) : encC c = [UInt8.ofNat (224 + c / 4096), UInt8.ofNat (128 + c / 64 % 64), UInt8.ofNat (128 + c % 64)] := by
  unfold encC
  rw [if_neg (by omega), if_neg h2]

set_option maxRecDepth 20000 in
set_option maxHeartbeats 1600000 in
theorem refBytes_any (c : Nat) (w : World) (hc : c < 65536) :
    Calls Tryz.prog 87 #[.int .i64 (c : Int)] w fun e w' => e = .returned (.string (str (encC c))) ∧ Below w.heap.size w w' := by
  by_cases h1 : c < 128
  · have t1 : decide ((c : Int) < 128) = true := by simp; omega
    have hcv := conv_box w (encC c) #[.int .u8 (c : Int)] 1 (by rw [enc_one h1]; rfl) (by rw [enc_one h1]; exact lst1 (bv_of (by omega) rfl))
    go_enter Tryz.func87, Tryz.ntmps87
    go_wp2
    go_ret
    exact ⟨rfl, (Below.refl _ _).alloc (Nat.le_refl _) _⟩
  · have t1 : decide ((c : Int) < 128) = false := by simp; omega
    by_cases h2 : c < 2048
    · have t2 : decide ((c : Int) < 2048) = true := by simp; omega
      have hcv := conv_box w (encC c) #[.int .u8 (192 + (c : Int) / 64), .int .u8 (128 + (c : Int) % 64)] 2 (by rw [enc_two h1 h2]; rfl) (by rw [enc_two h1 h2]; exact lst2 (bv_of (by omega) (by omega)) (bv_of (by omega) (by omega)))
      go_enter Tryz.func87, Tryz.ntmps87
      go_wp2
      go_ret
      exact ⟨rfl, (Below.refl _ _).alloc (Nat.le_refl _) _⟩
    · have t2 : decide ((c : Int) < 2048) = false := by simp; omega
      have hcv := conv_box w (encC c) #[.int .u8 (224 + (c : Int) / 4096), .int .u8 (128 + (c : Int) / 64 % 64), .int .u8 (128 + (c : Int) % 64)] 3 (by rw [enc_three h2]; rfl) (by rw [enc_three h2]; exact lst3 (bv_of (by omega) (by omega)) (bv_of (by omega) (by omega)) (bv_of (by omega) (by omega)))
      go_enter Tryz.func87, Tryz.ntmps87
      go_wp2
      go_ret
      exact ⟨rfl, (Below.refl _ _).alloc (Nat.le_refl _) _⟩

end Go.Proofs.YtbnchnbblchmnaaGreatDoor
