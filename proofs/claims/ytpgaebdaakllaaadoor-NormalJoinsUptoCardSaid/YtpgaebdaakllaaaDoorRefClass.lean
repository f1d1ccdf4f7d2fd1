/-
  The reference's Class and Has.
-/
import Derived.Test.YtpgaebdaakllaaaDoorRefListed
namespace Go.Proofs.YtpgaebdaakllaaaDoor
open Go.RowKit

theorem enc_latin : encL latinL = latinB := by kernel_rfl
theorem enc_greek : encL greekL = greekB := by kernel_rfl
theorem enc_cyr : encL cyrL = cyrB := by kernel_rfl
theorem latin_small : ∀ x ∈ latinL, x < 65536 := of_decide_eq_true (by kernel_rfl)
theorem greek_small : ∀ x ∈ greekL, x < 65536 := of_decide_eq_true (by kernel_rfl)
theorem cyr_small : ∀ x ∈ cyrL, x < 65536 := of_decide_eq_true (by kernel_rfl)
theorem listed_latin (c : Int) (w : World) :
    Calls Tryd.prog 52 #[.string (str latinB), .int .i64 c] w fun e w' => e = .returned (.bool (memB latinL c)) ∧ ∃ q, w' = w.drewN q := by
  rw [← enc_latin]
  exact listed_any latinL c w latin_small (by rw [enc_latin]; exact of_decide_eq_true (by kernel_rfl))
theorem listed_greek (c : Int) (w : World) :
    Calls Tryd.prog 52 #[.string (str greekB), .int .i64 c] w fun e w' => e = .returned (.bool (memB greekL c)) ∧ ∃ q, w' = w.drewN q := by
  rw [← enc_greek]
  exact listed_any greekL c w greek_small (by rw [enc_greek]; exact of_decide_eq_true (by kernel_rfl))
theorem listed_cyr (c : Int) (w : World) :
    Calls Tryd.prog 52 #[.string (str cyrB), .int .i64 c] w fun e w' => e = .returned (.bool (memB cyrL c)) ∧ ∃ q, w' = w.drewN q := by
  rw [← enc_cyr]
  exact listed_any cyrL c w cyr_small (by rw [enc_cyr]; exact of_decide_eq_true (by kernel_rfl))

set_option maxRecDepth 20000 in
set_option maxHeartbeats 6400000 in
theorem class_any (c : Int) (w : World) :
    Calls Tryd.prog 40 #[.int .i64 c] w fun e w' => e = .returned (two (clsR c).1 (clsR c).2) ∧ ∃ q, w' = w.drewN q := by
  obtain ⟨R, hR⟩ : ∃ R, R = clsR c := ⟨_, rfl⟩
  rw [← hR]
  have HR := Lib.hid hR
  clear hR
  go_enter Tryd.func40, Tryd.ntmps40
  go_wp2_with fail
  refine (in_any _ _ _ _).mono ?_
  rintro e w1 ⟨rfl, rfl⟩
  cases hF : inB c 65281 65374
  case' false =>
    have HD : Hid (R = clsN c) := Lib.hid (by rw [HR.out]; unfold clsR; rw [hF]; rfl)
    clear HR hF
  case' true =>
    have HD : Hid (R = clsN (c - 65248)) := Lib.hid (by rw [HR.out]; unfold clsR; rw [hF]; rfl)
    have hw : 65281 ≤ c ∧ c ≤ 65374 := by unfold inB at hF; simpa using hF
    clear HR hF
  all_goals (go_wp2_with (go_at_call 51; refine (in_any _ _ _ _).mono ?_; rintro e w1 ⟨rfl, rfl⟩; generalize hq : inB _ _ _ = bq; cases bq))
  all_goals try (go_at_call 52; refine (listed_latin _ _).mono ?_; rintro e w1 ⟨rfl, q1, rfl⟩; generalize hq : memB _ _ = bq; cases bq)
  all_goals try (go_wp2_with (go_at_call 51; refine (in_any _ _ _ _).mono ?_; rintro e w1 ⟨rfl, rfl⟩; generalize hq : inB _ _ _ = bq; cases bq))
  all_goals try (go_at_call 52; refine (listed_greek _ _).mono ?_; rintro e w1 ⟨rfl, q2, rfl⟩; generalize hq : memB _ _ = bq; cases bq)
  all_goals try (go_wp2_with (go_at_call 51; refine (in_any _ _ _ _).mono ?_; rintro e w1 ⟨rfl, rfl⟩; generalize hq : inB _ _ _ = bq; cases bq))
  all_goals try (go_at_call 52; refine (listed_cyr _ _).mono ?_; rintro e w1 ⟨rfl, q3, rfl⟩; generalize hq : memB _ _ = bq; cases bq)
  all_goals try (go_wp2_with (go_at_call 51; refine (in_any _ _ _ _).mono ?_; rintro e w1 ⟨rfl, rfl⟩; generalize hq : inB _ _ _ = bq; cases bq))
  all_goals
    go_ret2
    have HE := HD.out
    clear HD
    refine ⟨ret_two ?_ ?_, by first | exact ⟨0, rfl⟩ | exact ⟨_, rfl⟩⟩ <;> (rw [HE]; unfold clsN; simp_all)

set_option maxHeartbeats 1600000 in
theorem has_any (c : Int) (w : World) :
    Calls Tryd.prog 38 #[.int .i64 c] w fun e w' => e = .returned (.bool (hasR c)) ∧ ∃ q, w' = w.drewN q := by
  have hcl := class_any c w
  obtain ⟨a, ha⟩ : ∃ a, a = (clsR c).1 := ⟨_, rfl⟩
  obtain ⟨b, hb⟩ : ∃ b, b = (clsR c).2 := ⟨_, rfl⟩
  rw [← ha, ← hb] at hcl
  have HC := Lib.hid hcl
  have HB : Hid (hasR c = (b != 0)) := Lib.hid (by rw [hb]; rfl)
  clear hcl ha hb
  go_enter Tryd.func38, Tryd.ntmps38
  go_wp2_with fail
  refine HC.out.mono ?_
  rintro e w1 ⟨rfl, q, rfl⟩
  unfold two
  go_wp2
  go_ret
  rw [HB.out]
  refine ⟨ret_bool ?_, q, rfl⟩
  cases b <;> simp
  omega

end Go.Proofs.YtpgaebdaakllaaaDoor
