/-
  The methods of a nil reader, and the contract of the statement WireNil.
-/
import Derived.Test.YtefonoaffeahjaaClos
namespace Go.Proofs.Ytefonoaffeahjaa
open Go.RowKit

set_option maxHeartbeats 800000 in
theorem nilReadInt (fv : Value) (w : World) :
    Calls Try.prog 46 #[.pointer none, fv] w fun e w' => e = .returned (.int .i64 0) ∧ w = w' := by
  go_enter Try.func46, Try.ntmps46
  go_wp2
  go_ret
  exact ⟨rfl, rfl⟩

set_option maxHeartbeats 800000 in
theorem nilReadText (fv : Value) (w : World) :
    Calls Try.prog 47 #[.pointer none, fv] w fun e w' => e = .returned (.string (str [])) ∧ w = w' := by
  go_enter Try.func47, Try.ntmps47
  go_wp2
  go_ret
  exact ⟨rfl, rfl⟩

set_option maxHeartbeats 800000 in
theorem nilReadInts (fv : Value) (w : World) :
    Calls Try.prog 40 #[.pointer none, fv] w fun e w' => e = .returned (.slice none 0 0) ∧ w = w' := by
  go_enter Try.func40, Try.ntmps40
  go_wp2
  go_ret
  exact ⟨rfl, rfl⟩

set_option maxHeartbeats 800000 in
theorem nilReadTexts (fv : Value) (w : World) :
    Calls Try.prog 43 #[.pointer none, fv] w fun e w' => e = .returned (.slice none 0 0) ∧ w = w' := by
  go_enter Try.func43, Try.ntmps43
  go_wp2
  go_ret
  exact ⟨rfl, rfl⟩

set_option maxHeartbeats 800000 in
theorem nil_Int (lo hi : Int) (w : World) :
    Calls Try.prog 27 #[.pointer none, .int .i64 lo, .int .i64 hi] w fun e w' => e = .returned (.int .i64 0) ∧ w.grownBy w' none := by
  go_enter Try.func27, Try.ntmps27
  go_wp2_with fail
  refine (intFrom_dec lo hi _).mono ?_
  rintro e w1 ⟨fv1, rfl, hd1, hg1⟩
  go_wp2_with fail
  refine (nilReadInt _ _).mono ?_
  rintro e w' ⟨rfl, rfl⟩
  go_wp2_with fail
  go_ret
  exact ⟨rfl, hg1⟩

set_option maxHeartbeats 800000 in
theorem nil_Bool  (w : World) :
    Calls Try.prog 28 #[.pointer none] w fun e w' => e = .returned (.bool false) ∧ w.grownBy w' none := by
  go_enter Try.func28, Try.ntmps28
  go_wp2_with fail
  refine (intFrom_dec 0 1 _).mono ?_
  rintro e w1 ⟨fv1, rfl, hd1, hg1⟩
  go_wp2_with fail
  refine (nilReadInt _ _).mono ?_
  rintro e w' ⟨rfl, rfl⟩
  go_wp2_with fail
  go_ret
  exact ⟨rfl, hg1⟩

set_option maxHeartbeats 800000 in
theorem nil_Text (mx : Int) (w : World) :
    Calls Try.prog 29 #[.pointer none, .int .i64 mx] w fun e w' => e = .returned (.string (str [])) ∧ w.grownBy w' none := by
  go_enter Try.func29, Try.ntmps29
  go_wp2_with fail
  refine (textOf_dec mx _).mono ?_
  rintro e w1 ⟨fv1, rfl, hd1, hg1⟩
  go_wp2_with fail
  refine (nilReadText _ _).mono ?_
  rintro e w' ⟨rfl, rfl⟩
  go_wp2_with fail
  go_ret
  exact ⟨rfl, hg1⟩

set_option maxHeartbeats 800000 in
theorem nil_Ints (mx lo hi : Int) (w : World) :
    Calls Try.prog 24 #[.pointer none, .int .i64 mx, .int .i64 lo, .int .i64 hi] w fun e w' => e = .returned (.slice none 0 0) ∧ w.grownBy w' none := by
  go_enter Try.func24, Try.ntmps24
  go_wp2_with fail
  refine (intFrom_dec lo hi _).mono ?_
  rintro e w1 ⟨fv1, rfl, hd1, hg1⟩
  go_wp2_with fail
  refine (listInt_dec mx lo hi _ _ hd1).mono ?_
  rintro e w2 ⟨fv2, rfl, hd2, hg2⟩
  go_wp2_with fail
  refine (nilReadInts _ _).mono ?_
  rintro e w' ⟨rfl, rfl⟩
  go_wp2_with fail
  go_ret
  exact ⟨rfl, (grown_trans hg1 hg2)⟩

set_option maxHeartbeats 800000 in
theorem nil_Texts (mx long : Int) (w : World) :
    Calls Try.prog 26 #[.pointer none, .int .i64 mx, .int .i64 long] w fun e w' => e = .returned (.slice none 0 0) ∧ w.grownBy w' none := by
  go_enter Try.func26, Try.ntmps26
  go_wp2_with fail
  refine (textOf_dec long _).mono ?_
  rintro e w1 ⟨fv1, rfl, hd1, hg1⟩
  go_wp2_with fail
  refine (listText_dec mx long _ _ hd1).mono ?_
  rintro e w2 ⟨fv2, rfl, hd2, hg2⟩
  go_wp2_with fail
  refine (nilReadTexts _ _).mono ?_
  rintro e w' ⟨rfl, rfl⟩
  go_wp2_with fail
  go_ret
  exact ⟨rfl, (grown_trans hg1 hg2)⟩

set_option maxHeartbeats 800000 in
theorem nil_Rest (w : World) :
    Calls Try.prog 13 #[.pointer none] w fun e w' => e = .returned (.int .i64 0) ∧ w = w' := by
  go_enter Try.func13, Try.ntmps13
  go_wp2
  go_ret
  exact ⟨rfl, rfl⟩

set_option maxHeartbeats 800000 in
theorem nil_Done (w : World) :
    Calls Try.prog 15 #[.pointer none] w fun e w' => e = .returned (.int .i64 11) ∧ w = w' := by
  go_enter Try.func15, Try.ntmps15
  go_wp2
  go_ret
  exact ⟨rfl, rfl⟩

set_option maxHeartbeats 1600000 in
theorem wireNil_any (k mx lo hi : Int) (w : World) :
    Calls Try.prog 8 #[.agg #[.int .i64 k, .int .i64 mx, .int .i64 lo, .int .i64 hi]] w fun e w' => e = .returned (.bool true) ∧ Below w.heap.size w w' := by
  have hstr : (str []).toList = [] := str_toList []
  have hb0 := Box.made w 33 #[.int .i64 k, .int .i64 mx, .int .i64 lo, .int .i64 hi]
  have hg0 := World.grownBy_alloc w (.cells #[.int .i64 k, .int .i64 mx, .int .i64 lo, .int .i64 hi] 33) none
  go_enter Try.func8, Try.ntmps8
  go_wp2_with fail
  refine (awake_any _).mono ?_
  rintro e w1 ⟨rfl, hg1⟩
  have hb1 := hb0.grown hg1 (by simp)
  have hc1 := hb1.cell 1
  have hc2 := hb1.cell 2
  have hc3 := hb1.cell 3
  simp at hc1 hc2 hc3
  have hall1 := grown_trans hg0 hg1
  go_wp2_with fail
  refine (nil_Int lo hi _).mono ?_
  rintro e w2 ⟨rfl, hg2⟩
  replace hc1 := cell_grown hc1 hg2
  replace hc2 := cell_grown hc2 hg2
  replace hc3 := cell_grown hc3 hg2
  have hall2 := grown_trans hall1 hg2
  go_wp2_with fail
  refine (nil_Bool _).mono ?_
  rintro e w3 ⟨rfl, hg3⟩
  replace hc1 := cell_grown hc1 hg3
  replace hc2 := cell_grown hc2 hg3
  replace hc3 := cell_grown hc3 hg3
  have hall3 := grown_trans hall2 hg3
  go_wp2_with fail
  refine (nil_Text mx _).mono ?_
  rintro e w4 ⟨rfl, hg4⟩
  replace hc1 := cell_grown hc1 hg4
  replace hc2 := cell_grown hc2 hg4
  replace hc3 := cell_grown hc3 hg4
  have hall4 := grown_trans hall3 hg4
  go_wp2_with fail
  refine (nil_Ints mx lo hi _).mono ?_
  rintro e w5 ⟨rfl, hg5⟩
  replace hc1 := cell_grown hc1 hg5
  replace hc2 := cell_grown hc2 hg5
  replace hc3 := cell_grown hc3 hg5
  have hall5 := grown_trans hall4 hg5
  go_wp2_with fail
  refine (nil_Texts mx hi _).mono ?_
  rintro e w6 ⟨rfl, hg6⟩
  replace hc1 := cell_grown hc1 hg6
  replace hc2 := cell_grown hc2 hg6
  replace hc3 := cell_grown hc3 hg6
  have hall6 := grown_trans hall5 hg6
  go_wp2_with fail
  refine (nil_Rest _).mono ?_
  rintro e w7 ⟨rfl, rfl⟩
  go_wp2_with fail
  refine (nil_Done _).mono ?_
  rintro e w7 ⟨rfl, rfl⟩
  go_wp2_with fail
  go_ret
  exact ⟨rfl, below_of_grown hall6⟩

end Go.Proofs.Ytefonoaffeahjaa
