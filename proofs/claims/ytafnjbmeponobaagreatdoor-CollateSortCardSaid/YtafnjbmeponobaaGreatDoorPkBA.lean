/-
  The program's own Lower and plain of fold.
  The program's own Fold.
-/
import Derived.Test.YtafnjbmeponobaaGreatDoorPkAZ
import Derived.Test.YtafnjbmeponobaaGreatDoorPkAO
import Derived.Laws.Runes
import Derived.Test.YtafnjbmeponobaaGreatDoorPkAV
namespace Go.Proofs.YtafnjbmeponobaaGreatDoor
open Go.RowKit

set_option maxRecDepth 20000 in
set_option maxHeartbeats 1600000 in
theorem prLow_198 (w : World) : Calls Tryz.prog 76 #[.int .i64 198] w fun e w' => e = .returned (.int .i64 230) ∧ w = w' := by
  go_enter Tryz.func76, Tryz.ntmps76
  go_wp2
  go_ret
  exact ⟨rfl, rfl⟩
set_option maxRecDepth 20000 in
set_option maxHeartbeats 1600000 in
theorem prLow_216 (w : World) : Calls Tryz.prog 76 #[.int .i64 216] w fun e w' => e = .returned (.int .i64 248) ∧ w = w' := by
  go_enter Tryz.func76, Tryz.ntmps76
  go_wp2
  go_ret
  exact ⟨rfl, rfl⟩
set_option maxRecDepth 20000 in
set_option maxHeartbeats 1600000 in
theorem prLow_208 (w : World) : Calls Tryz.prog 76 #[.int .i64 208] w fun e w' => e = .returned (.int .i64 240) ∧ w = w' := by
  go_enter Tryz.func76, Tryz.ntmps76
  go_wp2
  go_ret
  exact ⟨rfl, rfl⟩
set_option maxRecDepth 20000 in
set_option maxHeartbeats 1600000 in
theorem prLow_222 (w : World) : Calls Tryz.prog 76 #[.int .i64 222] w fun e w' => e = .returned (.int .i64 254) ∧ w = w' := by
  go_enter Tryz.func76, Tryz.ntmps76
  go_wp2
  go_ret
  exact ⟨rfl, rfl⟩
set_option maxRecDepth 20000 in
set_option maxHeartbeats 1600000 in
theorem prLow_272 (w : World) : Calls Tryz.prog 76 #[.int .i64 272] w fun e w' => e = .returned (.int .i64 273) ∧ w = w' := by
  go_enter Tryz.func76, Tryz.ntmps76
  go_wp2
  go_ret
  exact ⟨rfl, rfl⟩
set_option maxRecDepth 20000 in
set_option maxHeartbeats 1600000 in
theorem prLow_294 (w : World) : Calls Tryz.prog 76 #[.int .i64 294] w fun e w' => e = .returned (.int .i64 295) ∧ w = w' := by
  go_enter Tryz.func76, Tryz.ntmps76
  go_wp2
  go_ret
  exact ⟨rfl, rfl⟩
set_option maxRecDepth 20000 in
set_option maxHeartbeats 1600000 in
theorem prLow_321 (w : World) : Calls Tryz.prog 76 #[.int .i64 321] w fun e w' => e = .returned (.int .i64 322) ∧ w = w' := by
  go_enter Tryz.func76, Tryz.ntmps76
  go_wp2
  go_ret
  exact ⟨rfl, rfl⟩
set_option maxRecDepth 20000 in
set_option maxHeartbeats 1600000 in
theorem prLow_338 (w : World) : Calls Tryz.prog 76 #[.int .i64 338] w fun e w' => e = .returned (.int .i64 339) ∧ w = w' := by
  go_enter Tryz.func76, Tryz.ntmps76
  go_wp2
  go_ret
  exact ⟨rfl, rfl⟩
set_option maxRecDepth 20000 in
set_option maxHeartbeats 1600000 in
theorem prLow_330 (w : World) : Calls Tryz.prog 76 #[.int .i64 330] w fun e w' => e = .returned (.int .i64 331) ∧ w = w' := by
  go_enter Tryz.func76, Tryz.ntmps76
  go_wp2
  go_ret
  exact ⟨rfl, rfl⟩
set_option maxRecDepth 20000 in
set_option maxHeartbeats 1600000 in
theorem prLow_358 (w : World) : Calls Tryz.prog 76 #[.int .i64 358] w fun e w' => e = .returned (.int .i64 359) ∧ w = w' := by
  go_enter Tryz.func76, Tryz.ntmps76
  go_wp2
  go_ret
  exact ⟨rfl, rfl⟩
set_option maxRecDepth 20000 in
set_option maxHeartbeats 1600000 in
theorem prLow_1030 (w : World) : Calls Tryz.prog 76 #[.int .i64 1030] w fun e w' => e = .returned (.int .i64 1110) ∧ w = w' := by
  go_enter Tryz.func76, Tryz.ntmps76
  go_wp2
  go_ret
  exact ⟨rfl, rfl⟩
set_option maxRecDepth 20000 in
set_option maxHeartbeats 1600000 in
theorem prLow_1028 (w : World) : Calls Tryz.prog 76 #[.int .i64 1028] w fun e w' => e = .returned (.int .i64 1108) ∧ w = w' := by
  go_enter Tryz.func76, Tryz.ntmps76
  go_wp2
  go_ret
  exact ⟨rfl, rfl⟩
set_option maxRecDepth 20000 in
set_option maxHeartbeats 1600000 in
theorem prLow_1168 (w : World) : Calls Tryz.prog 76 #[.int .i64 1168] w fun e w' => e = .returned (.int .i64 1169) ∧ w = w' := by
  go_enter Tryz.func76, Tryz.ntmps76
  go_wp2
  go_ret
  exact ⟨rfl, rfl⟩
set_option maxRecDepth 20000 in
set_option maxHeartbeats 1600000 in
theorem prLow_962 (w : World) : Calls Tryz.prog 76 #[.int .i64 962] w fun e w' => e = .returned (.int .i64 963) ∧ w = w' := by
  go_enter Tryz.func76, Tryz.ntmps76
  go_wp2
  go_ret
  exact ⟨rfl, rfl⟩
set_option maxRecDepth 20000 in
set_option maxHeartbeats 1600000 in
theorem prLow_r65 (c : Int) (w : World) (h1 : 65 ≤ c) (h2 : c ≤ 90) : Calls Tryz.prog 76 #[.int .i64 c] w fun e w' => e = .returned (.int .i64 (c + 32)) ∧ w = w' := by
  have g65 : decide (65 ≤ c) = true := by simp; omega
  have g90 : decide (c ≤ 90) = true := by simp; omega
  go_enter Tryz.func76, Tryz.ntmps76
  go_wp2
  go_ret
  exact ⟨rfl, rfl⟩
set_option maxRecDepth 20000 in
set_option maxHeartbeats 1600000 in
theorem prLow_r913 (c : Int) (w : World) (h1 : 913 ≤ c) (h2 : c ≤ 929) : Calls Tryz.prog 76 #[.int .i64 c] w fun e w' => e = .returned (.int .i64 (c + 32)) ∧ w = w' := by
  have g65 : decide (65 ≤ c) = true := by simp; omega
  have g90 : decide (c ≤ 90) = false := by simp; omega
  have g913 : decide (913 ≤ c) = true := by simp; omega
  have g929 : decide (c ≤ 929) = true := by simp; omega
  go_enter Tryz.func76, Tryz.ntmps76
  go_wp2
  go_ret
  exact ⟨rfl, rfl⟩
set_option maxRecDepth 20000 in
set_option maxHeartbeats 1600000 in
theorem prLow_r931 (c : Int) (w : World) (h1 : 931 ≤ c) (h2 : c ≤ 937) : Calls Tryz.prog 76 #[.int .i64 c] w fun e w' => e = .returned (.int .i64 (c + 32)) ∧ w = w' := by
  have g65 : decide (65 ≤ c) = true := by simp; omega
  have g90 : decide (c ≤ 90) = false := by simp; omega
  have g913 : decide (913 ≤ c) = true := by simp; omega
  have g929 : decide (c ≤ 929) = false := by simp; omega
  have g931 : decide (931 ≤ c) = true := by simp; omega
  have g937 : decide (c ≤ 937) = true := by simp; omega
  go_enter Tryz.func76, Tryz.ntmps76
  go_wp2
  go_ret
  exact ⟨rfl, rfl⟩
set_option maxRecDepth 20000 in
set_option maxHeartbeats 1600000 in
theorem prLow_r1040 (c : Int) (w : World) (h1 : 1040 ≤ c) (h2 : c ≤ 1071) : Calls Tryz.prog 76 #[.int .i64 c] w fun e w' => e = .returned (.int .i64 (c + 32)) ∧ w = w' := by
  have g65 : decide (65 ≤ c) = true := by simp; omega
  have g90 : decide (c ≤ 90) = false := by simp; omega
  have g913 : decide (913 ≤ c) = true := by simp; omega
  have g929 : decide (c ≤ 929) = false := by simp; omega
  have g931 : decide (931 ≤ c) = true := by simp; omega
  have g937 : decide (c ≤ 937) = false := by simp; omega
  have g1040 : decide (1040 ≤ c) = true := by simp; omega
  have g1071 : decide (c ≤ 1071) = true := by simp; omega
  go_enter Tryz.func76, Tryz.ntmps76
  go_wp2
  go_ret
  exact ⟨rfl, rfl⟩
def lowKeys : List Int := [198, 216, 208, 222, 272, 294, 321, 338, 330, 358, 1030, 1028, 1168, 962]
set_option maxRecDepth 20000 in
set_option maxHeartbeats 1600000 in
theorem prLow_g0 (c : Int) (w : World) (h2 : c ≤ 64) (hk : c ∉ lowKeys) : Calls Tryz.prog 76 #[.int .i64 c] w fun e w' => e = .returned (.int .i64 c) ∧ w = w' := by
  simp only [lowKeys, List.mem_cons, List.not_mem_nil, or_false, not_or] at hk
  obtain ⟨k198, k216, k208, k222, k272, k294, k321, k338, k330, k358, k1030, k1028, k1168, k962⟩ := hk
  have e198 : (c == 198) = false := eqb_false k198
  have e216 : (c == 216) = false := eqb_false k216
  have e208 : (c == 208) = false := eqb_false k208
  have e222 : (c == 222) = false := eqb_false k222
  have e272 : (c == 272) = false := eqb_false k272
  have e294 : (c == 294) = false := eqb_false k294
  have e321 : (c == 321) = false := eqb_false k321
  have e338 : (c == 338) = false := eqb_false k338
  have e330 : (c == 330) = false := eqb_false k330
  have e358 : (c == 358) = false := eqb_false k358
  have e1030 : (c == 1030) = false := eqb_false k1030
  have e1028 : (c == 1028) = false := eqb_false k1028
  have e1168 : (c == 1168) = false := eqb_false k1168
  have e962 : (c == 962) = false := eqb_false k962
  have g65 : decide (65 ≤ c) = false := by simp; omega
  have g913 : decide (913 ≤ c) = false := by simp; omega
  have g931 : decide (931 ≤ c) = false := by simp; omega
  have g1040 : decide (1040 ≤ c) = false := by simp; omega
  clear k198 k216 k208 k222 k272 k294 k321 k338 k330 k358 k1030 k1028 k1168 k962
  go_enter Tryz.func76, Tryz.ntmps76
  go_wp2
  go_ret
  exact ⟨rfl, rfl⟩
set_option maxRecDepth 20000 in
set_option maxHeartbeats 1600000 in
theorem prLow_g91 (c : Int) (w : World) (h1 : 91 ≤ c) (h2 : c ≤ 912) (hk : c ∉ lowKeys) : Calls Tryz.prog 76 #[.int .i64 c] w fun e w' => e = .returned (.int .i64 c) ∧ w = w' := by
  simp only [lowKeys, List.mem_cons, List.not_mem_nil, or_false, not_or] at hk
  obtain ⟨k198, k216, k208, k222, k272, k294, k321, k338, k330, k358, k1030, k1028, k1168, k962⟩ := hk
  have e198 : (c == 198) = false := eqb_false k198
  have e216 : (c == 216) = false := eqb_false k216
  have e208 : (c == 208) = false := eqb_false k208
  have e222 : (c == 222) = false := eqb_false k222
  have e272 : (c == 272) = false := eqb_false k272
  have e294 : (c == 294) = false := eqb_false k294
  have e321 : (c == 321) = false := eqb_false k321
  have e338 : (c == 338) = false := eqb_false k338
  have e330 : (c == 330) = false := eqb_false k330
  have e358 : (c == 358) = false := eqb_false k358
  have e1030 : (c == 1030) = false := eqb_false k1030
  have e1028 : (c == 1028) = false := eqb_false k1028
  have e1168 : (c == 1168) = false := eqb_false k1168
  have e962 : (c == 962) = false := eqb_false k962
  have g65 : decide (65 ≤ c) = true := by simp; omega
  have g90 : decide (c ≤ 90) = false := by simp; omega
  have g913 : decide (913 ≤ c) = false := by simp; omega
  have g931 : decide (931 ≤ c) = false := by simp; omega
  have g1040 : decide (1040 ≤ c) = false := by simp; omega
  clear k198 k216 k208 k222 k272 k294 k321 k338 k330 k358 k1030 k1028 k1168 k962
  go_enter Tryz.func76, Tryz.ntmps76
  go_wp2
  go_ret
  exact ⟨rfl, rfl⟩
set_option maxRecDepth 20000 in
set_option maxHeartbeats 1600000 in
theorem prLow_g930 (c : Int) (w : World) (h1 : 930 ≤ c) (h2 : c ≤ 930) (hk : c ∉ lowKeys) : Calls Tryz.prog 76 #[.int .i64 c] w fun e w' => e = .returned (.int .i64 c) ∧ w = w' := by
  simp only [lowKeys, List.mem_cons, List.not_mem_nil, or_false, not_or] at hk
  obtain ⟨k198, k216, k208, k222, k272, k294, k321, k338, k330, k358, k1030, k1028, k1168, k962⟩ := hk
  have e198 : (c == 198) = false := eqb_false k198
  have e216 : (c == 216) = false := eqb_false k216
  have e208 : (c == 208) = false := eqb_false k208
  have e222 : (c == 222) = false := eqb_false k222
  have e272 : (c == 272) = false := eqb_false k272
  have e294 : (c == 294) = false := eqb_false k294
  have e321 : (c == 321) = false := eqb_false k321
  have e338 : (c == 338) = false := eqb_false k338
  have e330 : (c == 330) = false := eqb_false k330
  have e358 : (c == 358) = false := eqb_false k358
  have e1030 : (c == 1030) = false := eqb_false k1030
  have e1028 : (c == 1028) = false := eqb_false k1028
  have e1168 : (c == 1168) = false := eqb_false k1168
  have e962 : (c == 962) = false := eqb_false k962
  have g65 : decide (65 ≤ c) = true := by simp; omega
  have g90 : decide (c ≤ 90) = false := by simp; omega
  have g913 : decide (913 ≤ c) = true := by simp; omega
  have g929 : decide (c ≤ 929) = false := by simp; omega
  have g931 : decide (931 ≤ c) = false := by simp; omega
  have g1040 : decide (1040 ≤ c) = false := by simp; omega
  clear k198 k216 k208 k222 k272 k294 k321 k338 k330 k358 k1030 k1028 k1168 k962
  go_enter Tryz.func76, Tryz.ntmps76
  go_wp2
  go_ret
  exact ⟨rfl, rfl⟩
set_option maxRecDepth 20000 in
set_option maxHeartbeats 1600000 in
theorem prLow_g938 (c : Int) (w : World) (h1 : 938 ≤ c) (h2 : c ≤ 1039) (hk : c ∉ lowKeys) : Calls Tryz.prog 76 #[.int .i64 c] w fun e w' => e = .returned (.int .i64 c) ∧ w = w' := by
  simp only [lowKeys, List.mem_cons, List.not_mem_nil, or_false, not_or] at hk
  obtain ⟨k198, k216, k208, k222, k272, k294, k321, k338, k330, k358, k1030, k1028, k1168, k962⟩ := hk
  have e198 : (c == 198) = false := eqb_false k198
  have e216 : (c == 216) = false := eqb_false k216
  have e208 : (c == 208) = false := eqb_false k208
  have e222 : (c == 222) = false := eqb_false k222
  have e272 : (c == 272) = false := eqb_false k272
  have e294 : (c == 294) = false := eqb_false k294
  have e321 : (c == 321) = false := eqb_false k321
  have e338 : (c == 338) = false := eqb_false k338
  have e330 : (c == 330) = false := eqb_false k330
  have e358 : (c == 358) = false := eqb_false k358
  have e1030 : (c == 1030) = false := eqb_false k1030
  have e1028 : (c == 1028) = false := eqb_false k1028
  have e1168 : (c == 1168) = false := eqb_false k1168
  have e962 : (c == 962) = false := eqb_false k962
  have g65 : decide (65 ≤ c) = true := by simp; omega
  have g90 : decide (c ≤ 90) = false := by simp; omega
  have g913 : decide (913 ≤ c) = true := by simp; omega
  have g929 : decide (c ≤ 929) = false := by simp; omega
  have g931 : decide (931 ≤ c) = true := by simp; omega
  have g937 : decide (c ≤ 937) = false := by simp; omega
  have g1040 : decide (1040 ≤ c) = false := by simp; omega
  clear k198 k216 k208 k222 k272 k294 k321 k338 k330 k358 k1030 k1028 k1168 k962
  go_enter Tryz.func76, Tryz.ntmps76
  go_wp2
  go_ret
  exact ⟨rfl, rfl⟩
set_option maxRecDepth 20000 in
set_option maxHeartbeats 1600000 in
theorem prLow_g1072 (c : Int) (w : World) (h1 : 1072 ≤ c) (hk : c ∉ lowKeys) : Calls Tryz.prog 76 #[.int .i64 c] w fun e w' => e = .returned (.int .i64 c) ∧ w = w' := by
  simp only [lowKeys, List.mem_cons, List.not_mem_nil, or_false, not_or] at hk
  obtain ⟨k198, k216, k208, k222, k272, k294, k321, k338, k330, k358, k1030, k1028, k1168, k962⟩ := hk
  have e198 : (c == 198) = false := eqb_false k198
  have e216 : (c == 216) = false := eqb_false k216
  have e208 : (c == 208) = false := eqb_false k208
  have e222 : (c == 222) = false := eqb_false k222
  have e272 : (c == 272) = false := eqb_false k272
  have e294 : (c == 294) = false := eqb_false k294
  have e321 : (c == 321) = false := eqb_false k321
  have e338 : (c == 338) = false := eqb_false k338
  have e330 : (c == 330) = false := eqb_false k330
  have e358 : (c == 358) = false := eqb_false k358
  have e1030 : (c == 1030) = false := eqb_false k1030
  have e1028 : (c == 1028) = false := eqb_false k1028
  have e1168 : (c == 1168) = false := eqb_false k1168
  have e962 : (c == 962) = false := eqb_false k962
  have g65 : decide (65 ≤ c) = true := by simp; omega
  have g90 : decide (c ≤ 90) = false := by simp; omega
  have g913 : decide (913 ≤ c) = true := by simp; omega
  have g929 : decide (c ≤ 929) = false := by simp; omega
  have g931 : decide (931 ≤ c) = true := by simp; omega
  have g937 : decide (c ≤ 937) = false := by simp; omega
  have g1040 : decide (1040 ≤ c) = true := by simp; omega
  have g1071 : decide (c ≤ 1071) = false := by simp; omega
  clear k198 k216 k208 k222 k272 k294 k321 k338 k330 k358 k1030 k1028 k1168 k962
  go_enter Tryz.func76, Tryz.ntmps76
  go_wp2
  go_ret
  exact ⟨rfl, rfl⟩
theorem lowI_rng {c : Int} (h : (65 ≤ c ∧ c ≤ 90) ∨ (913 ≤ c ∧ c ≤ 937 ∧ c ≠ 930) ∨ (1040 ≤ c ∧ c ≤ 1071)) : lowI c = c + 32 := by unfold lowI; rw [if_pos h]
theorem lowI_gap {c : Int} (h : ¬ ((65 ≤ c ∧ c ≤ 90) ∨ (913 ≤ c ∧ c ≤ 937 ∧ c ≠ 930) ∨ (1040 ≤ c ∧ c ≤ 1071))) (hk : c ∉ lowKeys) : lowI c = c := by
  simp only [lowKeys, List.mem_cons, List.not_mem_nil, or_false, not_or] at hk
  have hn : lkI lowL c = 0 := lk_none (List.find?_eq_none.2 fun x hx => by
    simp only [lowL, List.mem_cons, List.not_mem_nil, or_false] at hx
    rcases hx with rfl | rfl | rfl | rfl | rfl | rfl | rfl | rfl | rfl | rfl | rfl | rfl | rfl <;> (simp; omega))
  unfold lowI
  rw [if_neg h, if_neg (by omega), if_pos hn]
theorem prLower_s (c : Int) (w : World) : Calls Tryz.prog 76 #[.int .i64 c] w fun e w' => e = .returned (.int .i64 (lowI c)) ∧ w = w' := by
  by_cases hk : c ∈ lowKeys
  · simp only [lowKeys, List.mem_cons, List.not_mem_nil, or_false] at hk
    rcases hk with rfl | rfl | rfl | rfl | rfl | rfl | rfl | rfl | rfl | rfl | rfl | rfl | rfl | rfl
    · rw [show lowI 198 = 230 by decide]; exact prLow_198 w
    · rw [show lowI 216 = 248 by decide]; exact prLow_216 w
    · rw [show lowI 208 = 240 by decide]; exact prLow_208 w
    · rw [show lowI 222 = 254 by decide]; exact prLow_222 w
    · rw [show lowI 272 = 273 by decide]; exact prLow_272 w
    · rw [show lowI 294 = 295 by decide]; exact prLow_294 w
    · rw [show lowI 321 = 322 by decide]; exact prLow_321 w
    · rw [show lowI 338 = 339 by decide]; exact prLow_338 w
    · rw [show lowI 330 = 331 by decide]; exact prLow_330 w
    · rw [show lowI 358 = 359 by decide]; exact prLow_358 w
    · rw [show lowI 1030 = 1110 by decide]; exact prLow_1030 w
    · rw [show lowI 1028 = 1108 by decide]; exact prLow_1028 w
    · rw [show lowI 1168 = 1169 by decide]; exact prLow_1168 w
    · rw [show lowI 962 = 963 by decide]; exact prLow_962 w
  · have hc : c ≤ 64 ∨ (65 ≤ c ∧ c ≤ 90) ∨ (91 ≤ c ∧ c ≤ 912) ∨ (913 ≤ c ∧ c ≤ 929) ∨ c = 930 ∨ (931 ≤ c ∧ c ≤ 937) ∨ (938 ≤ c ∧ c ≤ 1039) ∨ (1040 ≤ c ∧ c ≤ 1071) ∨ 1072 ≤ c := by omega
    rcases hc with hc | hc | hc | hc | hc | hc | hc | hc | hc
    · rw [lowI_gap (by omega) hk]; exact prLow_g0 c w hc hk
    · rw [lowI_rng (by omega)]; exact prLow_r65 c w hc.1 hc.2
    · rw [lowI_gap (by omega) hk]; exact prLow_g91 c w hc.1 hc.2 hk
    · rw [lowI_rng (by omega)]; exact prLow_r913 c w hc.1 hc.2
    · rw [lowI_gap (by omega) hk]; exact prLow_g930 c w (by omega) (by omega) hk
    · rw [lowI_rng (by omega)]; exact prLow_r931 c w hc.1 hc.2
    · rw [lowI_gap (by omega) hk]; exact prLow_g938 c w hc.1 hc.2 hk
    · rw [lowI_rng (by omega)]; exact prLow_r1040 c w hc.1 hc.2
    · rw [lowI_gap (by omega) hk]; exact prLow_g1072 c w hc hk

set_option maxRecDepth 20000 in
set_option maxHeartbeats 1600000 in
theorem prPl_230 (w : World) : Calls Tryz.prog 112 #[.int .i64 230] w fun e w' => e = .returned (.string (str [97, 101])) ∧ w = w' := by
  go_enter Tryz.func112, Tryz.ntmps112
  go_wp2
  go_ret
  exact ⟨rfl, rfl⟩
set_option maxRecDepth 20000 in
set_option maxHeartbeats 1600000 in
theorem prPl_339 (w : World) : Calls Tryz.prog 112 #[.int .i64 339] w fun e w' => e = .returned (.string (str [111, 101])) ∧ w = w' := by
  go_enter Tryz.func112, Tryz.ntmps112
  go_wp2
  go_ret
  exact ⟨rfl, rfl⟩
set_option maxRecDepth 20000 in
set_option maxHeartbeats 1600000 in
theorem prPl_248 (w : World) : Calls Tryz.prog 112 #[.int .i64 248] w fun e w' => e = .returned (.string (str [111])) ∧ w = w' := by
  go_enter Tryz.func112, Tryz.ntmps112
  go_wp2
  go_ret
  exact ⟨rfl, rfl⟩
set_option maxRecDepth 20000 in
set_option maxHeartbeats 1600000 in
theorem prPl_240 (w : World) : Calls Tryz.prog 112 #[.int .i64 240] w fun e w' => e = .returned (.string (str [100])) ∧ w = w' := by
  go_enter Tryz.func112, Tryz.ntmps112
  go_wp2
  go_ret
  exact ⟨rfl, rfl⟩
set_option maxRecDepth 20000 in
set_option maxHeartbeats 1600000 in
theorem prPl_273 (w : World) : Calls Tryz.prog 112 #[.int .i64 273] w fun e w' => e = .returned (.string (str [100])) ∧ w = w' := by
  go_enter Tryz.func112, Tryz.ntmps112
  go_wp2
  go_ret
  exact ⟨rfl, rfl⟩
set_option maxRecDepth 20000 in
set_option maxHeartbeats 1600000 in
theorem prPl_254 (w : World) : Calls Tryz.prog 112 #[.int .i64 254] w fun e w' => e = .returned (.string (str [116, 104])) ∧ w = w' := by
  go_enter Tryz.func112, Tryz.ntmps112
  go_wp2
  go_ret
  exact ⟨rfl, rfl⟩
set_option maxRecDepth 20000 in
set_option maxHeartbeats 1600000 in
theorem prPl_295 (w : World) : Calls Tryz.prog 112 #[.int .i64 295] w fun e w' => e = .returned (.string (str [104])) ∧ w = w' := by
  go_enter Tryz.func112, Tryz.ntmps112
  go_wp2
  go_ret
  exact ⟨rfl, rfl⟩
set_option maxRecDepth 20000 in
set_option maxHeartbeats 1600000 in
theorem prPl_305 (w : World) : Calls Tryz.prog 112 #[.int .i64 305] w fun e w' => e = .returned (.string (str [105])) ∧ w = w' := by
  go_enter Tryz.func112, Tryz.ntmps112
  go_wp2
  go_ret
  exact ⟨rfl, rfl⟩
set_option maxRecDepth 20000 in
set_option maxHeartbeats 1600000 in
theorem prPl_322 (w : World) : Calls Tryz.prog 112 #[.int .i64 322] w fun e w' => e = .returned (.string (str [108])) ∧ w = w' := by
  go_enter Tryz.func112, Tryz.ntmps112
  go_wp2
  go_ret
  exact ⟨rfl, rfl⟩
set_option maxRecDepth 20000 in
set_option maxHeartbeats 1600000 in
theorem prPl_331 (w : World) : Calls Tryz.prog 112 #[.int .i64 331] w fun e w' => e = .returned (.string (str [110, 103])) ∧ w = w' := by
  go_enter Tryz.func112, Tryz.ntmps112
  go_wp2
  go_ret
  exact ⟨rfl, rfl⟩
set_option maxRecDepth 20000 in
set_option maxHeartbeats 1600000 in
theorem prPl_359 (w : World) : Calls Tryz.prog 112 #[.int .i64 359] w fun e w' => e = .returned (.string (str [116])) ∧ w = w' := by
  go_enter Tryz.func112, Tryz.ntmps112
  go_wp2
  go_ret
  exact ⟨rfl, rfl⟩
/-- string(r) at a character of the repertoire. -/
theorem encode_has {c : Nat} (h : hasR (c : Int) = true) : Utf8.encode (c : Int) = str (encC c) := by
  have hr := has_range h
  have hc : c < 65536 := by omega
  have hs : ¬ (55296 ≤ c ∧ c < 57344) := fun hs => by
    have := kind_surrogate hs.1 hs.2
    exact (has_kind.1 h) this
  have hv : Utf8.valid (c : Int) = true := by rw [valid_nat hc]; unfold goodU; simp; omega
  have ht : (c : Int).toNat = c := Int.toNat_natCast c
  unfold Utf8.encode encC
  simp only [hv, if_true, ht]
  by_cases h1 : c < 128
  · rw [if_pos h1, if_pos h1]; rfl
  · rw [if_neg h1, if_neg h1]
    by_cases h2 : c < 2048
    · rw [if_pos h2, if_pos h2]; rfl
    · rw [if_neg h2, if_neg h2, if_pos hc]; rfl
def plKeys : List Nat := [230, 339, 248, 240, 273, 254, 295, 305, 322, 331, 359]
set_option maxRecDepth 20000 in
set_option maxHeartbeats 1600000 in
theorem prPl_else (c : Nat) (w : World) (hc : hasR (c : Int) = true) (hk : c ∉ plKeys) : Calls Tryz.prog 112 #[.int .i64 (c : Int)] w fun e w' => e = .returned (.string (str (encC c))) ∧ w = w' := by
  have he := encode_has hc
  have hr := has_range hc
  have hz : (c : Int) ≤ 65535 := by omega
  simp only [plKeys, List.mem_cons, List.not_mem_nil, or_false, not_or] at hk
  obtain ⟨k230, k339, k248, k240, k273, k254, k295, k305, k322, k331, k359⟩ := hk
  have e230 : ((c : Int) == 230) = false := eqb_false (by omega)
  have e339 : ((c : Int) == 339) = false := eqb_false (by omega)
  have e248 : ((c : Int) == 248) = false := eqb_false (by omega)
  have e240 : ((c : Int) == 240) = false := eqb_false (by omega)
  have e273 : ((c : Int) == 273) = false := eqb_false (by omega)
  have e254 : ((c : Int) == 254) = false := eqb_false (by omega)
  have e295 : ((c : Int) == 295) = false := eqb_false (by omega)
  have e305 : ((c : Int) == 305) = false := eqb_false (by omega)
  have e322 : ((c : Int) == 322) = false := eqb_false (by omega)
  have e331 : ((c : Int) == 331) = false := eqb_false (by omega)
  have e359 : ((c : Int) == 359) = false := eqb_false (by omega)
  obtain ⟨x, hx⟩ : ∃ x, str (encC c) = x := ⟨_, rfl⟩
  rw [hx] at he ⊢
  clear hx hr hc k230 k339 k248 k240 k273 k254 k295 k305 k322 k331 k359
  go_enter Tryz.func112, Tryz.ntmps112
  go_wp2
  go_ret
  exact ⟨rfl, rfl⟩
theorem plain_gap {c : Nat} (hk : c ∉ plKeys) : plainL c = [c] := by
  simp only [plKeys, List.mem_cons, List.not_mem_nil, or_false, not_or] at hk
  have hn : lkN plL c = 0 := by
    unfold lkN
    have : (plL.find? fun x => Nat.beq x.1 c) = none := List.find?_eq_none.2 fun x hx => by
      simp only [plL, List.mem_cons, List.not_mem_nil, or_false] at hx
      rcases hx with rfl | rfl | rfl | rfl | rfl | rfl | rfl <;> (simp; omega)
    rw [this]
  rw [plain_if, if_neg (by omega), if_neg (by omega), if_neg (by omega), if_neg (by omega), if_pos hn]
theorem prPlain_s (c : Nat) (w : World) (hc : hasR (c : Int) = true) : Calls Tryz.prog 112 #[.int .i64 (c : Int)] w fun e w' => e = .returned (.string (str (encL (plainL c)))) ∧ w = w' := by
  by_cases hk : c ∈ plKeys
  · simp only [plKeys, List.mem_cons, List.not_mem_nil, or_false] at hk
    rcases hk with rfl | rfl | rfl | rfl | rfl | rfl | rfl | rfl | rfl | rfl | rfl
    · rw [show encL (plainL 230) = [97, 101] by decide +kernel]; exact prPl_230 w
    · rw [show encL (plainL 339) = [111, 101] by decide +kernel]; exact prPl_339 w
    · rw [show encL (plainL 248) = [111] by decide +kernel]; exact prPl_248 w
    · rw [show encL (plainL 240) = [100] by decide +kernel]; exact prPl_240 w
    · rw [show encL (plainL 273) = [100] by decide +kernel]; exact prPl_273 w
    · rw [show encL (plainL 254) = [116, 104] by decide +kernel]; exact prPl_254 w
    · rw [show encL (plainL 295) = [104] by decide +kernel]; exact prPl_295 w
    · rw [show encL (plainL 305) = [105] by decide +kernel]; exact prPl_305 w
    · rw [show encL (plainL 322) = [108] by decide +kernel]; exact prPl_322 w
    · rw [show encL (plainL 331) = [110, 103] by decide +kernel]; exact prPl_331 w
    · rw [show encL (plainL 359) = [116] by decide +kernel]; exact prPl_359 w
  · rw [plain_gap hk, show encL [c] = encC c by simp [encL]]
    exact prPl_else c w hc hk

end Go.Proofs.YtafnjbmeponobaaGreatDoor

namespace Go.Proofs.YtafnjbmeponobaaGreatDoor
open Go.RowKit

theorem iterPos_of {w : World} {k : Nat} {s : ByteArray} {p : Nat} (h : w.heap[k]? = some (.stringIter s p)) : w.iterPos k = p := by simp [World.iterPos, h]
theorem foldL_snoc (l : List Nat) (c : Nat) : foldL (l ++ [c]) = foldL l ++ low1 c := by unfold foldL; rw [List.flatMap_append]; simp
theorem encL_foldL (l : List Nat) (c : Nat) : encL (foldL (l ++ [c])) = encL (foldL l) ++ encL (low1 c) := by rw [foldL_snoc, encL_app]
theorem foldL_len : ∀ l : List Nat, (foldL l).length ≤ 2 * l.length
  | [] => by simp [foldL]
  | c :: l => by
    have h1 := foldL_len l
    have h2 := low1_len c
    have e : foldL (c :: l) = low1 c ++ foldL l := List.flatMap_cons
    rw [e, List.length_append, List.length_cons]
    omega
theorem hasR_low {c : Nat} (h : hasR (c : Int) = true) : hasR (lowN c : Int) = true := by
  rw [hasN_eq] at h ⊢
  exact low_has h

set_option maxRecDepth 20000 in
set_option maxHeartbeats 3200000 in
theorem prFold_s (s : List UInt8) (w : World) (hS : Spans w) (hlen : s.length ≤ 5000) :
    Calls Tryz.prog 62 #[.string (str s)] w fun e w' => e = .returned (.string (str (nFold s))) ∧ Below w.heap.size w w' := by
  have hS1 : Spans (w.alloc (.cells #[.pointer none, .slice none 0 0] 104)) := hS.below (below_new (Below.refl _ _) _)
  have HD := Lib.hid (prDecompose_s s _ hS1 hlen)
  have hdl := nD_len s
  obtain ⟨R, hR⟩ : ∃ R, nFold s = R := ⟨_, rfl⟩
  rw [hR]
  have HR : Hid (encL (foldL (dcF (nL s))) = R) := Lib.hid hR
  have HT0 : decR (nD s) = some (dcF (nL s)) := enc_some (dcF_ok s)
  obtain ⟨d, hd⟩ : ∃ d, dcF (nL s) = d := ⟨_, rfl⟩
  obtain ⟨t, ht⟩ : ∃ t, nD s = t := ⟨_, rfl⟩
  rw [ht] at HD HT0 hdl
  rw [hd] at HR HT0
  have HT := Lib.hid HT0
  have hsz : (str t).size = t.length := rfl
  have HFr := Lib.hid (Built.fresh w)
  clear hR hd ht HT0 hS1 hS
  go_enter Tryz.func62, Tryz.ntmps62
  go_wp2_with fail
  refine HD.out.mono ?_
  rintro e w2 ⟨rfl, k2⟩
  have HI2 := Lib.hid (HFr.out.below k2)
  have hb2 : Below w.heap.size w w2 := (below_new (Below.refl _ _) _).trans (k2.mono (by simp))
  have hs2 : w.heap.size < w2.heap.size := by have := k2.size; simp at this; omega
  clear k2 HD HFr
  go_wp2
  go_loopw [] (fun wr => ∃ (pos : Nat) (l : List Nat), Built w.heap.size w.heap.size (encL (foldL l)) wr ∧ wr.heap[w2.heap.size]? = some (.stringIter (str t) pos) ∧ Hid (Past t pos l) ∧ Below w.heap.size w wr) (fun wr => t.length - wr.iterPos w2.heap.size)
  case atStart =>
    exact ⟨0, [], Lib.IsBuilderF.alloc HI2.out _, World.iter_heap w2 (str t) 0, Lib.hid (Past.start t), hb2.alloc hb2.size _⟩
  case round =>
    obtain ⟨pos, l, HI, hit, HP, hb⟩ := hrel
    have hks : w2.heap.size < wr.heap.size := (Array.getElem?_eq_some_iff.1 hit).1
    by_cases hp : pos < t.length
    · obtain ⟨c, n, hcn⟩ : ∃ c n, Utf8.decode (str t) pos = (c, n) := ⟨_, _, rfl⟩
      have hnx : ∀ ty, (Instr.next (.pointer (some ⟨w2.heap.size, 0, none⟩)) true ty).run Tryz.prog wr = _ := fun ty => Lib.run_next_any_at wr w2.heap.size (str t) pos ty hit hp
      have hit2 := Lib.iterAt_heap wr w2.heap.size (str t) pos (pos + (Utf8.decode (str t) pos).2) hit
      have hI2 := HI.iterAt hit (pos + (Utf8.decode (str t) pos).2)
      have hbw2 := Lib.below_iterAt hb (k := w2.heap.size) (by omega) (str t) (pos + (Utf8.decode (str t) pos).2)
      have hcm := decode_le (str t) pos
      simp only [hcn] at hnx hit2 hbw2 hcm hI2
      have hcz : (c : Int) ≤ 2147483647 := by omega
      have hcz0 : (0 : Int) ≤ (c : Int) := by omega
      have hc : hasR (c : Int) = true := by
        cases hc : hasR (c : Int) with
        | true => rfl
        | false => have h := HP.out.rune_bad hp hcn hc; rw [HT.out] at h; cases h
      obtain ⟨h1, h0⟩ := HP.out.rune hp hcn hc
      have HN := Lib.hid h1
      have hle := h1.1
      have hll := HP.out.2.1
      have hfl := foldL_len l
      have hel := encL_len (foldL l)
      have hsb : w.heap.size ≤ (wr.iterAt w2.heap.size (str t) (pos + n)).heap.size := by rw [Lib.iterAt_size]; omega
      have hEL := encL_foldL l c
      obtain ⟨W, hW⟩ : ∃ W, wr.iterAt w2.heap.size (str t) (pos + n) = W := ⟨_, rfl⟩
      rw [hW] at hnx hit2 hbw2 hI2 hsb
      by_cases hss : c = 223
      · have t1 : ((c : Int) == 223) = true := eqb_true (by omega)
        rw [hss, show encL (low1 223) = [115, 115] by decide +kernel, ← hss] at hEL
        have HC := Lib.hid (writeStr_k w.heap.size w.heap.size (encL (foldL l)) [115, 115] W hI2 (by omega) (by decide) hsb)
        rw [← hEL] at HC
        clear hcn h1 hc hW hss hEL
        go_wp2_with fail
        refine HC.out.mono ?_
        rintro e w4 ⟨⟨n4, rfl⟩, HI4, k4, o4⟩
        have hit4 := (Iters.of_kept hI2 o4) _ _ _ hit2
        go_wp2
        go_roundw
        case rel => exact ⟨pos + n, l ++ [c], HI4, hit4, HN, hbw2.trans k4⟩
        case measure =>
          rw [iterPos_of hit4, iterPos_of hit]
          omega
      · have t1 : ((c : Int) == 223) = false := eqb_false (by omega)
        have hlow : low1 c = [lowN c] := by
          rcases low1_head c with h | ⟨h, _⟩
          · exact h
          · exact absurd h hss
        have hcl := hasR_low hc
        rw [hlow, show encL [lowN c] = encC (lowN c) by simp [encL]] at hEL
        have HC := Lib.hid (writeRune_k w.heap.size w.heap.size (encL (foldL l)) (lowN c) W hcl hI2 (by omega) hsb)
        rw [← hEL] at HC
        have HL := Lib.hid (prLower_s (c : Int) W)
        rw [lowI_nat] at HL
        have hlz := (has_range hcl).2
        have hlz0 := (has_range hcl).1
        obtain ⟨y, hy⟩ : ∃ y, lowN c = y := ⟨_, rfl⟩
        rw [hy] at HC HL hlz hlz0
        have hlz2 : (y : Int) ≤ 65535 := by omega
        clear hcn h1 hc hW hss hEL hlow hcl hy hlz
        go_wp2_with fail
        refine HL.out.mono ?_
        rintro e w3 ⟨rfl, rfl⟩
        go_wp2_with fail
        refine HC.out.mono ?_
        rintro e w4 ⟨⟨n4, rfl⟩, HI4, k4, o4⟩
        have hit4 := (Iters.of_kept hI2 o4) _ _ _ hit2
        go_wp2
        go_roundw
        case rel => exact ⟨pos + n, l ++ [c], HI4, hit4, HN, hbw2.trans k4⟩
        case measure =>
          rw [iterPos_of hit4, iterPos_of hit]
          omega
    · have HE : Hid (R = encL (foldL l)) := Lib.hid (by
        have h := HP.out.done hp
        rw [HT.out] at h
        rw [← HR.out, Option.some.inj h])
      have hnx : ∀ ty, (Instr.next (.pointer (some ⟨w2.heap.size, 0, none⟩)) true ty).run Tryz.prog wr = _ := fun ty => Lib.run_next_end_at wr w2.heap.size (str t) pos ty hit hp
      have HC := Lib.hid (buildStr_k w.heap.size w.heap.size (encL (foldL l)) wr HI (by omega))
      go_wp2_with fail
      refine HC.out.mono ?_
      rintro e w4 ⟨rfl, k4⟩
      go_wp2
      go_ret
      rw [HE.out]
      exact ⟨rfl, hb.trans k4⟩

end Go.Proofs.YtafnjbmeponobaaGreatDoor
