/-
  The program's own Lower and plain of fold.
  The library's search for a byte.
-/
import Derived.Test.YtbnchnbblchmnaaGreatDoorPkAM
import Derived.Test.YtbnchnbblchmnaaGreatDoorPkAO
import Derived.Laws.Runes
import Derived.Test.YtbnchnbblchmnaaGreatDoorPkAI
import Derived.Lib.Bytealg
import Derived.Lib.IndexLaws
import Derived.Lib.IndexBytes
namespace Go.Proofs.YtbnchnbblchmnaaGreatDoor
open Go.RowKit

set_option maxRecDepth 20000 in
set_option maxHeartbeats 1600000 in
theorem prLow_198 (w : World) : Calls Tryz.prog 44 #[.int .i64 198] w fun e w' => e = .returned (.int .i64 230) ∧ w = w' := by
  go_enter Tryz.func44, Tryz.ntmps44
  go_wp2
  go_ret
  exact ⟨rfl, rfl⟩
set_option maxRecDepth 20000 in
set_option maxHeartbeats 1600000 in
theorem prLow_216 (w : World) : Calls Tryz.prog 44 #[.int .i64 216] w fun e w' => e = .returned (.int .i64 248) ∧ w = w' := by
  go_enter Tryz.func44, Tryz.ntmps44
  go_wp2
  go_ret
  exact ⟨rfl, rfl⟩
set_option maxRecDepth 20000 in
set_option maxHeartbeats 1600000 in
theorem prLow_208 (w : World) : Calls Tryz.prog 44 #[.int .i64 208] w fun e w' => e = .returned (.int .i64 240) ∧ w = w' := by
  go_enter Tryz.func44, Tryz.ntmps44
  go_wp2
  go_ret
  exact ⟨rfl, rfl⟩
set_option maxRecDepth 20000 in
set_option maxHeartbeats 1600000 in
theorem prLow_222 (w : World) : Calls Tryz.prog 44 #[.int .i64 222] w fun e w' => e = .returned (.int .i64 254) ∧ w = w' := by
  go_enter Tryz.func44, Tryz.ntmps44
  go_wp2
  go_ret
  exact ⟨rfl, rfl⟩
set_option maxRecDepth 20000 in
set_option maxHeartbeats 1600000 in
theorem prLow_272 (w : World) : Calls Tryz.prog 44 #[.int .i64 272] w fun e w' => e = .returned (.int .i64 273) ∧ w = w' := by
  go_enter Tryz.func44, Tryz.ntmps44
  go_wp2
  go_ret
  exact ⟨rfl, rfl⟩
set_option maxRecDepth 20000 in
set_option maxHeartbeats 1600000 in
theorem prLow_294 (w : World) : Calls Tryz.prog 44 #[.int .i64 294] w fun e w' => e = .returned (.int .i64 295) ∧ w = w' := by
  go_enter Tryz.func44, Tryz.ntmps44
  go_wp2
  go_ret
  exact ⟨rfl, rfl⟩
set_option maxRecDepth 20000 in
set_option maxHeartbeats 1600000 in
theorem prLow_321 (w : World) : Calls Tryz.prog 44 #[.int .i64 321] w fun e w' => e = .returned (.int .i64 322) ∧ w = w' := by
  go_enter Tryz.func44, Tryz.ntmps44
  go_wp2
  go_ret
  exact ⟨rfl, rfl⟩
set_option maxRecDepth 20000 in
set_option maxHeartbeats 1600000 in
theorem prLow_338 (w : World) : Calls Tryz.prog 44 #[.int .i64 338] w fun e w' => e = .returned (.int .i64 339) ∧ w = w' := by
  go_enter Tryz.func44, Tryz.ntmps44
  go_wp2
  go_ret
  exact ⟨rfl, rfl⟩
set_option maxRecDepth 20000 in
set_option maxHeartbeats 1600000 in
theorem prLow_330 (w : World) : Calls Tryz.prog 44 #[.int .i64 330] w fun e w' => e = .returned (.int .i64 331) ∧ w = w' := by
  go_enter Tryz.func44, Tryz.ntmps44
  go_wp2
  go_ret
  exact ⟨rfl, rfl⟩
set_option maxRecDepth 20000 in
set_option maxHeartbeats 1600000 in
theorem prLow_358 (w : World) : Calls Tryz.prog 44 #[.int .i64 358] w fun e w' => e = .returned (.int .i64 359) ∧ w = w' := by
  go_enter Tryz.func44, Tryz.ntmps44
  go_wp2
  go_ret
  exact ⟨rfl, rfl⟩
set_option maxRecDepth 20000 in
set_option maxHeartbeats 1600000 in
theorem prLow_1030 (w : World) : Calls Tryz.prog 44 #[.int .i64 1030] w fun e w' => e = .returned (.int .i64 1110) ∧ w = w' := by
  go_enter Tryz.func44, Tryz.ntmps44
  go_wp2
  go_ret
  exact ⟨rfl, rfl⟩
set_option maxRecDepth 20000 in
set_option maxHeartbeats 1600000 in
theorem prLow_1028 (w : World) : Calls Tryz.prog 44 #[.int .i64 1028] w fun e w' => e = .returned (.int .i64 1108) ∧ w = w' := by
  go_enter Tryz.func44, Tryz.ntmps44
  go_wp2
  go_ret
  exact ⟨rfl, rfl⟩
set_option maxRecDepth 20000 in
set_option maxHeartbeats 1600000 in
theorem prLow_1168 (w : World) : Calls Tryz.prog 44 #[.int .i64 1168] w fun e w' => e = .returned (.int .i64 1169) ∧ w = w' := by
  go_enter Tryz.func44, Tryz.ntmps44
  go_wp2
  go_ret
  exact ⟨rfl, rfl⟩
set_option maxRecDepth 20000 in
set_option maxHeartbeats 1600000 in
theorem prLow_962 (w : World) : Calls Tryz.prog 44 #[.int .i64 962] w fun e w' => e = .returned (.int .i64 963) ∧ w = w' := by
  go_enter Tryz.func44, Tryz.ntmps44
  go_wp2
  go_ret
  exact ⟨rfl, rfl⟩
set_option maxRecDepth 20000 in
set_option maxHeartbeats 1600000 in
theorem prLow_r65 (c : Int) (w : World) (h1 : 65 ≤ c) (h2 : c ≤ 90) : Calls Tryz.prog 44 #[.int .i64 c] w fun e w' => e = .returned (.int .i64 (c + 32)) ∧ w = w' := by
  have g65 : decide (65 ≤ c) = true := by simp; omega
  have g90 : decide (c ≤ 90) = true := by simp; omega
  go_enter Tryz.func44, Tryz.ntmps44
  go_wp2
  go_ret
  exact ⟨rfl, rfl⟩
set_option maxRecDepth 20000 in
set_option maxHeartbeats 1600000 in
theorem prLow_r913 (c : Int) (w : World) (h1 : 913 ≤ c) (h2 : c ≤ 929) : Calls Tryz.prog 44 #[.int .i64 c] w fun e w' => e = .returned (.int .i64 (c + 32)) ∧ w = w' := by
  have g65 : decide (65 ≤ c) = true := by simp; omega
  have g90 : decide (c ≤ 90) = false := by simp; omega
  have g913 : decide (913 ≤ c) = true := by simp; omega
  have g929 : decide (c ≤ 929) = true := by simp; omega
  go_enter Tryz.func44, Tryz.ntmps44
  go_wp2
  go_ret
  exact ⟨rfl, rfl⟩
set_option maxRecDepth 20000 in
set_option maxHeartbeats 1600000 in
theorem prLow_r931 (c : Int) (w : World) (h1 : 931 ≤ c) (h2 : c ≤ 937) : Calls Tryz.prog 44 #[.int .i64 c] w fun e w' => e = .returned (.int .i64 (c + 32)) ∧ w = w' := by
  have g65 : decide (65 ≤ c) = true := by simp; omega
  have g90 : decide (c ≤ 90) = false := by simp; omega
  have g913 : decide (913 ≤ c) = true := by simp; omega
  have g929 : decide (c ≤ 929) = false := by simp; omega
  have g931 : decide (931 ≤ c) = true := by simp; omega
  have g937 : decide (c ≤ 937) = true := by simp; omega
  go_enter Tryz.func44, Tryz.ntmps44
  go_wp2
  go_ret
  exact ⟨rfl, rfl⟩
set_option maxRecDepth 20000 in
set_option maxHeartbeats 1600000 in
theorem prLow_r1040 (c : Int) (w : World) (h1 : 1040 ≤ c) (h2 : c ≤ 1071) : Calls Tryz.prog 44 #[.int .i64 c] w fun e w' => e = .returned (.int .i64 (c + 32)) ∧ w = w' := by
  have g65 : decide (65 ≤ c) = true := by simp; omega
  have g90 : decide (c ≤ 90) = false := by simp; omega
  have g913 : decide (913 ≤ c) = true := by simp; omega
  have g929 : decide (c ≤ 929) = false := by simp; omega
  have g931 : decide (931 ≤ c) = true := by simp; omega
  have g937 : decide (c ≤ 937) = false := by simp; omega
  have g1040 : decide (1040 ≤ c) = true := by simp; omega
  have g1071 : decide (c ≤ 1071) = true := by simp; omega
  go_enter Tryz.func44, Tryz.ntmps44
  go_wp2
  go_ret
  exact ⟨rfl, rfl⟩
def lowKeys : List Int := [198, 216, 208, 222, 272, 294, 321, 338, 330, 358, 1030, 1028, 1168, 962]
set_option maxRecDepth 20000 in
set_option maxHeartbeats 1600000 in
theorem prLow_g0 (c : Int) (w : World) (h2 : c ≤ 64) (hk : c ∉ lowKeys) : Calls Tryz.prog 44 #[.int .i64 c] w fun e w' => e = .returned (.int .i64 c) ∧ w = w' := by
  simp only [lowKeys, List.mem_cons, List.not_mem_nil, or_false, not_or] at hk
  obtain ⟨k198, k216, k208, k222, k272, k294, k321, k338, k330, k358, k1030, k1028, k1168, k962⟩ := hk
  have e198 : (c == 198) = false := eqb_false k198
  have e216 : (c == 216) = false := eqb_false k216
  have e208 : (c == 208) = false := eqb_false k208
  have e222 : (c == 222) = false := eqb_false k222
  have e272 : (c == 272) = false := eqb_false k272
  have e294 : (c == 294) = false := eqb_false k294
  have e321 : (c == 321) = false := eqb_false k321
  have e338 : (c == 338) = false := eqb_false k338
  have e330 : (c == 330) = false := eqb_false k330
  have e358 : (c == 358) = false := eqb_false k358
  have e1030 : (c == 1030) = false := eqb_false k1030
  have e1028 : (c == 1028) = false := eqb_false k1028
  have e1168 : (c == 1168) = false := eqb_false k1168
  have e962 : (c == 962) = false := eqb_false k962
  have g65 : decide (65 ≤ c) = false := by simp; omega
  have g913 : decide (913 ≤ c) = false := by simp; omega
  have g931 : decide (931 ≤ c) = false := by simp; omega
  have g1040 : decide (1040 ≤ c) = false := by simp; omega
  clear k198 k216 k208 k222 k272 k294 k321 k338 k330 k358 k1030 k1028 k1168 k962
  go_enter Tryz.func44, Tryz.ntmps44
  go_wp2
  go_ret
  exact ⟨rfl, rfl⟩
set_option maxRecDepth 20000 in
set_option maxHeartbeats 1600000 in
theorem prLow_g91 (c : Int) (w : World) (h1 : 91 ≤ c) (h2 : c ≤ 912) (hk : c ∉ lowKeys) : Calls Tryz.prog 44 #[.int .i64 c] w fun e w' => e = .returned (.int .i64 c) ∧ w = w' := by
  simp only [lowKeys, List.mem_cons, List.not_mem_nil, or_false, not_or] at hk
  obtain ⟨k198, k216, k208, k222, k272, k294, k321, k338, k330, k358, k1030, k1028, k1168, k962⟩ := hk
  have e198 : (c == 198) = false := eqb_false k198
  have e216 : (c == 216) = false := eqb_false k216
  have e208 : (c == 208) = false := eqb_false k208
  have e222 : (c == 222) = false := eqb_false k222
  have e272 : (c == 272) = false := eqb_false k272
  have e294 : (c == 294) = false := eqb_false k294
  have e321 : (c == 321) = false := eqb_false k321
  have e338 : (c == 338) = false := eqb_false k338
  have e330 : (c == 330) = false := eqb_false k330
  have e358 : (c == 358) = false := eqb_false k358
  have e1030 : (c == 1030) = false := eqb_false k1030
  have e1028 : (c == 1028) = false := eqb_false k1028
  have e1168 : (c == 1168) = false := eqb_false k1168
  have e962 : (c == 962) = false := eqb_false k962
  have g65 : decide (65 ≤ c) = true := by simp; omega
  have g90 : decide (c ≤ 90) = false := by simp; omega
  have g913 : decide (913 ≤ c) = false := by simp; omega
  have g931 : decide (931 ≤ c) = false := by simp; omega
  have g1040 : decide (1040 ≤ c) = false := by simp; omega
  clear k198 k216 k208 k222 k272 k294 k321 k338 k330 k358 k1030 k1028 k1168 k962
  go_enter Tryz.func44, Tryz.ntmps44
  go_wp2
  go_ret
  exact ⟨rfl, rfl⟩
set_option maxRecDepth 20000 in
set_option maxHeartbeats 1600000 in
theorem prLow_g930 (c : Int) (w : World) (h1 : 930 ≤ c) (h2 : c ≤ 930) (hk : c ∉ lowKeys) : Calls Tryz.prog 44 #[.int .i64 c] w fun e w' => e = .returned (.int .i64 c) ∧ w = w' := by
  simp only [lowKeys, List.mem_cons, List.not_mem_nil, or_false, not_or] at hk
  obtain ⟨k198, k216, k208, k222, k272, k294, k321, k338, k330, k358, k1030, k1028, k1168, k962⟩ := hk
  have e198 : (c == 198) = false := eqb_false k198
  have e216 : (c == 216) = false := eqb_false k216
  have e208 : (c == 208) = false := eqb_false k208
  have e222 : (c == 222) = false := eqb_false k222
  have e272 : (c == 272) = false := eqb_false k272
  have e294 : (c == 294) = false := eqb_false k294
  have e321 : (c == 321) = false := eqb_false k321
  have e338 : (c == 338) = false := eqb_false k338
  have e330 : (c == 330) = false := eqb_false k330
  have e358 : (c == 358) = false := eqb_false k358
  have e1030 : (c == 1030) = false := eqb_false k1030
  have e1028 : (c == 1028) = false := eqb_false k1028
  have e1168 : (c == 1168) = false := eqb_false k1168
  have e962 : (c == 962) = false := eqb_false k962
  have g65 : decide (65 ≤ c) = true := by simp; omega
  have g90 : decide (c ≤ 90) = false := by simp; omega
  have g913 : decide (913 ≤ c) = true := by simp; omega
  have g929 : decide (c ≤ 929) = false := by simp; omega
  have g931 : decide (931 ≤ c) = false := by simp; omega
  have g1040 : decide (1040 ≤ c) = false := by simp; omega
  clear k198 k216 k208 k222 k272 k294 k321 k338 k330 k358 k1030 k1028 k1168 k962
  go_enter Tryz.func44, Tryz.ntmps44
  go_wp2
  go_ret
  exact ⟨rfl, rfl⟩
set_option maxRecDepth 20000 in
set_option maxHeartbeats 1600000 in
theorem prLow_g938 (c : Int) (w : World) (h1 : 938 ≤ c) (h2 : c ≤ 1039) (hk : c ∉ lowKeys) : Calls Tryz.prog 44 #[.int .i64 c] w fun e w' => e = .returned (.int .i64 c) ∧ w = w' := by
  simp only [lowKeys, List.mem_cons, List.not_mem_nil, or_false, not_or] at hk
  obtain ⟨k198, k216, k208, k222, k272, k294, k321, k338, k330, k358, k1030, k1028, k1168, k962⟩ := hk
  have e198 : (c == 198) = false := eqb_false k198
  have e216 : (c == 216) = false := eqb_false k216
  have e208 : (c == 208) = false := eqb_false k208
  have e222 : (c == 222) = false := eqb_false k222
  have e272 : (c == 272) = false := eqb_false k272
  have e294 : (c == 294) = false := eqb_false k294
  have e321 : (c == 321) = false := eqb_false k321
  have e338 : (c == 338) = false := eqb_false k338
  have e330 : (c == 330) = false := eqb_false k330
  have e358 : (c == 358) = false := eqb_false k358
  have e1030 : (c == 1030) = false := eqb_false k1030
  have e1028 : (c == 1028) = false := eqb_false k1028
  have e1168 : (c == 1168) = false := eqb_false k1168
  have e962 : (c == 962) = false := eqb_false k962
  have g65 : decide (65 ≤ c) = true := by simp; omega
  have g90 : decide (c ≤ 90) = false := by simp; omega
  have g913 : decide (913 ≤ c) = true := by simp; omega
  have g929 : decide (c ≤ 929) = false := by simp; omega
  have g931 : decide (931 ≤ c) = true := by simp; omega
  have g937 : decide (c ≤ 937) = false := by simp; omega
  have g1040 : decide (1040 ≤ c) = false := by simp; omega
  clear k198 k216 k208 k222 k272 k294 k321 k338 k330 k358 k1030 k1028 k1168 k962
  go_enter Tryz.func44, Tryz.ntmps44
  go_wp2
  go_ret
  exact ⟨rfl, rfl⟩
set_option maxRecDepth 20000 in
set_option maxHeartbeats 1600000 in
theorem prLow_g1072 (c : Int) (w : World) (h1 : 1072 ≤ c) (hk : c ∉ lowKeys) : Calls Tryz.prog 44 #[.int .i64 c] w fun e w' => e = .returned (.int .i64 c) ∧ w = w' := by
  simp only [lowKeys, List.mem_cons, List.not_mem_nil, or_false, not_or] at hk
  obtain ⟨k198, k216, k208, k222, k272, k294, k321, k338, k330, k358, k1030, k1028, k1168, k962⟩ := hk
  have e198 : (c == 198) = false := eqb_false k198
  have e216 : (c == 216) = false := eqb_false k216
  have e208 : (c == 208) = false := eqb_false k208
  have e222 : (c == 222) = false := eqb_false k222
  have e272 : (c == 272) = false := eqb_false k272
  have e294 : (c == 294) = false := eqb_false k294
  have e321 : (c == 321) = false := eqb_false k321
  have e338 : (c == 338) = false := eqb_false k338
  have e330 : (c == 330) = false := eqb_false k330
  have e358 : (c == 358) = false := eqb_false k358
  have e1030 : (c == 1030) = false := eqb_false k1030
  have e1028 : (c == 1028) = false := eqb_false k1028
  have e1168 : (c == 1168) = false := eqb_false k1168
  have e962 : (c == 962) = false := eqb_false k962
  have g65 : decide (65 ≤ c) = true := by simp; omega
  have g90 : decide (c ≤ 90) = false := by simp; omega
  have g913 : decide (913 ≤ c) = true := by simp; omega
  have g929 : decide (c ≤ 929) = false := by simp; omega
  have g931 : decide (931 ≤ c) = true := by simp; omega
  have g937 : decide (c ≤ 937) = false := by simp; omega
  have g1040 : decide (1040 ≤ c) = true := by simp; omega
  have g1071 : decide (c ≤ 1071) = false := by simp; omega
  clear k198 k216 k208 k222 k272 k294 k321 k338 k330 k358 k1030 k1028 k1168 k962
  go_enter Tryz.func44, Tryz.ntmps44
  go_wp2
  go_ret
  exact ⟨rfl, rfl⟩
theorem lowI_rng {c : Int} (h : (65 ≤ c ∧ c ≤ 90) ∨ (913 ≤ c ∧ c ≤ 937 ∧ c ≠ 930) ∨ (1040 ≤ c ∧ c ≤ 1071)) : lowI c = c + 32 := by unfold lowI; rw [if_pos h]
theorem lowI_gap {c : Int} (h : ¬ ((65 ≤ c ∧ c ≤ 90) ∨ (913 ≤ c ∧ c ≤ 937 ∧ c ≠ 930) ∨ (1040 ≤ c ∧ c ≤ 1071))) (hk : c ∉ lowKeys) : lowI c = c := by
  simp only [lowKeys, List.mem_cons, List.not_mem_nil, or_false, not_or] at hk
  have hn : lkI lowL c = 0 := lk_none (List.find?_eq_none.2 fun x hx => by
    simp only [lowL, List.mem_cons, List.not_mem_nil, or_false] at hx
    rcases hx with rfl | rfl | rfl | rfl | rfl | rfl | rfl | rfl | rfl | rfl | rfl | rfl | rfl <;> (simp; omega))
  unfold lowI
  rw [if_neg h, if_neg (by omega), if_pos hn]
theorem prLower_s (c : Int) (w : World) : Calls Tryz.prog 44 #[.int .i64 c] w fun e w' => e = .returned (.int .i64 (lowI c)) ∧ w = w' := by
  by_cases hk : c ∈ lowKeys
  · simp only [lowKeys, List.mem_cons, List.not_mem_nil, or_false] at hk
    rcases hk with rfl | rfl | rfl | rfl | rfl | rfl | rfl | rfl | rfl | rfl | rfl | rfl | rfl | rfl
    · rw [show lowI 198 = 230 by decide]; exact prLow_198 w
    · rw [show lowI 216 = 248 by decide]; exact prLow_216 w
    · rw [show lowI 208 = 240 by decide]; exact prLow_208 w
    · rw [show lowI 222 = 254 by decide]; exact prLow_222 w
    · rw [show lowI 272 = 273 by decide]; exact prLow_272 w
    · rw [show lowI 294 = 295 by decide]; exact prLow_294 w
    · rw [show lowI 321 = 322 by decide]; exact prLow_321 w
    · rw [show lowI 338 = 339 by decide]; exact prLow_338 w
    · rw [show lowI 330 = 331 by decide]; exact prLow_330 w
    · rw [show lowI 358 = 359 by decide]; exact prLow_358 w
    · rw [show lowI 1030 = 1110 by decide]; exact prLow_1030 w
    · rw [show lowI 1028 = 1108 by decide]; exact prLow_1028 w
    · rw [show lowI 1168 = 1169 by decide]; exact prLow_1168 w
    · rw [show lowI 962 = 963 by decide]; exact prLow_962 w
  · have hc : c ≤ 64 ∨ (65 ≤ c ∧ c ≤ 90) ∨ (91 ≤ c ∧ c ≤ 912) ∨ (913 ≤ c ∧ c ≤ 929) ∨ c = 930 ∨ (931 ≤ c ∧ c ≤ 937) ∨ (938 ≤ c ∧ c ≤ 1039) ∨ (1040 ≤ c ∧ c ≤ 1071) ∨ 1072 ≤ c := by omega
    rcases hc with hc | hc | hc | hc | hc | hc | hc | hc | hc
    · rw [lowI_gap (by omega) hk]; exact prLow_g0 c w hc hk
    · rw [lowI_rng (by omega)]; exact prLow_r65 c w hc.1 hc.2
    · rw [lowI_gap (by omega) hk]; exact prLow_g91 c w hc.1 hc.2 hk
    · rw [lowI_rng (by omega)]; exact prLow_r913 c w hc.1 hc.2
    · rw [lowI_gap (by omega) hk]; exact prLow_g930 c w (by omega) (by omega) hk
    · rw [lowI_rng (by omega)]; exact prLow_r931 c w hc.1 hc.2
    · rw [lowI_gap (by omega) hk]; exact prLow_g938 c w hc.1 hc.2 hk
    · rw [lowI_rng (by omega)]; exact prLow_r1040 c w hc.1 hc.2
    · rw [lowI_gap (by omega) hk]; exact prLow_g1072 c w hc hk

set_option maxRecDepth 20000 in
set_option maxHeartbeats 1600000 in
theorem prPl_230 (w : World) : Calls Tryz.prog 49 #[.int .i64 230] w fun e w' => e = .returned (.string (str [97, 101])) ∧ w = w' := by
  go_enter Tryz.func49, Tryz.ntmps49
  go_wp2
  go_ret
  exact ⟨rfl, rfl⟩
set_option maxRecDepth 20000 in
set_option maxHeartbeats 1600000 in
theorem prPl_339 (w : World) : Calls Tryz.prog 49 #[.int .i64 339] w fun e w' => e = .returned (.string (str [111, 101])) ∧ w = w' := by
  go_enter Tryz.func49, Tryz.ntmps49
  go_wp2
  go_ret
  exact ⟨rfl, rfl⟩
set_option maxRecDepth 20000 in
set_option maxHeartbeats 1600000 in
theorem prPl_248 (w : World) : Calls Tryz.prog 49 #[.int .i64 248] w fun e w' => e = .returned (.string (str [111])) ∧ w = w' := by
  go_enter Tryz.func49, Tryz.ntmps49
  go_wp2
  go_ret
  exact ⟨rfl, rfl⟩
set_option maxRecDepth 20000 in
set_option maxHeartbeats 1600000 in
theorem prPl_240 (w : World) : Calls Tryz.prog 49 #[.int .i64 240] w fun e w' => e = .returned (.string (str [100])) ∧ w = w' := by
  go_enter Tryz.func49, Tryz.ntmps49
  go_wp2
  go_ret
  exact ⟨rfl, rfl⟩
set_option maxRecDepth 20000 in
set_option maxHeartbeats 1600000 in
theorem prPl_273 (w : World) : Calls Tryz.prog 49 #[.int .i64 273] w fun e w' => e = .returned (.string (str [100])) ∧ w = w' := by
  go_enter Tryz.func49, Tryz.ntmps49
  go_wp2
  go_ret
  exact ⟨rfl, rfl⟩
set_option maxRecDepth 20000 in
set_option maxHeartbeats 1600000 in
theorem prPl_254 (w : World) : Calls Tryz.prog 49 #[.int .i64 254] w fun e w' => e = .returned (.string (str [116, 104])) ∧ w = w' := by
  go_enter Tryz.func49, Tryz.ntmps49
  go_wp2
  go_ret
  exact ⟨rfl, rfl⟩
set_option maxRecDepth 20000 in
set_option maxHeartbeats 1600000 in
theorem prPl_295 (w : World) : Calls Tryz.prog 49 #[.int .i64 295] w fun e w' => e = .returned (.string (str [104])) ∧ w = w' := by
  go_enter Tryz.func49, Tryz.ntmps49
  go_wp2
  go_ret
  exact ⟨rfl, rfl⟩
set_option maxRecDepth 20000 in
set_option maxHeartbeats 1600000 in
theorem prPl_305 (w : World) : Calls Tryz.prog 49 #[.int .i64 305] w fun e w' => e = .returned (.string (str [105])) ∧ w = w' := by
  go_enter Tryz.func49, Tryz.ntmps49
  go_wp2
  go_ret
  exact ⟨rfl, rfl⟩
set_option maxRecDepth 20000 in
set_option maxHeartbeats 1600000 in
theorem prPl_322 (w : World) : Calls Tryz.prog 49 #[.int .i64 322] w fun e w' => e = .returned (.string (str [108])) ∧ w = w' := by
  go_enter Tryz.func49, Tryz.ntmps49
  go_wp2
  go_ret
  exact ⟨rfl, rfl⟩
set_option maxRecDepth 20000 in
set_option maxHeartbeats 1600000 in
theorem prPl_331 (w : World) : Calls Tryz.prog 49 #[.int .i64 331] w fun e w' => e = .returned (.string (str [110, 103])) ∧ w = w' := by
  go_enter Tryz.func49, Tryz.ntmps49
  go_wp2
  go_ret
  exact ⟨rfl, rfl⟩
set_option maxRecDepth 20000 in
set_option maxHeartbeats 1600000 in
theorem prPl_359 (w : World) : Calls Tryz.prog 49 #[.int .i64 359] w fun e w' => e = .returned (.string (str [116])) ∧ w = w' := by
  go_enter Tryz.func49, Tryz.ntmps49
  go_wp2
  go_ret
  exact ⟨rfl, rfl⟩
/-- string(r) at a character of the repertoire. -/
theorem encode_has {c : Nat} (h : hasR (c : Int) = true) : Utf8.encode (c : Int) = str (encC c) := by
  have hr := has_range h
  have hc : c < 65536 := by omega
  have hs : ¬ (55296 ≤ c ∧ c < 57344) := fun hs => by
    have := kind_surrogate hs.1 hs.2
    exact (has_kind.1 h) this
  have hv : Utf8.valid (c : Int) = true := by rw [valid_nat hc]; unfold goodU; simp; omega
  have ht : (c : Int).toNat = c := Int.toNat_natCast c
  unfold Utf8.encode encC
  simp only [hv, if_true, ht]
  by_cases h1 : c < 128
  · rw [if_pos h1, if_pos h1]; rfl
  · rw [if_neg h1, if_neg h1]
    by_cases h2 : c < 2048
    · rw [if_pos h2, if_pos h2]; rfl
    · rw [if_neg h2, if_neg h2, if_pos hc]; rfl
def plKeys : List Nat := [230, 339, 248, 240, 273, 254, 295, 305, 322, 331, 359]
set_option maxRecDepth 20000 in
set_option maxHeartbeats 1600000 in
theorem prPl_else (c : Nat) (w : World) (hc : hasR (c : Int) = true) (hk : c ∉ plKeys) : Calls Tryz.prog 49 #[.int .i64 (c : Int)] w fun e w' => e = .returned (.string (str (encC c))) ∧ w = w' := by
  have he := encode_has hc
  have hr := has_range hc
  have hz : (c : Int) ≤ 65535 := by omega
  simp only [plKeys, List.mem_cons, List.not_mem_nil, or_false, not_or] at hk
  obtain ⟨k230, k339, k248, k240, k273, k254, k295, k305, k322, k331, k359⟩ := hk
  have e230 : ((c : Int) == 230) = false := eqb_false (by omega)
  have e339 : ((c : Int) == 339) = false := eqb_false (by omega)
  have e248 : ((c : Int) == 248) = false := eqb_false (by omega)
  have e240 : ((c : Int) == 240) = false := eqb_false (by omega)
  have e273 : ((c : Int) == 273) = false := eqb_false (by omega)
  have e254 : ((c : Int) == 254) = false := eqb_false (by omega)
  have e295 : ((c : Int) == 295) = false := eqb_false (by omega)
  have e305 : ((c : Int) == 305) = false := eqb_false (by omega)
  have e322 : ((c : Int) == 322) = false := eqb_false (by omega)
  have e331 : ((c : Int) == 331) = false := eqb_false (by omega)
  have e359 : ((c : Int) == 359) = false := eqb_false (by omega)
  obtain ⟨x, hx⟩ : ∃ x, str (encC c) = x := ⟨_, rfl⟩
  rw [hx] at he ⊢
  clear hx hr hc k230 k339 k248 k240 k273 k254 k295 k305 k322 k331 k359
  go_enter Tryz.func49, Tryz.ntmps49
  go_wp2
  go_ret
  exact ⟨rfl, rfl⟩
theorem plain_gap {c : Nat} (hk : c ∉ plKeys) : plainL c = [c] := by
  simp only [plKeys, List.mem_cons, List.not_mem_nil, or_false, not_or] at hk
  have hn : lkN plL c = 0 := by
    unfold lkN
    have : (plL.find? fun x => Nat.beq x.1 c) = none := List.find?_eq_none.2 fun x hx => by
      simp only [plL, List.mem_cons, List.not_mem_nil, or_false] at hx
      rcases hx with rfl | rfl | rfl | rfl | rfl | rfl | rfl <;> (simp; omega)
    rw [this]
  rw [plain_if, if_neg (by omega), if_neg (by omega), if_neg (by omega), if_neg (by omega), if_pos hn]
theorem prPlain_s (c : Nat) (w : World) (hc : hasR (c : Int) = true) : Calls Tryz.prog 49 #[.int .i64 (c : Int)] w fun e w' => e = .returned (.string (str (encL (plainL c)))) ∧ w = w' := by
  by_cases hk : c ∈ plKeys
  · simp only [plKeys, List.mem_cons, List.not_mem_nil, or_false] at hk
    rcases hk with rfl | rfl | rfl | rfl | rfl | rfl | rfl | rfl | rfl | rfl | rfl
    · rw [show encL (plainL 230) = [97, 101] by decide +kernel]; exact prPl_230 w
    · rw [show encL (plainL 339) = [111, 101] by decide +kernel]; exact prPl_339 w
    · rw [show encL (plainL 248) = [111] by decide +kernel]; exact prPl_248 w
    · rw [show encL (plainL 240) = [100] by decide +kernel]; exact prPl_240 w
    · rw [show encL (plainL 273) = [100] by decide +kernel]; exact prPl_273 w
    · rw [show encL (plainL 254) = [116, 104] by decide +kernel]; exact prPl_254 w
    · rw [show encL (plainL 295) = [104] by decide +kernel]; exact prPl_295 w
    · rw [show encL (plainL 305) = [105] by decide +kernel]; exact prPl_305 w
    · rw [show encL (plainL 322) = [108] by decide +kernel]; exact prPl_322 w
    · rw [show encL (plainL 331) = [110, 103] by decide +kernel]; exact prPl_331 w
    · rw [show encL (plainL 359) = [116] by decide +kernel]; exact prPl_359 w
  · rw [plain_gap hk, show encL [c] = encC c by simp [encL]]
    exact prPl_else c w hc hk

end Go.Proofs.YtbnchnbblchmnaaGreatDoor

namespace Go.Proofs.YtbnchnbblchmnaaGreatDoor
open Go.RowKit

set_option maxRecDepth 20000 in
set_option maxHeartbeats 1600000 in
theorem slIndexByte_any (s : List UInt8) (c : UInt8) (w : World) :
    Calls Tryz.prog 175 #[.string (str s), .int .u8 (c.toNat : Int)] w fun e w' => e = .returned (.int .i64 (Lib.indexByte s c)) ∧ w' = w := by
  go_enter Tryz.func175, Tryz.ntmps175
  go_wp2
  rw [run_callFunc_extern Tryz.func177 (by kernel_rfl) (by kernel_rfl) (by kernel_rfl) (e := Extern.BytealgIndexByte.indexByte) (by kernel_rfl), Lib.run_indexByteString]
  simp only [Result.andThen]
  rw [Oper.upon_value]
  go_wp2
  go_ret
  refine ⟨?_, rfl⟩
  show Ending.returned _ = _
  congr 2

set_option maxRecDepth 20000 in
set_option maxHeartbeats 1600000 in
theorem indexByte_any (s : List UInt8) (c : UInt8) (w : World) :
    Calls Tryz.prog 170 #[.string (str s), .int .u8 (c.toNat : Int)] w fun e w' => e = .returned (.int .i64 (Lib.indexByte s c)) ∧ w' = w := by
  obtain ⟨K, hK⟩ : ∃ K, Lib.indexByte s c = K := ⟨_, rfl⟩
  have HC := slIndexByte_any s c w
  rw [hK] at HC ⊢
  have HC := Lib.hid HC
  clear hK
  go_enter Tryz.func170, Tryz.ntmps170
  go_wp2_with fail
  refine HC.out.mono ?_
  rintro e w1 ⟨rfl, rfl⟩
  go_wp2
  go_ret
  exact ⟨rfl, rfl⟩

set_option maxRecDepth 20000 in
set_option maxHeartbeats 1600000 in
theorem cutover_any (n : Nat) (w : World) (hn : n ≤ 1000000) :
    Calls Tryz.prog 172 #[.int .i64 (n : Int)] w fun e w' => e = .returned (.int .i64 (((n + 16) / 8 : Nat) : Int)) ∧ w' = w := by
  obtain ⟨q, hq⟩ : ∃ q, (n + 16) / 8 = q := ⟨_, rfl⟩
  have e1 : ((n : Int) + 16) / 8 = (q : Int) := by omega
  have e2 : ((n : Int) + 16).tdiv 8 = (q : Int) := by rw [Int.tdiv_eq_ediv_of_nonneg (by omega)]; exact e1
  rw [hq]
  clear hq
  go_enter Tryz.func172, Tryz.ntmps172
  go_wp2
  go_ret
  exact ⟨by first | rfl | (congr 2), rfl⟩

set_option maxRecDepth 20000 in
set_option maxHeartbeats 1600000 in
theorem validRune_any (c : Nat) (w : World) (hc : c < 55296) :
    Calls Tryz.prog 171 #[.int .i32 (c : Int)] w fun e w' => e = .returned (.bool true) ∧ w' = w := by
  have t1 : decide ((0 : Int) ≤ (c : Int)) = true := by simp
  have t2 : decide ((c : Int) < 55296) = true := by simp; omega
  go_enter Tryz.func171, Tryz.ntmps171
  go_wp2
  go_ret
  exact ⟨rfl, rfl⟩

set_option maxRecDepth 100000 in
set_option maxHeartbeats 1600000 in
theorem indexRune_ascii (s : List UInt8) (c : Nat) (w : World) (hc : c < 128) :
    Calls Tryz.prog 165 #[.string (str s), .int .i32 (c : Int)] w fun e w' => e = .returned (.int .i64 (Lib.indexByte s (UInt8.ofNat c))) ∧ w' = w := by
  have t1 : decide ((0 : Int) ≤ (c : Int)) = true := by simp
  have t2 : decide ((c : Int) < 128) = true := by simp; omega
  have HC := indexByte_any s (UInt8.ofNat c) w
  rw [byte_of (by omega : c < 256)] at HC
  obtain ⟨K, hK⟩ : ∃ K, Lib.indexByte s (UInt8.ofNat c) = K := ⟨_, rfl⟩
  rw [hK] at HC ⊢
  have HC := Lib.hid HC
  clear hK
  go_enter Tryz.func165, Tryz.ntmps165
  go_wp2_with fail
  refine HC.out.mono ?_
  rintro e w1 ⟨rfl, rfl⟩
  go_wp2
  go_ret
  exact ⟨rfl, rfl⟩

end Go.Proofs.YtbnchnbblchmnaaGreatDoor
