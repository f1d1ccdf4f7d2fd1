/-
  The reference's class and whole.
-/
import Derived.Test.YtpgaebdaakllaaaDoorRefComp
namespace Go.Proofs.YtpgaebdaakllaaaDoor
open Go.RowKit

set_option maxRecDepth 20000 in
set_option maxHeartbeats 1600000 in
theorem refClassM_any (c : Nat) (w : World) :
    Calls Tryd.prog 31 #[.int .i64 (c : Int)] w fun e w' => e = .returned (.int .i64 (clM c : Int)) ∧ ∃ q, w' = w.drewN q := by
  have hcl := class_any (c : Int) w
  obtain ⟨a, ha⟩ : ∃ a, a = (clsR (c : Int)).1 := ⟨_, rfl⟩
  obtain ⟨k, hk⟩ : ∃ k, k = (clsR (c : Int)).2 := ⟨_, rfl⟩
  rw [← ha, ← hk] at hcl
  have HC := Lib.hid hcl
  obtain ⟨R, hR⟩ : ∃ R, clM c = R := ⟨_, rfl⟩
  rw [hR]
  unfold clM kindR at hR
  rw [← hk] at hR
  clear hcl ha
  by_cases h2 : k = 2
  · have t1 : ((k : Int) != 2) = false := by rw [h2]; rfl
    rw [if_pos h2] at hR
    by_cases h3 : c = 807
    · have t2 : ((c : Int) == 807) = true := eqb_true (by omega)
      have HE : Hid (R = 1) := Lib.hid (by rw [← hR, h3]; rfl)
      clear hR h3 h2 hk
      go_enter Tryd.func31, Tryd.ntmps31
      go_wp2_with fail
      refine HC.out.mono ?_
      rintro e w1 ⟨rfl, q, rfl⟩
      unfold two
      go_wp2
      go_ret
      rw [HE.out]
      exact ⟨rfl, q, rfl⟩
    have t2 : ((c : Int) == 807) = false := eqb_false (by omega)
    by_cases h4 : c = 808
    · have t3 : ((c : Int) == 808) = true := eqb_true (by omega)
      have HE : Hid (R = 1) := Lib.hid (by rw [← hR, h4]; rfl)
      clear hR h3 h4 h2 hk
      go_enter Tryd.func31, Tryd.ntmps31
      go_wp2_with fail
      refine HC.out.mono ?_
      rintro e w1 ⟨rfl, q, rfl⟩
      unfold two
      go_wp2
      go_ret
      rw [HE.out]
      exact ⟨rfl, q, rfl⟩
    have t3 : ((c : Int) == 808) = false := eqb_false (by omega)
    rw [beq_false h3, beq_false h4] at hR
    by_cases h5 : c = 803
    · have t4 : ((c : Int) == 803) = true := eqb_true (by omega)
      have HE : Hid (R = 2) := Lib.hid (by rw [← hR, h5]; rfl)
      clear hR h3 h4 h5 h2 hk
      go_enter Tryd.func31, Tryd.ntmps31
      go_wp2_with fail
      refine HC.out.mono ?_
      rintro e w1 ⟨rfl, q, rfl⟩
      unfold two
      go_wp2
      go_ret
      rw [HE.out]
      exact ⟨rfl, q, rfl⟩
    · have t4 : ((c : Int) == 803) = false := eqb_false (by omega)
      have HE : Hid (R = 3) := Lib.hid (by rw [← hR, beq_false h5]; rfl)
      clear hR h3 h4 h5 h2 hk
      go_enter Tryd.func31, Tryd.ntmps31
      go_wp2_with fail
      refine HC.out.mono ?_
      rintro e w1 ⟨rfl, q, rfl⟩
      unfold two
      go_wp2
      go_ret
      rw [HE.out]
      exact ⟨rfl, q, rfl⟩
  · have t1 : ((k : Int) != 2) = true := by simp; omega
    have HE : Hid (R = 0) := Lib.hid (by rw [← hR, if_neg h2])
    clear hR h2 hk
    go_enter Tryd.func31, Tryd.ntmps31
    go_wp2_with fail
    refine HC.out.mono ?_
    rintro e w1 ⟨rfl, q, rfl⟩
    unfold two
    go_wp2
    go_ret
    rw [HE.out]
    exact ⟨rfl, q, rfl⟩

/-- A new slice of the call's own that holds these characters. -/
def NewNats (w : World) (l : List Nat) (e : Ending) (w' : World) : Prop :=
  ∃ (b c : Nat) (cs : Array Value), e = .returned (.slice (some ⟨b, 0, none⟩) l.length c) ∧ w.heap.size ≤ b ∧ Box w' b 3 cs ∧ (∀ (i u : Nat), l[i]? = some u → cs[i]? = some (nv u)) ∧ Below w.heap.size w w'
theorem new_one (w : World) (x : Int) (y : Nat) (h : x = (y : Int)) : NewNats w [y] (.returned (.slice (some ⟨w.heap.size, 0, none⟩) 1 1)) (w.alloc (.cells #[.int .i64 x] 3)) := by
  subst h
  refine ⟨_, 1, _, rfl, Nat.le_refl _, Box.made w 3 #[.int .i64 (y : Int)], fun i u hu => ?_, below_new (Below.refl _ _) _⟩
  cases i with
  | zero => simp at hu; subst hu; rfl
  | succ i => simp at hu
theorem new_two (w : World) (x x' : Int) (y z : Nat) (h : x = (y : Int)) (h' : x' = (z : Int)) : NewNats w [y, z] (.returned (.slice (some ⟨w.heap.size, 0, none⟩) 2 2)) (w.alloc (.cells #[.int .i64 x, .int .i64 x'] 3)) := by
  subst h h'
  refine ⟨_, 2, _, rfl, Nat.le_refl _, Box.made w 3 #[.int .i64 (y : Int), .int .i64 (z : Int)], fun i u hu => ?_, below_new (Below.refl _ _) _⟩
  match i with
  | 0 => simp at hu; subst hu; rfl
  | 1 => simp at hu; subst hu; rfl
  | i + 2 => simp at hu
theorem NewNats.from {w w1 : World} {l : List Nat} {e : Ending} {w' : World} (h : NewNats w1 l e w') (hb : Below w.heap.size w w1) : NewNats w l e w' := by
  obtain ⟨b, c, cs, h1, h2, h3, h4, h5⟩ := h
  exact ⟨b, c, cs, h1, Nat.le_trans hb.size h2, h3, h4, below_next hb h5⟩

set_option maxRecDepth 20000 in
set_option maxHeartbeats 1600000 in
theorem refWhole_any (c : Nat) (w : World) (hc : c < 65536) :
    Calls Tryd.prog 45 #[.int .i64 (c : Int)] w (NewNats w (wholeR c)) := by
  obtain ⟨R, hR⟩ : ∃ R, wholeR c = R := ⟨_, rfl⟩
  rw [hR]
  unfold wholeR at hR
  by_cases h1 : c = 160
  · have t1 : ((c : Int) == 160) = true := eqb_true (by omega)
    have HE : Hid (R = [32]) := Lib.hid (by rw [← hR, h1]; rfl)
    clear hR h1
    go_enter Tryd.func45, Tryd.ntmps45
    go_wp2
    go_ret
    rw [HE.out]
    exact new_one w _ _ rfl
  have t1 : ((c : Int) == 160) = false := eqb_false (by omega)
  rw [beq_false h1, if_neg (by decide)] at hR
  by_cases h2 : c = 185
  · have t2 : ((c : Int) == 185) = true := eqb_true (by omega)
    have HE : Hid (R = [49]) := Lib.hid (by rw [← hR, h2]; rfl)
    clear hR h1 h2
    go_enter Tryd.func45, Tryd.ntmps45
    go_wp2
    go_ret
    rw [HE.out]
    exact new_one w _ _ rfl
  have t2 : ((c : Int) == 185) = false := eqb_false (by omega)
  rw [beq_false h2, if_neg (by decide)] at hR
  by_cases h3 : c = 178
  · have t3 : ((c : Int) == 178) = true := eqb_true (by omega)
    have HE : Hid (R = [c - 128]) := Lib.hid (by rw [← hR, h3]; rfl)
    have hz : 128 ≤ c := by omega
    clear hR h1 h2 h3
    go_enter Tryd.func45, Tryd.ntmps45
    go_wp2
    go_ret
    rw [HE.out]
    exact new_one w _ _ (by omega)
  have t3 : ((c : Int) == 178) = false := eqb_false (by omega)
  by_cases h4 : c = 179
  · have t4 : ((c : Int) == 179) = true := eqb_true (by omega)
    have HE : Hid (R = [c - 128]) := Lib.hid (by rw [← hR, h4]; rfl)
    have hz : 128 ≤ c := by omega
    clear hR h1 h2 h3 h4
    go_enter Tryd.func45, Tryd.ntmps45
    go_wp2
    go_ret
    rw [HE.out]
    exact new_one w _ _ (by omega)
  have t4 : ((c : Int) == 179) = false := eqb_false (by omega)
  rw [beq_false h3, beq_false h4, if_neg (by decide)] at hR
  by_cases h5 : c = 383
  · have t5 : ((c : Int) == 383) = true := eqb_true (by omega)
    have HE : Hid (R = [115]) := Lib.hid (by rw [← hR, h5]; rfl)
    clear hR h1 h2 h3 h4 h5
    go_enter Tryd.func45, Tryd.ntmps45
    go_wp2
    go_ret
    rw [HE.out]
    exact new_one w _ _ rfl
  have t5 : ((c : Int) == 383) = false := eqb_false (by omega)
  rw [beq_false h5, if_neg (by decide)] at hR
  by_cases h6 : c = 64257
  · have t6 : ((c : Int) == 64257) = true := eqb_true (by omega)
    have HE : Hid (R = [102, 105]) := Lib.hid (by rw [← hR, h6]; rfl)
    clear hR h1 h2 h3 h4 h5 h6
    go_enter Tryd.func45, Tryd.ntmps45
    go_wp2
    go_ret
    rw [HE.out]
    exact new_two w _ _ _ _ rfl rfl
  have t6 : ((c : Int) == 64257) = false := eqb_false (by omega)
  rw [beq_false h6, if_neg (by decide)] at hR
  by_cases h7 : c = 64258
  · have t7 : ((c : Int) == 64258) = true := eqb_true (by omega)
    have HE : Hid (R = [102, 108]) := Lib.hid (by rw [← hR, h7]; rfl)
    clear hR h1 h2 h3 h4 h5 h6 h7
    go_enter Tryd.func45, Tryd.ntmps45
    go_wp2
    go_ret
    rw [HE.out]
    exact new_two w _ _ _ _ rfl rfl
  have t7 : ((c : Int) == 64258) = false := eqb_false (by omega)
  rw [beq_false h7, if_neg (by decide)] at hR
  by_cases h8 : 65281 ≤ c
  · have t8 : decide (65281 ≤ (c : Int)) = true := by simp; omega
    by_cases h9 : c ≤ 65374
    · have t9 : decide ((c : Int) ≤ 65374) = true := by simp; omega
      have HE : Hid (R = [c - 65248]) := Lib.hid (by
        rw [← hR, if_pos]
        unfold inN
        rw [Bool.and_eq_true, Nat.ble_eq, Nat.ble_eq]
        exact ⟨h8, h9⟩)
      clear hR h1 h2 h3 h4 h5 h6 h7
      go_enter Tryd.func45, Tryd.ntmps45
      go_wp2
      go_ret
      rw [HE.out]
      exact new_one w _ _ (by omega)
    · have t9 : decide ((c : Int) ≤ 65374) = false := by simp; omega
      have t10 : decide ((c : Int) < 192) = false := by simp; omega
      have hin : inN c 65281 65374 = false := by
        unfold inN
        rw [← Bool.not_eq_true, Bool.and_eq_true, Nat.ble_eq, Nat.ble_eq]
        omega
      have hlt : Nat.blt c 192 = false := by rw [← Bool.not_eq_true, Nat.blt_eq]; omega
      rw [hin, if_neg (by decide), hlt, if_neg (by decide)] at hR
      have hp := refPair_any c w
      obtain ⟨b, hb⟩ : ∃ b, (pairR c).1 = b := ⟨_, rfl⟩
      obtain ⟨m, hm⟩ : ∃ m, (pairR c).2 = m := ⟨_, rfl⟩
      rw [hb, hm] at hR hp
      have HP := Lib.hid hp
      clear hp hb hm h1 h2 h3 h4 h5 h6 h7 hin hlt
      by_cases hb0 : b = 0
      · have t11 : ((b : Int) != 0) = false := by rw [hb0]; rfl
        have HE : Hid (R = [c]) := Lib.hid (by rw [← hR, hb0]; rfl)
        clear hR hb0
        go_enter Tryd.func45, Tryd.ntmps45
        go_wp2_with fail
        refine HP.out.mono ?_
        rintro e w1 ⟨rfl, k1⟩
        unfold two
        go_wp2
        go_ret
        rw [HE.out]
        exact (new_one w1 _ _ rfl).from k1
      · have t11 : ((b : Int) != 0) = true := by simp; omega
        have HE : Hid (R = [b, m]) := Lib.hid (by rw [← hR, beq_false hb0]; rfl)
        clear hR hb0
        go_enter Tryd.func45, Tryd.ntmps45
        go_wp2_with fail
        refine HP.out.mono ?_
        rintro e w1 ⟨rfl, k1⟩
        unfold two
        go_wp2
        go_ret
        rw [HE.out]
        exact (new_two w1 _ _ _ _ rfl rfl).from k1
  · have t8 : decide (65281 ≤ (c : Int)) = false := by simp; omega
    have hin : inN c 65281 65374 = false := by
      unfold inN
      rw [← Bool.not_eq_true, Bool.and_eq_true, Nat.ble_eq, Nat.ble_eq]
      omega
    rw [hin, if_neg (by decide)] at hR
    by_cases h9 : c < 192
    · have t10 : decide ((c : Int) < 192) = true := by simp; omega
      have HE : Hid (R = [c]) := Lib.hid (by
        rw [← hR, if_pos]
        rw [Nat.blt_eq]
        exact h9)
      clear hR h1 h2 h3 h4 h5 h6 h7 hin
      go_enter Tryd.func45, Tryd.ntmps45
      go_wp2
      go_ret
      rw [HE.out]
      exact new_one w _ _ rfl
    · have t10 : decide ((c : Int) < 192) = false := by simp; omega
      have hlt : Nat.blt c 192 = false := by rw [← Bool.not_eq_true, Nat.blt_eq]; omega
      rw [hlt, if_neg (by decide)] at hR
      have hp := refPair_any c w
      obtain ⟨b, hb⟩ : ∃ b, (pairR c).1 = b := ⟨_, rfl⟩
      obtain ⟨m, hm⟩ : ∃ m, (pairR c).2 = m := ⟨_, rfl⟩
      rw [hb, hm] at hR hp
      have HP := Lib.hid hp
      clear hp hb hm h1 h2 h3 h4 h5 h6 h7 hin hlt
      by_cases hb0 : b = 0
      · have t11 : ((b : Int) != 0) = false := by rw [hb0]; rfl
        have HE : Hid (R = [c]) := Lib.hid (by rw [← hR, hb0]; rfl)
        clear hR hb0
        go_enter Tryd.func45, Tryd.ntmps45
        go_wp2_with fail
        refine HP.out.mono ?_
        rintro e w1 ⟨rfl, k1⟩
        unfold two
        go_wp2
        go_ret
        rw [HE.out]
        exact (new_one w1 _ _ rfl).from k1
      · have t11 : ((b : Int) != 0) = true := by simp; omega
        have HE : Hid (R = [b, m]) := Lib.hid (by rw [← hR, beq_false hb0]; rfl)
        clear hR hb0
        go_enter Tryd.func45, Tryd.ntmps45
        go_wp2_with fail
        refine HP.out.mono ?_
        rintro e w1 ⟨rfl, k1⟩
        unfold two
        go_wp2
        go_ret
        rw [HE.out]
        exact (new_two w1 _ _ _ _ rfl rfl).from k1

end Go.Proofs.YtpgaebdaakllaaaDoor
