/-
  The examples of the document hold: awake returns true.
-/
import Derived.Test.YtheadamdhjhnpaaDoorOut
namespace Go.Proofs.YtheadamdhjhnpaaDoor
open Go.RowKit

theorem lit_ints (w : World) (l : List Int) (n : Nat) (hn : l.length = n) (h : n ≤ 1000) : Ints (w.alloc (.cells (l.map iv).toArray 3)) (.slice (some ⟨w.heap.size, 0, none⟩) n n) l := by
  subst hn
  refine ⟨_, _, _, rfl, by omega, .inr ⟨_, _, rfl, Nat.le_refl _, fun _ => by simp, fun i u hu => ?_⟩⟩
  rw [plain_add, (Box.made w 3 _).cell]
  simp [hu]
theorem nI_small {n : Nat} (h0 : n ≠ 0) (h : n < 65536) : nI n = [(n : Int)] := by unfold nI; rw [dg_small h0 h]; rfl
theorem resI_ok (n : Nat) : resI (.ok n) = nI n := rfl
theorem nI_two {n a b : Nat} (hb0 : b ≠ 0) (hb : b < 65536) (ha : a < 65536) (hn : n = a + 65536 * b) : nI n = [(a : Int), (b : Int)] := by
  unfold nI
  rw [dg_pos (show n ≠ 0 by omega), show n % 65536 = a from by omega, show n / 65536 = b from by omega, dg_small hb0 hb]
  rfl
theorem small_pw {n : Nat} (h : n < 4294967296) : n < pw 128 := by
  refine Nat.lt_of_lt_of_le (show n < pw 2 from ?_) (pw_mono (by omega))
  have : pw 2 = 4294967296 := by decide
  omega
theorem limit_small {n : Nat} (h : n < 4294967296) : limit n = .ok n := if_pos (small_pw h)
theorem decS_bil : decS 1000000000 = [49, 48, 48, 48, 48, 48, 48, 48, 48, 48] := by
  have h := strip_dec [49, 48, 48, 48, 48, 48, 48, 48, 48, 48] (by decide)
  have e : decV [49, 48, 48, 48, 48, 48, 48, 48, 48, 48] = 1000000000 := by decide
  rw [e] at h
  rw [← h]
  decide
theorem aw_of : ofR 65536 = .ok 65536 := rfl
theorem aw_thousand : numOf [1000] = some 1000 := by
  have := numOf_nI (n := 1000) (small_pw (by omega))
  rwa [nI_small (by omega) (by omega)] at this
theorem aw_pow : powR (numOf [1000]) 3 = .ok 1000000000 := by
  rw [aw_thousand]
  show (if (3 : Int) < 0 ∨ 1000 < (3 : Int) then Except.error 2 else limit (1000 ^ (3 : Int).toNat)) = _
  rw [if_neg (by omega)]
  exact limit_small (n := 1000000000) (by omega)
theorem aw_bil : numOf (resI (.ok 1000000000)) = some 1000000000 := numOf_nI (small_pw (by omega))
theorem aw_show : showS (numOf (resI (.ok 1000000000))) = [49, 48, 48, 48, 48, 48, 48, 48, 48, 48] := by
  rw [aw_bil]
  show (if (1000000000 : Nat) = 0 then [48] else decS 1000000000) = _
  rw [if_neg (by omega), decS_bil]
theorem aw_showC : showC (numOf (resI (.ok 1000000000))) = 0 := by rw [aw_bil]; rfl
theorem aw_hundred : numOf [34464, 1] = some 100000 := by
  have := numOf_nI (n := 100000) (small_pw (by omega))
  rwa [nI_two (n := 100000) (a := 34464) (b := 1) (by omega) (by omega) (by omega) (by omega)] at this
theorem aw_seven : numOf [7] = some 7 := by
  have := numOf_nI (n := 7) (small_pw (by omega))
  rwa [nI_small (by omega) (by omega)] at this
theorem aw_q : divQ (numOf [34464, 1]) (numOf [7]) = .ok 14285 := by rw [aw_hundred, aw_seven]; rfl
theorem aw_r : divR (numOf [34464, 1]) (numOf [7]) = .ok 5 := by rw [aw_hundred, aw_seven]; rfl
theorem aw_same0 : decide (resI (.ok 65536) = [0, 1]) = true := by
  rw [resI_ok, nI_two (n := 65536) (a := 0) (b := 1) (by omega) (by omega) (by omega) (by omega)]
  rfl
theorem aw_same1 : decide (resI (.ok 14285) = [14285]) = true := by rw [resI_ok, nI_small (by omega) (by omega)]; rfl
theorem aw_same2 : decide (resI (.ok 5) = [5]) = true := by rw [resI_ok, nI_small (by omega) (by omega)]; rfl

set_option maxRecDepth 20000 in
set_option maxHeartbeats 3200000 in
theorem awake_any (w : World) : Calls Tryd.prog 12 #[] w fun e w' => e = .returned (.bool true) ∧ Below w.heap.size w w' := by
  have hst : (str [49, 48, 48, 48, 48, 48, 48, 48, 48, 48]).toList = [49, 48, 48, 48, 48, 48, 48, 48, 48, 48] := str_toList _
  go_enter Tryd.func12, Tryd.ntmps12
  go_wp2_with fail
  refine (natOf_ok w 65536 (by omega) _ _ (Below.refl _ _) aw_of).mono ?_
  rintro e w1 ⟨a, rfl, ha, k1, n1⟩
  go_wp2_with fail
  refine (natPower_ok w _ [1000] 3 _ _ (below_new k1 _) (lit_ints w1 [1000] 1 rfl (by omega)) aw_pow).mono ?_
  rintro e w2 ⟨b, rfl, hb, k2, n2⟩
  have ha := (ha.up ((Below.refl _ _).alloc (Nat.le_refl _) _)).up n2
  go_wp2_with fail
  refine (natShow_ok w b _ _ _ k2 hb aw_show aw_showC).mono ?_
  rintro e w3 ⟨rfl, k3, n3⟩
  have ha := ha.up n3
  go_wp2_with fail
  have hl1 := (lit_ints w3 [34464, 1] 2 rfl (by omega)).up ((Below.refl _ _).alloc (Nat.le_refl _) (.cells ([7].map iv).toArray 3))
  have hl2 := lit_ints (w3.alloc (.cells ([34464, 1].map iv).toArray 3)) [7] 1 rfl (by omega)
  rw [show (w3.alloc (.cells ([34464, 1].map iv).toArray 3)).heap.size = w3.heap.size + 1 from by simp] at hl2
  refine (natDivide_ok w _ _ [34464, 1] [7] _ _ _ (below_new (below_new k3 _) _) hl1 hl2 aw_q aw_r).mono ?_
  rintro e w4 ⟨q, r, rfl, hq, hr, k4, n4⟩
  have ha := ((ha.up ((Below.refl _ _).alloc (Nat.le_refl _) _)).up ((Below.refl _ _).alloc (Nat.le_refl _) _)).up n4
  clear hl1 hl2
  go_wp2_with fail
  refine (same_at w _ _ _ [0, 1] true _ (below_new k4 _) (ha.up ((Below.refl _ _).alloc (Nat.le_refl _) _)) (lit_ints w4 [0, 1] 2 rfl (by omega)) aw_same0).mono ?_
  rintro e w5 ⟨rfl, k5, n5⟩
  have hq := (hq.up ((Below.refl _ _).alloc (Nat.le_refl _) _)).up n5
  have hr := (hr.up ((Below.refl _ _).alloc (Nat.le_refl _) _)).up n5
  go_wp2_with fail
  refine (same_at w _ _ _ [14285] true _ (below_new k5 _) (hq.up ((Below.refl _ _).alloc (Nat.le_refl _) _)) (lit_ints w5 [14285] 1 rfl (by omega)) aw_same1).mono ?_
  rintro e w6 ⟨rfl, k6, n6⟩
  have hr := (hr.up ((Below.refl _ _).alloc (Nat.le_refl _) _)).up n6
  go_wp2_with fail
  refine (same_at w _ _ _ [5] true _ (below_new k6 _) (hr.up ((Below.refl _ _).alloc (Nat.le_refl _) _)) (lit_ints w6 [5] 1 rfl (by omega)) aw_same2).mono ?_
  rintro e w7 ⟨rfl, k7, n7⟩
  go_wp2_with fail
  refine (natValid_at _ [] true _ (Ints.nil_ _) rfl).mono ?_
  rintro e w8 ⟨rfl, rfl⟩
  go_wp2
  go_ret
  exact ⟨rfl, k7⟩

end Go.Proofs.YtheadamdhjhnpaaDoor
