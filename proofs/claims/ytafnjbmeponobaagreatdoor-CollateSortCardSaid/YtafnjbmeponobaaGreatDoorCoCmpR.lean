/-
  The reference's Compare.
-/
import Derived.Test.YtafnjbmeponobaaGreatDoorPkBJ
namespace Go.Proofs.YtafnjbmeponobaaGreatDoor
open Go.RowKit

theorem bytesLess_ord : ∀ a b : List UInt8, Op.bytesLess a b = decide (ordB a b < 0)
  | [], [] => rfl
  | [], _ :: _ => rfl
  | _ :: _, [] => rfl
  | x :: a, y :: b => by
    have ih := bytesLess_ord a b
    rw [Op.bytesLess]
    unfold ordB at ih ⊢
    rw [List.map_cons, List.map_cons, ordL_cons, ih]
    by_cases h1 : x.toNat < y.toNat
    · have h2 : x < y := h1
      simp [h1, h2]
    · have h2 : ¬ x < y := h1
      by_cases h3 : y.toNat < x.toNat
      · have h4 : ¬ x = y := fun e => by subst e; omega
        simp [h1, h2, h3, h4]
      · have h4 : x = y := UInt8.toNat_inj.1 (by omega)
        simp [h4]
theorem str_toList8 (s : List UInt8) : (str s).toList = s := by simp [str]
theorem ordB_neg (a b : List UInt8) : ordB b a = - ordB a b := by
  unfold ordB
  exact ordL_neg _ _
theorem run_gtr8 (x y : ByteArray) (W : World) : (binOp .gtr 9 (.string x) (.string y)).run Tryz.prog W = .ok (.bool !(Op.bytesLess x.toList y.toList || (x.toList == y.toList))) W := rfl
theorem ordB_beq : ∀ a b : List UInt8, (a == b) = decide (ordB a b = 0)
  | [], [] => rfl
  | [], _ :: _ => rfl
  | _ :: _, [] => rfl
  | x :: a, y :: b => by
    have ih := ordB_beq a b
    unfold ordB at ih ⊢
    rw [List.map_cons, List.map_cons, ordL_cons, List.cons_beq_cons, ih]
    by_cases h1 : x.toNat < y.toNat
    · have h4 : ¬ x = y := fun e => by subst e; omega
      simp [h1, h4]
    · by_cases h3 : y.toNat < x.toNat
      · have h4 : ¬ x = y := fun e => by subst e; omega
        simp [h1, h3, h4]
      · have h4 : x = y := UInt8.toNat_inj.1 (by omega)
        simp [h4]
theorem Two.start {w0 : World} : Two w0 w0 w0.heap.size (.slice none 0 0) (.slice none 0 0) [] [] [] :=
  ⟨Below.refl _ _, Nat.le_refl _, World.ownsRow_nil _ _ _ _, World.ownsRow_nil _ _ _ _, fun g h => by simp [Value.ownBlock] at h, fun b hb => by cases hb⟩

set_option maxRecDepth 100000 in
set_option maxHeartbeats 6400000 in
theorem refCompare8_any (A : Option Addr) (n c : Nat) (t : List RuleL) (a b : List UInt8) (w : World) (h : Tab8 w A n c t) (ha : a.length ≤ 60000) (hb : b.length ≤ 60000) :
    Calls Tryz.prog 22 #[.slice A n c, .string (str a), .string (str b)] w fun e w' => e = .returned (.int .i64 (nCmp t a b)) ∧ Below w.heap.size w w' := by
  have HV := Lib.hid (refGood8_any A n c t a w h ha)
  have HV2 := Lib.hid (fun (W : World) (hW : Below w.heap.size w W) => refGood8_any A n c t b W (h.up hW) hb)
  cases hv : goodT t a with
  | false =>
    rw [hv] at HV
    rw [nCmp_bad (.inl hv)]
    clear h hv
    go_enter Tryz.func22, Tryz.ntmps22
    go_wp2_with fail
    refine HV.out.mono ?_
    rintro e w1 ⟨rfl, k1⟩
    go_wp2
    go_ret
    exact ⟨rfl, k1⟩
  | true =>
    rw [hv] at HV
    cases hv2 : goodT t b with
    | false =>
      rw [hv2] at HV2
      rw [nCmp_bad (.inr hv2)]
      clear h hv hv2
      go_enter Tryz.func22, Tryz.ntmps22
      go_wp2_with fail
      refine HV.out.mono ?_
      rintro e w1 ⟨rfl, k1⟩
      go_wp2_with fail
      refine (HV2.out _ k1).mono ?_
      rintro e w2 ⟨rfl, k2⟩
      go_wp2
      go_ret
      exact ⟨rfl, below_next k1 k2⟩
    | true =>
      rw [hv2] at HV2
      have hvT : validT t = true := (good_parts hv).2
      have HPa := Lib.hid (fun (W : World) (hW : Below w.heap.size w W) => refPrimary8_any A n c t a W (h.up hW) ha)
      have HPb := Lib.hid (fun (W : World) (hW : Below w.heap.size w W) => refPrimary8_any A n c t b W (h.up hW) hb)
      have HEa := Lib.hid (fun (W : World) (hW : Below w.heap.size w W) => refElements_any A n c t a W (h.up hW).arr hvT (by omega))
      have HEb := Lib.hid (fun (W : World) (hW : Below w.heap.size w W) => refElements_any A n c t b W (h.up hW).arr hvT (by omega))
      have HDa := Lib.hid (fun W => refDecompose_any a W (by omega))
      have HDb := Lib.hid (fun W => refDecompose_any b W (by omega))
      have hla := elsT_len t a
      have hlb := elsT_len t b
      have hG : nCmp t a b = cmpE (elsT t a) (elsT t b) (nD a) (nD b) := if_pos ⟨hv, hv2⟩
      have hG1 : nPrim t a = primL (elsT t a) := if_pos hv
      have hG2 : nPrim t b = primL (elsT t b) := if_pos hv2
      rw [hG]
      rw [hG1] at HPa
      rw [hG2] at HPb
      obtain ⟨X, hX⟩ : ∃ X, elsT t a = X := ⟨_, rfl⟩
      obtain ⟨Y, hY⟩ : ∃ Y, elsT t b = Y := ⟨_, rfl⟩
      obtain ⟨D, hD⟩ : ∃ D, nD a = D := ⟨_, rfl⟩
      obtain ⟨E, hE⟩ : ∃ E, nD b = E := ⟨_, rfl⟩
      rw [hX] at HPa HEa hla ⊢
      rw [hY] at HPb HEb hlb ⊢
      rw [hD] at HDa ⊢
      rw [hE] at HDb ⊢
      obtain ⟨R, hR⟩ : ∃ R, cmpE X Y D E = R := ⟨_, rfl⟩
      rw [hR]
      unfold cmpE at hR
      have HR := Lib.hid hR
      clear h hv hv2 hvT hG hG1 hG2 hX hY hD hE hR
      go_enter Tryz.func22, Tryz.ntmps22
      go_wp2_with fail
      refine HV.out.mono ?_
      rintro e w1 ⟨rfl, k1⟩
      go_wp2_with fail
      refine (HV2.out _ k1).mono ?_
      rintro e w2 ⟨rfl, k2⟩
      have b2 := below_next k1 k2
      go_wp2_with fail
      refine (HPa.out _ b2).mono ?_
      rintro e w3 ⟨A3, n3, c3, rfl, hA3, k3⟩
      have b3 := below_next b2 k3
      have HA3 := Lib.hid hA3
      clear hA3
      go_wp2_with fail
      refine (HPb.out _ b3).mono ?_
      rintro e w4 ⟨A4, n4, c4, rfl, hA4, k4⟩
      have b4 := below_next b3 k4
      have hn3 : n3 ≤ 1000000000 := by
        have h1 := HA3.out.len
        have h2 : (primL X).length ≤ X.length := by
          unfold primL
          refine Nat.le_trans (List.length_filter_le _ _) ?_
          rw [List.length_map]
          exact Nat.le_refl _
        omega
      have HC4 := Lib.hid (refOrder_any A3 A4 n3 c3 n4 c4 _ _ w4 (HA3.out.up k4) hA4 hn3)
      obtain ⟨c1, hc1⟩ : ∃ r, ordL (primL X) (primL Y) = r := ⟨_, rfl⟩
      rw [hc1] at HC4 HR
      clear hc1 hA4
      go_wp2_with fail
      refine HC4.out.mono ?_
      rintro e w5 ⟨rfl, k5⟩
      have b5 := below_next b4 k5
      by_cases hz1 : c1 = 0
      · subst hz1
        have HR1 : Hid (thenI (ordL (secL X) (secL Y)) (thenI (ordL (terL X) (terL Y)) (ordB D E)) = R) := Lib.hid HR.out
        clear HC4 HA3 HR
        go_wp2_with fail
        refine (HEa.out _ b5).mono ?_
        rintro e w6 ⟨A6, n6, c6, rfl, hE6, k6⟩
        have b6 := below_next b5 k6
        have HE6 := Lib.hid hE6
        clear hE6
        go_wp2_with fail
        refine (HEb.out _ b6).mono ?_
        rintro e w7 ⟨A7, n7, c7, rfl, hE7, k7⟩
        have b7 := below_next b6 k7
        have HNx := Lib.hid HE6.out.len
        have HNy := Lib.hid hE7.len
        have hn6 : n6 ≤ 1000000 := by have := HNx.out; omega
        have hn7 : n7 ≤ 1000000 := by have := HNy.out; omega
        have HE67 := Lib.hid (HE6.out.up k7)
        have HE77 := Lib.hid hE7
        clear hla hlb hE7 HE6
        go_wp2
        go_loopw [10, 11, 14] (fun pv qv iv_ wr => ∃ (k : Nat), k ≤ n6 ∧ iv_ = .int .i64 (k : Int) ∧ Two w7 wr w7.heap.size pv qv (secL (X.take k)) (terL (X.take k)) []) (fun _ _ iv_ _ => n6 - (intOf iv_).toNat)
        case atStart => exact ⟨0, by omega, rfl, Two.start⟩
        case round =>
          obtain ⟨k, hk, rfl, T⟩ := hrel
          by_cases hlt : k < n6
          · have t1 : decide ((k : Int) < (n6 : Int)) = true := by simp; omega
            have t1' : decide (k < n6) = true := by simpa using hlt
            have kz : (k : Int) < (n6 : Int) := by omega
            obtain ⟨a0, o0, rfl, hA0, hca⟩ := HE67.out.some_ ev_len (by decide) (by omega)
            obtain ⟨y, hy⟩ : ∃ y, X[k]? = some y := ⟨_, List.getElem?_eq_getElem (by have := HNx.out; omega)⟩
            have HCe := Lib.hid (fun (W : World) (hW : Below w7.heap.size w7 W) => And.intro ((hW.cell (p := ⟨a0, o0 + k * 3 + 1, none⟩) hA0).trans (hca k y hy 1 _ rfl)) ((hW.cell (p := ⟨a0, o0 + k * 3 + 2, none⟩) hA0).trans (hca k y hy 2 _ rfl)))
            have hs1 : secL (X.take (k + 1)) = secL (X.take k) ++ [y.2.1] := by rw [take_next hy]; simp [secL]
            have hs2 : terL (X.take (k + 1)) = terL (X.take k) ++ [y.2.2] := by rw [take_next hy]; simp [terL]
            have hl1 : (secL (X.take k)).length ≤ 100000000 := by unfold secL; rw [List.length_map, List.length_take]; omega
            have hl2 : (terL (X.take k)).length ≤ 100000000 := by unfold terL; rw [List.length_map, List.length_take]; omega
            obtain ⟨p, sc, te⟩ := y
            simp only at hs1 hs2
            have HS1 := Lib.hid hs1
            have HS2 := Lib.hid hs2
            have d1 := (HCe.out _ T.below).1
            have d2 := (HCe.out _ T.below).2
            simp only at d1 d2
            clear hca hy hs1 hs2
            have g1 := (HCe.out _ T.drew.below).1
            have g2 := (HCe.out _ T.drew.below).2
            have g3 := (HCe.out _ (T.al sc).below).2
            have g4 := (HCe.out _ (T.al te).below).1
            go_wp2
            go_region_law (first
                | (refine step_fst (.tmp 52) (.tmp 58) w7.heap.size u10 sc rfl rfl rfl (T.al sc).drew rfl (by simp) hl1 ?_; intro v59 w59 T; have d1 := (HCe.out _ T.below).1; have d2 := (HCe.out _ T.below).2; have d2a := (HCe.out _ (T.al te).below).2)
                | (refine step_fst (.tmp 52) (.tmp 58) w7.heap.size u10 sc rfl rfl rfl ((T.al sc).al te).drew rfl (by simp) hl1 ?_; intro v59 w59 T; have d1 := (HCe.out _ T.below).1; have d2 := (HCe.out _ T.below).2; have d2a := (HCe.out _ (T.al te).below).2)
                | (refine step_fst (.tmp 52) (.tmp 58) w7.heap.size u10 sc rfl rfl rfl ((T.al te).al sc).drew rfl (by simp) hl1 ?_; intro v59 w59 T; have d1 := (HCe.out _ T.below).1; have d2 := (HCe.out _ T.below).2; have d2a := (HCe.out _ (T.al te).below).2)
                | (refine step_fst (.tmp 52) (.tmp 58) w7.heap.size u10 sc rfl rfl rfl (T.al sc) rfl (by simp) hl1 ?_; intro v59 w59 T; have d1 := (HCe.out _ T.below).1; have d2 := (HCe.out _ T.below).2; have d2a := (HCe.out _ (T.al te).below).2)
                | (refine step_fst (.tmp 52) (.tmp 58) w7.heap.size u10 sc rfl rfl rfl T rfl (by simp) hl1 ?_; intro v59 w59 T; have d1 := (HCe.out _ T.below).1; have d2 := (HCe.out _ T.below).2; have d2a := (HCe.out _ (T.al te).below).2)
                | (refine step_snd (.tmp 60) (.tmp 66) w7.heap.size u11 te rfl rfl rfl (T.al te).drew rfl (by simp) hl2 ?_; intro v67 w67 T; have d1 := (HCe.out _ T.below).1; have d2 := (HCe.out _ T.below).2; have d1a := (HCe.out _ (T.al sc).below).1)
                | (refine step_snd (.tmp 60) (.tmp 66) w7.heap.size u11 te rfl rfl rfl ((T.al sc).al te).drew rfl (by simp) hl2 ?_; intro v67 w67 T; have d1 := (HCe.out _ T.below).1; have d2 := (HCe.out _ T.below).2; have d1a := (HCe.out _ (T.al sc).below).1)
                | (refine step_snd (.tmp 60) (.tmp 66) w7.heap.size u11 te rfl rfl rfl ((T.al te).al sc).drew rfl (by simp) hl2 ?_; intro v67 w67 T; have d1 := (HCe.out _ T.below).1; have d2 := (HCe.out _ T.below).2; have d1a := (HCe.out _ (T.al sc).below).1)
                | (refine step_snd (.tmp 60) (.tmp 66) w7.heap.size u11 te rfl rfl rfl (T.al te) rfl (by simp) hl2 ?_; intro v67 w67 T; have d1 := (HCe.out _ T.below).1; have d2 := (HCe.out _ T.below).2; have d1a := (HCe.out _ (T.al sc).below).1)
                | (refine step_snd (.tmp 60) (.tmp 66) w7.heap.size u11 te rfl rfl rfl T rfl (by simp) hl2 ?_; intro v67 w67 T; have d1 := (HCe.out _ T.below).1; have d2 := (HCe.out _ T.below).2; have d1a := (HCe.out _ (T.al sc).below).1))
            all_goals
              go_wp2
              go_roundw
              case rel => exact ⟨k + 1, by omega, by go_num, by rw [HS1.out, HS2.out]; exact ⟨T.below, T.size, T.fst, T.snd, T.apart, fun b hb => by cases hb⟩⟩
              case measure => simp [intOf]; omega
          · obtain rfl : k = n6 := by omega
            have t1 : decide ((k : Int) < (k : Int)) = false := by simp
            have t1' : decide (k < k) = false := by simp
            have eX : X.take k = X := List.take_of_length_le (by rw [HNx.out]; exact Nat.le_refl _)
            rw [eX] at T
            obtain ⟨w8, hw8⟩ : ∃ x : World, x = wr := ⟨_, rfl⟩
            subst hw8
            have hA10 := Arr.of_own T.fst
            have hA11 := Arr.of_own T.snd
            have b8 := below_next b7 T.below
            obtain ⟨A10, m10, c10, e10⟩ := hA10.form3
            obtain ⟨A11, m11, c11, e11⟩ := hA11.form3
            subst e10 e11
            have hm10 : m10 ≤ 1000000000 := by have h1 := hA10.len; unfold secL at h1; rw [List.length_map, HNx.out] at h1; omega
            have hm11 : m11 ≤ 1000000000 := by have h1 := hA11.len; unfold terL at h1; rw [List.length_map, HNx.out] at h1; omega
            have HE78 := Lib.hid (HE77.out.up T.below)
            have HA10 := Lib.hid hA10
            have HA11 := Lib.hid hA11
            clear eX T hA10 hA11 HE77 HE67 t1 t1' hlt
            go_wp2
            go_loopw [12, 13, 15] (fun pv qv iv_ wr => ∃ (k : Nat), k ≤ n7 ∧ iv_ = .int .i64 (k : Int) ∧ Two w8 wr w8.heap.size pv qv (secL (Y.take k)) (terL (Y.take k)) []) (fun _ _ iv_ _ => n7 - (intOf iv_).toNat)
            case atStart => exact ⟨0, by omega, rfl, Two.start⟩
            case round =>
              obtain ⟨k, hk, rfl, T⟩ := hrel
              by_cases hlt : k < n7
              · have t1 : decide ((k : Int) < (n7 : Int)) = true := by simp; omega
                have t1' : decide (k < n7) = true := by simpa using hlt
                have kz : (k : Int) < (n7 : Int) := by omega
                obtain ⟨a0, o0, rfl, hA0, hca⟩ := HE78.out.some_ ev_len (by decide) (by omega)
                obtain ⟨y, hy⟩ : ∃ y, Y[k]? = some y := ⟨_, List.getElem?_eq_getElem (by have := HNy.out; omega)⟩
                have HCe := Lib.hid (fun (W : World) (hW : Below w8.heap.size w8 W) => And.intro ((hW.cell (p := ⟨a0, o0 + k * 3 + 1, none⟩) hA0).trans (hca k y hy 1 _ rfl)) ((hW.cell (p := ⟨a0, o0 + k * 3 + 2, none⟩) hA0).trans (hca k y hy 2 _ rfl)))
                have hs1 : secL (Y.take (k + 1)) = secL (Y.take k) ++ [y.2.1] := by rw [take_next hy]; simp [secL]
                have hs2 : terL (Y.take (k + 1)) = terL (Y.take k) ++ [y.2.2] := by rw [take_next hy]; simp [terL]
                have hl1 : (secL (Y.take k)).length ≤ 100000000 := by unfold secL; rw [List.length_map, List.length_take]; omega
                have hl2 : (terL (Y.take k)).length ≤ 100000000 := by unfold terL; rw [List.length_map, List.length_take]; omega
                obtain ⟨p, sc, te⟩ := y
                simp only at hs1 hs2
                have HS1 := Lib.hid hs1
                have HS2 := Lib.hid hs2
                have d1 := (HCe.out _ T.below).1
                have d2 := (HCe.out _ T.below).2
                simp only at d1 d2
                clear hca hy hs1 hs2
                have g1 := (HCe.out _ T.drew.below).1
                have g2 := (HCe.out _ T.drew.below).2
                have g3 := (HCe.out _ (T.al sc).below).2
                have g4 := (HCe.out _ (T.al te).below).1
                go_wp2
                go_region_law (first
                    | (refine step_fst (.tmp 74) (.tmp 80) w8.heap.size u12 sc rfl rfl rfl (T.al sc).drew rfl (by simp) hl1 ?_; intro v81 w81 T; have d1 := (HCe.out _ T.below).1; have d2 := (HCe.out _ T.below).2; have d2a := (HCe.out _ (T.al te).below).2)
                    | (refine step_fst (.tmp 74) (.tmp 80) w8.heap.size u12 sc rfl rfl rfl ((T.al sc).al te).drew rfl (by simp) hl1 ?_; intro v81 w81 T; have d1 := (HCe.out _ T.below).1; have d2 := (HCe.out _ T.below).2; have d2a := (HCe.out _ (T.al te).below).2)
                    | (refine step_fst (.tmp 74) (.tmp 80) w8.heap.size u12 sc rfl rfl rfl ((T.al te).al sc).drew rfl (by simp) hl1 ?_; intro v81 w81 T; have d1 := (HCe.out _ T.below).1; have d2 := (HCe.out _ T.below).2; have d2a := (HCe.out _ (T.al te).below).2)
                    | (refine step_fst (.tmp 74) (.tmp 80) w8.heap.size u12 sc rfl rfl rfl (T.al sc) rfl (by simp) hl1 ?_; intro v81 w81 T; have d1 := (HCe.out _ T.below).1; have d2 := (HCe.out _ T.below).2; have d2a := (HCe.out _ (T.al te).below).2)
                    | (refine step_fst (.tmp 74) (.tmp 80) w8.heap.size u12 sc rfl rfl rfl T rfl (by simp) hl1 ?_; intro v81 w81 T; have d1 := (HCe.out _ T.below).1; have d2 := (HCe.out _ T.below).2; have d2a := (HCe.out _ (T.al te).below).2)
                    | (refine step_snd (.tmp 82) (.tmp 88) w8.heap.size u13 te rfl rfl rfl (T.al te).drew rfl (by simp) hl2 ?_; intro v89 w89 T; have d1 := (HCe.out _ T.below).1; have d2 := (HCe.out _ T.below).2; have d1a := (HCe.out _ (T.al sc).below).1)
                    | (refine step_snd (.tmp 82) (.tmp 88) w8.heap.size u13 te rfl rfl rfl ((T.al sc).al te).drew rfl (by simp) hl2 ?_; intro v89 w89 T; have d1 := (HCe.out _ T.below).1; have d2 := (HCe.out _ T.below).2; have d1a := (HCe.out _ (T.al sc).below).1)
                    | (refine step_snd (.tmp 82) (.tmp 88) w8.heap.size u13 te rfl rfl rfl ((T.al te).al sc).drew rfl (by simp) hl2 ?_; intro v89 w89 T; have d1 := (HCe.out _ T.below).1; have d2 := (HCe.out _ T.below).2; have d1a := (HCe.out _ (T.al sc).below).1)
                    | (refine step_snd (.tmp 82) (.tmp 88) w8.heap.size u13 te rfl rfl rfl (T.al te) rfl (by simp) hl2 ?_; intro v89 w89 T; have d1 := (HCe.out _ T.below).1; have d2 := (HCe.out _ T.below).2; have d1a := (HCe.out _ (T.al sc).below).1)
                    | (refine step_snd (.tmp 82) (.tmp 88) w8.heap.size u13 te rfl rfl rfl T rfl (by simp) hl2 ?_; intro v89 w89 T; have d1 := (HCe.out _ T.below).1; have d2 := (HCe.out _ T.below).2; have d1a := (HCe.out _ (T.al sc).below).1))
                all_goals
                  go_wp2
                  go_roundw
                  case rel => exact ⟨k + 1, by omega, by go_num, by rw [HS1.out, HS2.out]; exact ⟨T.below, T.size, T.fst, T.snd, T.apart, fun b hb => by cases hb⟩⟩
                  case measure => simp [intOf]; omega
              · obtain rfl : k = n7 := by omega
                have t1 : decide ((k : Int) < (k : Int)) = false := by simp
                have t1' : decide (k < k) = false := by simp
                have eY : Y.take k = Y := List.take_of_length_le (by rw [HNy.out]; exact Nat.le_refl _)
                rw [eY] at T
                obtain ⟨w9, hw9⟩ : ∃ x : World, x = wr := ⟨_, rfl⟩
                subst hw9
                have hA12 := Arr.of_own T.fst
                have hA13 := Arr.of_own T.snd
                have b9 := below_next b8 T.below
                obtain ⟨A12, m12, c12, e12⟩ := hA12.form3
                obtain ⟨A13, m13, c13, e13⟩ := hA13.form3
                subst e12 e13
                have HC9 := Lib.hid (refOrder_any A10 A12 m10 c10 m12 c12 _ _ w9 (HA10.out.up T.below) hA12 hm10)
                have HC10 := Lib.hid (fun (W : World) (hW : Below w9.heap.size w9 W) => refOrder_any A11 A13 m11 c11 m13 c13 _ _ W ((HA11.out.up T.below).up hW) (hA13.up hW) hm11)
                obtain ⟨c2, hc2⟩ : ∃ r, ordL (secL X) (secL Y) = r := ⟨_, rfl⟩
                obtain ⟨c3, hc3⟩ : ∃ r, ordL (terL X) (terL Y) = r := ⟨_, rfl⟩
                rw [hc2] at HC9 HR1
                rw [hc3] at HC10 HR1
                clear eY T hA12 hA13 HA10 HA11 HE78 t1 t1' hlt hc2 hc3
                go_wp2_with fail
                refine HC9.out.mono ?_
                rintro e w10 ⟨rfl, k10⟩
                have b10 := below_next b9 k10
                by_cases hz2 : c2 = 0
                · subst hz2
                  have HR2 : Hid (thenI c3 (ordB D E) = R) := Lib.hid HR1.out
                  have HC11 := Lib.hid (HC10.out _ k10)
                  clear HC9 HC10 HR1
                  go_wp2_with fail
                  refine HC11.out.mono ?_
                  rintro e w11 ⟨rfl, k11⟩
                  have b11 := below_next b10 k11
                  by_cases hz3 : c3 = 0
                  · subst hz3
                    have HR3 : Hid (ordB D E = R) := Lib.hid HR2.out
                    clear HC11 HR2
                    go_wp2_with fail
                    refine (HDa.out _).mono ?_
                    rintro e w12 ⟨rfl, k12⟩
                    have b12 := below_next b11 k12
                    go_wp2_with fail
                    refine (HDb.out _).mono ?_
                    rintro e w13 ⟨rfl, k13⟩
                    have b13 := below_next b12 k13
                    have l1 : Op.bytesLess (str D).toList (str E).toList = decide (ordB D E < 0) := by rw [str_toList8, str_toList8]; exact bytesLess_ord D E
                    have l2 : ((str D).toList == (str E).toList) = decide (ordB D E = 0) := by rw [str_toList8, str_toList8]; exact ordB_beq D E
                    rw [HR3.out] at l1 l2
                    have hv : R = -1 ∨ R = 0 ∨ R = 1 := by rw [← HR3.out]; exact ordL_vals _ _
                    clear HR3
                    rcases hv with rfl | rfl | rfl
                    · have q1 : Op.bytesLess (str D).toList (str E).toList = true := by rw [l1]; rfl
                      clear l1 l2
                      go_wp2
                      go_ret
                      exact ⟨rfl, b13⟩
                    · have q1 : Op.bytesLess (str D).toList (str E).toList = false := by rw [l1]; rfl
                      have q2 : ((str D).toList == (str E).toList) = true := by rw [l2]; rfl
                      have q4 : ∀ W, (binOp .gtr 9 (.string (str D)) (.string (str E))).run Tryz.prog W = .ok (.bool false) W := fun W => by rw [run_gtr8, q1, q2]; rfl
                      clear l1 l2
                      go_wp2
                      go_ret
                      exact ⟨rfl, b13⟩
                    · have q1 : Op.bytesLess (str D).toList (str E).toList = false := by rw [l1]; rfl
                      have q2 : ((str D).toList == (str E).toList) = false := by rw [l2]; rfl
                      have q4 : ∀ W, (binOp .gtr 9 (.string (str D)) (.string (str E))).run Tryz.prog W = .ok (.bool true) W := fun W => by rw [run_gtr8, q1, q2]; rfl
                      clear l1 l2
                      go_wp2
                      go_ret
                      exact ⟨rfl, b13⟩
                  · have t9 : (c3 != 0) = true := by simp [hz3]
                    have HE : Hid (c3 = R) := Lib.hid (by rw [← HR2.out]; unfold thenI; rw [if_neg hz3])
                    clear hz3
                    go_wp2
                    go_ret
                    rw [← HE.out]
                    exact ⟨rfl, b11⟩
                · have t9 : (c2 != 0) = true := by simp [hz2]
                  have HE : Hid (c2 = R) := Lib.hid (by rw [← HR1.out]; unfold thenI; rw [if_neg hz2])
                  clear hz2
                  go_wp2
                  go_ret
                  rw [← HE.out]
                  exact ⟨rfl, b10⟩
      · have t9 : (c1 != 0) = true := by simp [hz1]
        have HE : Hid (c1 = R) := Lib.hid (by rw [← HR.out]; unfold thenI; rw [if_neg hz1])
        clear hz1
        go_wp2
        go_ret
        rw [← HE.out]
        exact ⟨rfl, b5⟩

end Go.Proofs.YtafnjbmeponobaaGreatDoor
