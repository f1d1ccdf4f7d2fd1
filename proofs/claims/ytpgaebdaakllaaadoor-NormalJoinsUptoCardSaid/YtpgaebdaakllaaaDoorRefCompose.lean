/-
  The reference's Compose and Is.
-/
import Derived.Test.YtpgaebdaakllaaaDoorRefForms
namespace Go.Proofs.YtpgaebdaakllaaaDoor
open Go.RowKit

theorem drop_cons {l : List Nat} {i y : Nat} (h : l[i]? = some y) : l.drop i = y :: l.drop (i + 1) := by
  obtain ⟨h1, h2⟩ := List.getElem?_eq_some_iff.1 h
  rw [List.drop_eq_getElem_cons h1, h2]
theorem get_of_drop {l r : List Nat} {i y : Nat} (h : l.drop i = y :: r) : l[i]? = some y := by
  have h2 := congrArg List.head? h
  rw [List.head?_drop] at h2
  exact h2
theorem compF_mark {y : Nat} {r : List Nat} (h : isM y = true) : compF (y :: r) = y :: compF r := by rw [compF, if_pos h]
theorem compF_base {y : Nat} {r : List Nat} (h : ¬ isM y = true) : compF (y :: r) = (runF y [] (r.takeWhile isM)).1 :: ((runF y [] (r.takeWhile isM)).2 ++ compF (r.dropWhile isM)) := by rw [compF, if_neg h]
theorem run_yes {c y : Nat} {left t : List Nat} (h : compR c y ≠ 0) (h2 : (left.any fun k => Nat.beq (clM k) (clM y)) = false) : runF c left (y :: t) = runF (compR c y) left t := by rw [runF, if_pos ⟨h, h2⟩]
theorem run_no {c y : Nat} {left t : List Nat} (h : ¬ (compR c y ≠ 0 ∧ (left.any fun k => Nat.beq (clM k) (clM y)) = false)) : runF c left (y :: t) = runF c (left ++ [y]) t := by rw [runF, if_neg h]
theorem any_next {p : Nat → Bool} {l : List Nat} {k c : Nat} (h : l[k]? = some c) : (l.take (k + 1)).any p = ((l.take k).any p || p c) := by
  rw [take_next h, List.any_append]
  simp
theorem compF_len : ∀ (n : Nat) (d : List Nat), d.length ≤ n → (compF d).length ≤ d.length
  | _, [], _ => by rw [compF]; simp
  | 0, _ :: _, hn => by simp at hn
  | n + 1, c :: r, hn => by
    rw [compF]
    split
    · have := compF_len n r (by simp at hn; omega)
      simp
      omega
    · have hlen := (List.dropWhile_suffix isM (l := r)).length_le
      have h1 := compF_len n (r.dropWhile isM) (by simp at hn; omega)
      have h2 : (r.takeWhile isM).length + (r.dropWhile isM).length = r.length := by
        rw [← List.length_append, List.takeWhile_append_dropWhile]
      have h3 : (runF c [] (r.takeWhile isM)).2.length ≤ (r.takeWhile isM).length := by
        rcases run_cases c (r.takeWhile isM) [] with e | ⟨A, m, B, e1, e2, e3, e4⟩
        · rw [e]; simp
        · rw [e4, e1]; simp
      simp
      omega

set_option maxRecDepth 100000 in
set_option maxHeartbeats 6400000 in
theorem refCompose_any (s : List UInt8) (w : World) (hlen : s.length ≤ 100000) :
    Calls Tryd.prog 14 #[.string (str s)] w fun e w' => e = .returned (.string (str (nC s))) ∧ Below w.heap.size w w' := by
  have HD := Lib.hid (refDecomposed_any s w hlen)
  obtain ⟨l, hl⟩ : ∃ l, dcF ((decR s).getD []) = l := ⟨_, rfl⟩
  have hl1 := dcF_len (nL s)
  have hl2 := nL_len s
  have hll : l.length ≤ 200000 := by rw [← hl]; unfold nL at hl1 hl2; omega
  have HN : Hid (nC s = encL (compF l)) := Lib.hid (by rw [← hl]; rfl)
  have HOK : Hid (∀ c ∈ compF l, okC c) := Lib.hid (fun c hc => ok_of_has (compF_has _ l (Nat.le_refl _) (by rw [← hl]; exact dcF_has (nL_has s)) c hc))
  have HCL := Lib.hid (compF_len _ l (Nat.le_refl _))
  rw [hl] at HD
  clear hl hl1 hl2
  go_enter Tryd.func14, Tryd.ntmps14
  go_wp2_with fail
  refine HD.out.mono ?_
  rintro e w1 ⟨v, rfl, hown, hb1⟩
  have hA := Arr.of_own hown
  obtain ⟨n, hn⟩ : ∃ n, l.length = n := ⟨_, rfl⟩
  rw [hn] at hll
  obtain ⟨A, cp, rfl⟩ := hA.form
  rw [hn] at hA ⊢
  have HL := Lib.hid hn
  clear hn hown HD
  go_wp2
  go_loopw [4, 5] (fun v i wr => ∃ (k : Nat) (O : List Nat), k ≤ n ∧ i = .int .i64 (k : Int) ∧ Hid (O ++ compF (l.drop k) = compF l) ∧ O.length ≤ 1000000 ∧ wr.ownsRow w1.heap.size 3 1 v O.length (O.map nv) ∧ Below w1.heap.size w1 wr) (fun _ i _ => n - (intOf i).toNat)
  case atStart => exact ⟨0, [], by omega, rfl, Lib.hid rfl, by simp, World.ownsRow_nil _ _ _ _, Below.refl _ _⟩
  case round =>
    obtain ⟨k, O, hk, rfl, HO, hOl, hown, hb⟩ := hrel
    have hbs := hb.size
    have hOl2 : O.length ≤ 200000 := by
      have h1 := congrArg List.length HO.out
      rw [List.length_append] at h1
      have := HCL.out
      rw [HL.out] at this
      omega
    by_cases hlt : k < n
    · have i1 : decide ((k : Int) < (n : Int)) = true := by simp; omega
      obtain ⟨b0, o0, rfl, hB0, hc0⟩ := hA.some_ (by omega)
      obtain ⟨x, hx⟩ : ∃ a, l[k]? = some a := ⟨_, List.getElem?_eq_getElem (by have := HL.out; omega)⟩
      have d0 := (hb.cell (p := ⟨b0, o0 + k, none⟩) hB0).trans (hc0 k x hx)
      simp only [nv] at d0
      have kz : (k : Int) < (n : Int) := by omega
      have HC := refClassM_any x wr
      have HDr := Lib.hid (drop_cons hx)
      obtain ⟨kc, hkc⟩ : ∃ kc, clM x = kc := ⟨_, rfl⟩
      rw [hkc] at HC
      have HC := Lib.hid HC
      by_cases h0 : 0 < kc
      · have t1 : decide (0 < kc) = true := by simpa using h0
        have t1' : decide ((0 : Int) < (kc : Int)) = true := by simp; omega
        have HO2 : Hid ((O ++ [x]) ++ compF (l.drop (k + 1)) = compF l) := Lib.hid (by
          rw [← HO.out, HDr.out, compF_mark (isM_pos.2 (by omega))]
          simp)
        have hOl3 : (O ++ [x]).length ≤ 1000000 := by rw [List.length_append, List.length_singleton]; omega
        clear hc0 hx hkc h0
        go_wp2_with fail
        refine HC.out.mono ?_
        rintro e w2 ⟨rfl, q2, rfl⟩
        have hown2 := own_drewN hown q2
        go_wp2_with (at_builtin; refine append_int (wr.drewN q2) rfl (.tmp 25) (.tmp 30) rfl w1.heap.size u4 O rfl hown2 x _ rfl rfl (by omega) hbs ?_; intro r1 w3 hown3 hb3)
        go_roundw
        case rel => exact ⟨k + 1, O ++ [x], by omega, by go_num, HO2, hOl3, hown3, (below_drewN hb q2).trans hb3⟩
        case measure => simp [intOf]; omega
      · have t1 : decide (0 < kc) = false := by simp; omega
        have t1' : decide ((0 : Int) < (kc : Int)) = false := by simp; omega
        obtain ⟨R, hR⟩ : ∃ R, runF x [] ((l.drop (k + 1)).takeWhile isM) = R := ⟨_, rfl⟩
        obtain ⟨D, hD⟩ : ∃ D, (l.drop (k + 1)).dropWhile isM = D := ⟨_, rfl⟩
        have HO2 : Hid (O ++ (R.1 :: (R.2 ++ compF D)) = compF l) := Lib.hid (by
          rw [← HO.out, HDr.out, compF_base (fun h => by have := isM_pos.1 h; omega), hR, hD])
        have HR := Lib.hid hR
        have HDD := Lib.hid hD
        have HC0 := Lib.hid hc0
        clear hc0 hx hkc h0 hR hD
        go_wp2_with fail
        refine HC.out.mono ?_
        rintro e w2 ⟨rfl, q2, rfl⟩
        have hownW := own_drewN hown q2
        have hbW := below_drewN hb q2
        clear hown hb d0 hbs
        generalize wr.drewN q2 = W at hownW hbW ⊢
        have hWs := hbW.size
        have d0 : W.cell? ⟨b0, o0 + k, none⟩ = some (nv x) := (hbW.cell (p := ⟨b0, o0 + k, none⟩) hB0).trans (HC0.out k x (get_of_drop HDr.out))
        simp only [nv] at d0
        go_wp2
        go_loopw [5, 6, 7] (fun i c lv wr2 => ∃ (j c1 : Nat) (left : List Nat), j ≤ n ∧ k + 1 ≤ j ∧ i = .int .i64 (j : Int) ∧ c = .int .i64 (c1 : Int) ∧ left.length ≤ j ∧ Hid (runF c1 left ((l.drop j).takeWhile isM) = R) ∧ Hid ((l.drop j).dropWhile isM = D) ∧
          wr2.ownsRow W.heap.size 3 1 lv left.length (left.map nv) ∧ Below W.heap.size W wr2) (fun i _ _ _ => n - (intOf i).toNat)
        case atStart => exact ⟨k + 1, x, [], by omega, by omega, by go_num, rfl, by simp, HR, HDD, World.ownsRow_nil _ _ _ _, Below.refl _ _⟩
        case round =>
          obtain ⟨j, c1, left, hj, hkj, rfl, rfl, hleft, HRj, HDj, hownL, hb2⟩ := hrel
          have hb2s := hb2.size
          have hbw2 : Below w1.heap.size w1 wr := below_next hbW hb2
          by_cases hjl : j < n
          · have j1 : decide ((j : Int) < (n : Int)) = true := by simp; omega
            have jz : (j : Int) < (n : Int) := by omega
            obtain ⟨y, hy⟩ : ∃ a, l[j]? = some a := ⟨_, List.getElem?_eq_getElem (by have := HL.out; omega)⟩
            have d1 := (hbw2.cell (p := ⟨b0, o0 + j, none⟩) hB0).trans (HC0.out j y hy)
            simp only [nv] at d1
            have HDr2 := Lib.hid (drop_cons hy)
            have HCy := Lib.hid (fun Wx => refClassM_any y Wx)
            obtain ⟨ky, hky⟩ : ∃ ky, clM y = ky := ⟨_, rfl⟩
            have HKY := Lib.hid hky
            rw [hky] at HCy
            clear hy hky
            by_cases hy0 : 0 < ky
            · have t2 : decide (0 < ky) = true := by simpa using hy0
              have t2' : decide ((0 : Int) < (ky : Int)) = true := by simp; omega
              have hym : isM y = true := isM_pos.2 (by rw [HKY.out]; exact hy0)
              have HRy : Hid (runF c1 left (y :: (l.drop (j + 1)).takeWhile isM) = R) := Lib.hid (by
                have h := HRj.out
                rw [HDr2.out, List.takeWhile_cons, if_pos hym] at h
                exact h)
              have HDy : Hid ((l.drop (j + 1)).dropWhile isM = D) := Lib.hid (by
                have h := HDj.out
                rw [HDr2.out, List.dropWhile_cons, if_pos hym] at h
                exact h)
              clear hym
              go_wp2_with fail
              refine (HCy.out _).mono ?_
              rintro e w3 ⟨rfl, q3, rfl⟩
              have hownL3 := own_drewN hownL q3
              have hb3 := below_drewN hb2 q3
              clear hownL hb2 d1 hbw2 hb2s
              generalize wr.drewN q3 = W3 at hownL3 hb3 ⊢
              have hb3s := hb3.size
              have hbw3 : Below w1.heap.size w1 W3 := below_next hbW hb3
              have d1 : W3.cell? ⟨b0, o0 + j, none⟩ = some (nv y) := (hbw3.cell (p := ⟨b0, o0 + j, none⟩) hB0).trans (HC0.out j y (get_of_drop HDr2.out))
              simp only [nv] at d1
              have hAL := Arr.of_own hownL3
              obtain ⟨AL, cL, hvL⟩ := hAL.form
              obtain ⟨N, hN⟩ : ∃ N, left.length = N := ⟨_, rfl⟩
              rw [hN] at hvL hleft
              have HNL := Lib.hid hN
              obtain rfl := hvL
              clear hN
              have HP : Hid (∀ (m z : Nat), left[m]? = some z → (left.take (m + 1)).any (fun k => Nat.beq (clM k) (clM y)) = ((left.take m).any (fun k => Nat.beq (clM k) (clM y)) || Nat.beq (clM z) (clM y))) := Lib.hid fun m z h => any_next h
              go_wp2
              go_loopw [8, 9] (fun bv i wr3 => ∃ (m q4 : Nat) (b1 : Bool), m ≤ N ∧ i = .int .i64 (m : Int) ∧ bv = .bool b1 ∧ Hid ((left.take m).any (fun k => Nat.beq (clM k) (clM y)) = b1) ∧ wr3 = W3.drewN q4) (fun _ i _ => N - (intOf i).toNat)
              case atStart => exact ⟨0, 0, false, by omega, rfl, rfl, Lib.hid rfl, rfl⟩
              case round =>
                obtain ⟨m, q4, b1, hm, rfl, rfl, HB, rfl⟩ := hrel
                by_cases hml : m < N
                · have m1 : decide ((m : Int) < (N : Int)) = true := by simp; omega
                  have mz : (m : Int) < (N : Int) := by omega
                  obtain ⟨b2, o2, rfl, hB2, hc2⟩ := hAL.some_ (by omega)
                  obtain ⟨z, hz⟩ : ∃ a, left[m]? = some a := ⟨_, List.getElem?_eq_getElem (by have := HNL.out; omega)⟩
                  have d2 := hc2 m z hz
                  simp only [nv] at d2
                  have HP2 := HP.out m z hz
                  rw [HB.out] at HP2
                  cases b1 with
                  | true =>
                    have HB2 : Hid ((left.take (m + 1)).any (fun k => Nat.beq (clM k) (clM y)) = true) := Lib.hid (by rw [HP2]; rfl)
                    clear hz HP2 hc2
                    go_wp2
                    go_big_quiet (fail)
                    go_wp2
                    go_roundw
                    case rel => exact ⟨m + 1, _, true, by omega, by go_num, rfl, HB2, rfl⟩
                    case measure => simp [intOf]; omega
                  | false =>
                    have HCz := Lib.hid (fun Wx => refClassM_any z Wx)
                    obtain ⟨kz, hkz⟩ : ∃ kz, clM z = kz := ⟨_, rfl⟩
                    rw [hkz] at HCz
                    have HKK : Nat.beq (clM z) (clM y) = ((kz : Int) == (ky : Int)) := by rw [hkz, HKY.out, beq_int]
                    rw [HKK, Bool.false_or] at HP2
                    obtain ⟨b3, hb3'⟩ : ∃ b3, ((kz : Int) == (ky : Int)) = b3 := ⟨_, rfl⟩
                    have HB2 : Hid ((left.take (m + 1)).any (fun k => Nat.beq (clM k) (clM y)) = b3) := Lib.hid (by rw [HP2, hb3'])
                    clear hz HP2 hc2 HKK hkz
                    go_wp2
                    go_big_quiet (first | (go_at_call_of 31 z; exact quiet_add (HCz.out _)) | (go_at_call_of 31 y; exact quiet_add (HCy.out _)))
                    go_wp2
                    go_roundw
                    case rel => exact ⟨m + 1, _, b3, by omega, by go_num, by first | rfl | (rw [hb3']), HB2, rfl⟩
                    case measure => simp [intOf]; omega
                · obtain rfl : m = N := by omega
                  have HB3 : Hid ((left.any fun k => Nat.beq (clM k) (clM y)) = b1) := Lib.hid (by
                    have h := HB.out
                    rwa [List.take_of_length_le (by rw [HNL.out]; omega)] at h)
                  have HX := refComp_any c1 y (W3.drewN q4)
                  obtain ⟨cv, hcv⟩ : ∃ cv, compR c1 y = cv := ⟨_, rfl⟩
                  have HCV := Lib.hid hcv
                  rw [hcv] at HX
                  have HX := Lib.hid HX
                  have hown4 := own_drewN hownL3 q4
                  have hb4 := below_drewN hb3 q4
                  clear hcv
                  by_cases hyes : cv ≠ 0 ∧ b1 = false
                  · obtain ⟨hc0, rfl⟩ := hyes
                    have t3 : ((cv : Int) != 0) = true := by simp; omega
                    have HR2 : Hid (runF cv left ((l.drop (j + 1)).takeWhile isM) = R) := Lib.hid (by
                      have h := HRy.out
                      rw [run_yes (by rw [HCV.out]; exact hc0) HB3.out, HCV.out] at h
                      exact h)
                    clear hc0
                    go_wp2_with fail
                    refine HX.out.mono ?_
                    rintro e w5 ⟨rfl, k5⟩
                    go_wp2
                    go_roundw
                    case rel => exact ⟨j + 1, cv, left, by omega, by omega, by go_num, rfl, by have := HNL.out; omega, HR2, HDy, by rw [HNL.out]; have h := own_keep_below hown4 k5; rwa [HNL.out] at h, below_next hb4 k5⟩
                    case measure => simp [intOf]; omega
                  · have HR2 : Hid (runF c1 (left ++ [y]) ((l.drop (j + 1)).takeWhile isM) = R) := Lib.hid (by
                      have h := HRy.out
                      rw [run_no (by rw [HCV.out, HB3.out]; exact hyes)] at h
                      exact h)
                    have hLl : (left ++ [y]).length ≤ j + 1 := by rw [List.length_append, List.length_singleton, HNL.out]; omega
                    have hLm : left.length ≤ 1000000000000 - 1 := by rw [HNL.out]; omega
                    by_cases hc0 : cv = 0
                    · have t3 : ((cv : Int) != 0) = false := by rw [hc0]; rfl
                      clear hyes hc0
                      go_wp2_with fail
                      refine HX.out.mono ?_
                      rintro e w5 ⟨rfl, k5⟩
                      have hown5 := own_keep_below hown4 k5
                      have hb5 := below_next hb4 k5
                      have hb5s := hb5.size
                      have d1 := (k5.cell (p := ⟨b0, o0 + j, none⟩) (show b0 < W3.heap.size by omega)).trans d1
                      go_wp2_with (at_builtin; refine append_int w5 rfl (.tmp 87) (.tmp 92) rfl W.heap.size (.slice AL m cL) left rfl hown5 y _ rfl rfl hLm hb5s ?_; intro r1 w6 hown6 hb6)
                      go_roundw
                      case rel => exact ⟨j + 1, c1, left ++ [y], by omega, by omega, by go_num, rfl, hLl, HR2, HDy, hown6, hb5.trans hb6⟩
                      case measure => simp [intOf]; omega
                    · obtain rfl : b1 = true := by cases b1 with
                        | true => rfl
                        | false => exact absurd ⟨hc0, rfl⟩ hyes
                      have t3 : ((cv : Int) != 0) = true := by simp; omega
                      clear hyes hc0
                      go_wp2_with fail
                      refine HX.out.mono ?_
                      rintro e w5 ⟨rfl, k5⟩
                      have hown5 := own_keep_below hown4 k5
                      have hb5 := below_next hb4 k5
                      have hb5s := hb5.size
                      have d1 := (k5.cell (p := ⟨b0, o0 + j, none⟩) (show b0 < W3.heap.size by omega)).trans d1
                      go_wp2_with (at_builtin; refine append_int w5 rfl (.tmp 87) (.tmp 92) rfl W.heap.size (.slice AL m cL) left rfl hown5 y _ rfl rfl hLm hb5s ?_; intro r1 w6 hown6 hb6)
                      go_roundw
                      case rel => exact ⟨j + 1, c1, left ++ [y], by omega, by omega, by go_num, rfl, hLl, HR2, HDy, hown6, hb5.trans hb6⟩
                      case measure => simp [intOf]; omega
            · have t2 : decide (0 < ky) = false := by simp; omega
              have t2' : decide ((0 : Int) < (ky : Int)) = false := by simp; omega
              have hym : isM y = false := isM_zero.2 (by rw [HKY.out]; omega)
              have HE : Hid (O ++ (c1 :: (left ++ compF (l.drop j))) = compF l) := Lib.hid (by
                have h := HRj.out
                have h2 := HDj.out
                rw [HDr2.out, List.takeWhile_cons, hym] at h
                rw [HDr2.out, List.dropWhile_cons, hym] at h2
                rw [HDr2.out]
                have h3 := HO2.out
                rw [← h, ← h2] at h3
                exact h3)
              clear hym
              go_wp2_with fail
              refine (HCy.out _).mono ?_
              rintro e w3 ⟨rfl, q3, rfl⟩
              have hownL3 := own_drewN hownL q3
              have hb3 := below_drewN hb2 q3
              clear hownL hb2 d1 hbw2 hb2s
              generalize wr.drewN q3 = W3 at hownL3 hb3 ⊢
              have HE2 : Hid (((O ++ [c1]) ++ left) ++ compF (l.drop j) = compF l) := Lib.hid (by rw [← HE.out]; simp)
              have hL3 : ((O ++ [c1]) ++ left).length ≤ 1000000 := by
                have h1 := congrArg List.length HE2.out
                rw [List.length_append] at h1
                have h2 := HCL.out
                rw [HL.out] at h2
                omega
              have hL4 : (O ++ [c1]).length + left.length ≤ 1000000000000 := by rw [← List.length_append]; omega
              have hownO := own_keep_below hownW hb3
              have hWs2 := (hb3).size
              have hne : u7.ownBlock = none ∨ u7.ownBlock ≠ u4.ownBlock := by
                cases h7 : u7.ownBlock with
                | none => exact .inl rfl
                | some g =>
                  refine .inr fun e => ?_
                  have h1 := (hownL3.lt g h7).1
                  have h2 := (hownW.lt g e.symm).2
                  omega
              have hBO : w1.heap.size ≤ W3.heap.size := by omega
              go_wp2_with (at_builtin; first | (refine append_int_w W3 rfl (.tmp 94) (.tmp 96) rfl w1.heap.size u4 O rfl hownO c1 _ rfl rfl (by omega) hBO ?_; intro v3 w3 hown3 hg3 hv3; have hL5 := Arr.of_own (hownL3.kept hg3 hne); have hB5 : w1.heap.size ≤ w3.heap.size := Nat.le_trans hBO hg3.size) | (refine append_ints w3 rfl (.tmp 97) (.tmp 98) rfl w1.heap.size w3.heap.size v3 (O ++ [c1]) rfl hown3 left u7 rfl hL5 hL4 hB5 ?_; intro v4 w4 hown4 hb4))
              go_roundw
              case rel => exact ⟨j, (O ++ [c1]) ++ left, by omega, rfl, HE2, hL3, hown4, (below_grown (below_next hbW hb3) hg3 (Nat.le_refl _) fun g hg => (hownO.lt g hg).1).trans hb4⟩
              case measure => simp [intOf]; omega
          · obtain rfl : j = n := by omega
            have HE : Hid (O ++ (c1 :: (left ++ compF (l.drop j))) = compF l) := Lib.hid (by
              have h := HRj.out
              have h2 := HDj.out
              have e0 : l.drop j = [] := List.drop_of_length_le (by rw [HL.out]; omega)
              rw [e0] at h h2 ⊢
              have h3 := HO2.out
              rw [← h, ← h2] at h3
              exact h3)
            have HE2 : Hid (((O ++ [c1]) ++ left) ++ compF (l.drop j) = compF l) := Lib.hid (by rw [← HE.out]; simp)
            have hL3 : ((O ++ [c1]) ++ left).length ≤ 1000000 := by
              have h1 := congrArg List.length HE2.out
              rw [List.length_append] at h1
              have h2 := HCL.out
              rw [HL.out] at h2
              omega
            have hL4 : (O ++ [c1]).length + left.length ≤ 1000000000000 := by rw [← List.length_append]; omega
            have hownO := own_keep_below hownW hb2
            have hWs2 := (hb2).size
            have hne : u7.ownBlock = none ∨ u7.ownBlock ≠ u4.ownBlock := by
              cases h7 : u7.ownBlock with
              | none => exact .inl rfl
              | some g =>
                refine .inr fun e => ?_
                have h1 := (hownL.lt g h7).1
                have h2 := (hownW.lt g e.symm).2
                omega
            have hBO : w1.heap.size ≤ wr.heap.size := by omega
            go_wp2_with (at_builtin; first | (refine append_int_w wr rfl (.tmp 94) (.tmp 96) rfl w1.heap.size u4 O rfl hownO c1 _ rfl rfl (by omega) hBO ?_; intro v3 w3 hown3 hg3 hv3; have hL5 := Arr.of_own (hownL.kept hg3 hne); have hB5 : w1.heap.size ≤ w3.heap.size := Nat.le_trans hBO hg3.size) | (refine append_ints w3 rfl (.tmp 97) (.tmp 98) rfl w1.heap.size w3.heap.size v3 (O ++ [c1]) rfl hown3 left u7 rfl hL5 hL4 hB5 ?_; intro v4 w4 hown4 hb4))
            go_roundw
            case rel => exact ⟨j, (O ++ [c1]) ++ left, by omega, rfl, HE2, hL3, hown4, (below_grown (below_next hbW hb2) hg3 (Nat.le_refl _) fun g hg => (hownO.lt g hg).1).trans hb4⟩
            case measure => simp [intOf]; omega
    · obtain rfl : k = n := by omega
      have hOe : O = compF l := by
        have h := HO.out
        rw [List.drop_of_length_le (by rw [HL.out]; omega), compF, List.append_nil] at h
        exact h
      have HE : Hid (nC s = encL O) := Lib.hid (by rw [HN.out, hOe])
      have hEnc := Lib.hid (encode_own _ u4 O wr hown (fun c hc => HOK.out c (by rw [← hOe]; exact hc)) (by omega))
      clear hOe hown
      go_wp2_with fail
      refine hEnc.out.mono ?_
      rintro e w2 ⟨rfl, hb2⟩
      go_wp2
      go_ret
      rw [HE.out]
      exact ⟨rfl, below_next (below_next hb1 hb) hb2⟩

set_option maxRecDepth 20000 in
set_option maxHeartbeats 1600000 in
theorem refIs_any (s : List UInt8) (w : World) (hlen : s.length ≤ 100000) :
    Calls Tryd.prog 16 #[.string (str s)] w fun e w' => e = .returned (.bool (nIs s)) ∧ Below w.heap.size w w' := by
  obtain ⟨R, hR⟩ : ∃ R, nIs s = R := ⟨_, rfl⟩
  rw [hR]
  unfold nIs at hR
  have HS := Lib.hid (fun W => refEncoded_any s W hlen)
  have HC := Lib.hid (fun W => refCompose_any s W hlen)
  cases h1 : (decR s).isSome with
  | false =>
    have HE : Hid (R = false) := Lib.hid (by rw [← hR, h1]; rfl)
    rw [h1] at HS
    clear hR h1
    go_enter Tryd.func16, Tryd.ntmps16
    go_wp2_with fail
    refine (HS.out _).mono ?_
    rintro e w1 ⟨rfl, hb1⟩
    go_wp2
    go_ret
    exact ⟨ret_bool HE.out.symm, hb1⟩
  | true =>
    obtain ⟨x, hx⟩ : ∃ x, nC s = x := ⟨_, rfl⟩
    rw [hx] at HC
    have HE : Hid (R = decide (x = s)) := Lib.hid (by rw [← hR, h1, hx]; rfl)
    have HQ := str_beq x s
    obtain ⟨z, hz⟩ : ∃ z, decide (x = s) = z := ⟨_, rfl⟩
    rw [hz] at HQ HE
    rw [h1] at HS
    clear hR h1 hx hz
    go_enter Tryd.func16, Tryd.ntmps16
    go_wp2_with fail
    refine (HS.out _).mono ?_
    rintro e w1 ⟨rfl, hb1⟩
    go_wp2_with fail
    refine (HC.out _).mono ?_
    rintro e w2 ⟨rfl, hb2⟩
    go_wp2
    go_ret
    exact ⟨ret_bool HE.out.symm, below_next hb1 hb2⟩

end Go.Proofs.YtpgaebdaakllaaaDoor
