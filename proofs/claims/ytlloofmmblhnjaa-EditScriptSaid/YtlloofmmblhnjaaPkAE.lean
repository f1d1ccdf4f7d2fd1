/-
  The reference's Script.
  Distances along diagonals: what the rows of the program hold.
-/
import Derived.Test.YtlloofmmblhnjaaPkAD
import Derived.Test.YtlloofmmblhnjaaPkAC
namespace Go.Proofs.Ytlloofmmblhnjaa
open Go.RowKit

theorem ops_own_nil (w : World) (B : Nat) : w.ownsRow B 61 2 (.slice none 0 0) ([] : List OpI).length (([] : List OpI).flatMap ov) := World.ownsRow_nil _ _ _ _
theorem scr_more {R O : List OpI} {L L' : List OpI} {o : OpI} (h : R = O ++ L) (e : L = o :: L') : R = (O ++ [o]) ++ L' := by rw [h, e]; simp

set_option maxRecDepth 20000 in
set_option maxHeartbeats 12800000 in
theorem refScript11_any (A A' : Option Addr) (n c m c' : Nat) (a b : List Int) (w : World) (h : Arr iv w w.heap.size (.slice A n c) a) (h' : Arr iv w w.heap.size (.slice A' m c') b) (hn : n ≤ 100000) (hm : m ≤ 100000) :
    Calls Try.prog 25 #[.slice A n c, .slice A' m c'] w fun e w' => ∃ A n c, e = .returned (.slice A n c) ∧ SArr 2 ov w' w'.heap.size (.slice A n c) (scrD a b) ∧ Below w.heap.size w w' := by
  have HTb := Lib.hid (refTable11_any A A' n c m c' a b w h h' hn hm)
  have HL := Lib.hid h.len
  have HM := Lib.hid h'.len
  have HA := Lib.hid h
  have HB := Lib.hid h'
  clear h h'
  go_enter Try.func25, Try.ntmps25
  go_wp2_with fail
  refine HTb.out.mono ?_
  rintro e w1 ⟨rfl, hT, k1⟩
  have HT := Lib.hid hT
  have hw1 : w.heap.size < w1.heap.size := by
    obtain ⟨cs, hbx, _⟩ := hT
    exact hbx.lt
  clear hT
  go_wp2
  go_loopw [6, 7, 8, 9] (fun v iv jv bv wr => ∃ (i j : Nat) (O : List OpI), i ≤ n ∧ j ≤ m ∧ iv = .int .i64 (i : Int) ∧ jv = .int .i64 (j : Int) ∧ Hid (scrD a b = O ++ scrD (a.drop i) (b.drop j)) ∧ O.length ≤ i + j ∧ wr.ownsRow w1.heap.size 61 2 v O.length (O.flatMap ov) ∧ Below w1.heap.size w1 wr) (fun _ iv jv _ _ => (n - (intOf iv).toNat) + (m - (intOf jv).toNat))
  case atStart => exact ⟨0, 0, [], by omega, by omega, rfl, rfl, Lib.hid rfl, by simp, ops_own_nil _ _, Below.refl _ _⟩
  case round =>
    obtain ⟨i, j, O, hi, hj, rfl, rfl, HO, hO, hown, hb⟩ := hrel
    have hbs := hb.size
    by_cases hin : i < n
    · have t1 : decide ((i : Int) < (n : Int)) = true := decide_eq_true (by omega)
      have t1n : decide (i < n) = true := decide_eq_true hin
      have iz : (i : Int) < (n : Int) := by omega
      have iz1 : (i : Int) < (n : Int) + 1 := by omega
      obtain ⟨q, hq⟩ : ∃ k, i + 1 = k := ⟨_, rfl⟩
      have eq1 : (i : Int) + 1 = (q : Int) := by omega
      have wq1 : IntKind.i64.wrap (q : Int) = (q : Int) := wraps_i64 _ (by omega) (by omega)
      have zq1 : (q : Int) < (n : Int) + 1 := by omega
      have jz1 : (j : Int) < (m : Int) + 1 := by omega
      obtain ⟨x, hx⟩ : ∃ o, a[i]? = some o := ⟨_, List.getElem?_eq_getElem (by have := HL.out; omega)⟩
      obtain ⟨b0, o0, rfl, hB0, hc0⟩ := HA.out.some_ (by omega)
      have hB0' : b0 < w1.heap.size := by omega
      have d0 : wr.cell? ⟨b0, o0 + i, none⟩ = some (.int .i64 x) := (hb.cell (p := ⟨b0, o0 + i, none⟩) hB0').trans ((k1.cell (p := ⟨b0, o0 + i, none⟩) hB0).trans (hc0 i x hx))
      obtain ⟨R0, e0, hR01, hR02, hR0⟩ := HT.out.get (i := i) (Nat.zero_le _) hi
      obtain ⟨R1, e1, hR11, hR12, hR1⟩ := HT.out.get (i := i + 1) (Nat.zero_le _) (by omega)
      have d1 : wr.cell? ⟨w.heap.size, i, none⟩ = some (.slice (some ⟨R0, 0, none⟩) (m + 1) (m + 1)) := (hb.cell (p := ⟨w.heap.size, i, none⟩) hw1).trans e0
      have d2 : wr.cell? ⟨w.heap.size, i + 1, none⟩ = some (.slice (some ⟨R1, 0, none⟩) (m + 1) (m + 1)) := (hb.cell (p := ⟨w.heap.size, i + 1, none⟩) hw1).trans e1
      have d3 : wr.cell? ⟨R0, j, none⟩ = some (.int .i64 (tabE a b i j : Int)) := (hb.cell (p := ⟨R0, j, none⟩) hR02).trans (hR0 j hj)
      have d4 : wr.cell? ⟨R1, j, none⟩ = some (.int .i64 (tabE a b (i + 1) j : Int)) := (hb.cell (p := ⟨R1, j, none⟩) hR12).trans (hR1 j hj)
      rw [hq] at d2
      have hs0 := tab_small a b i j
      have hs2 := tab_small a b (i + 1) j
      rw [HL.out, HM.out] at hs0 hs2
      obtain ⟨T0, hT0⟩ : ∃ T, tabE a b i j = T := ⟨_, rfl⟩
      obtain ⟨T2, hT2⟩ : ∃ T, tabE a b (i + 1) j = T := ⟨_, rfl⟩
      rw [hT0] at d3 hs0
      rw [hT2] at d4 hs2
      obtain ⟨N2, hN2⟩ : ∃ k, 1 + T2 = k := ⟨_, rfl⟩
      have eN2 : (1 : Int) + (T2 : Int) = (N2 : Int) := by omega
      have wN2 : IntKind.i64.wrap (N2 : Int) = (N2 : Int) := wraps_i64 _ (by omega) (by omega)
      by_cases hjm : j < m
      · have t2 : decide ((j : Int) < (m : Int)) = true := decide_eq_true (by omega)
        have t2n : decide (j < m) = true := decide_eq_true hjm
        have jz : (j : Int) < (m : Int) := by omega
        obtain ⟨l, hl⟩ : ∃ k, j + 1 = k := ⟨_, rfl⟩
        have el1 : (j : Int) + 1 = (l : Int) := by omega
        have wl1 : IntKind.i64.wrap (l : Int) = (l : Int) := wraps_i64 _ (by omega) (by omega)
        have zl1 : (l : Int) < (m : Int) + 1 := by omega
        obtain ⟨y, hy⟩ : ∃ o, b[j]? = some o := ⟨_, List.getElem?_eq_getElem (by have := HM.out; omega)⟩
        obtain ⟨b1, o1, rfl, hB1, hc1⟩ := HB.out.some_ (by omega)
        have hB1' : b1 < w1.heap.size := by omega
        have d5 : wr.cell? ⟨b1, o1 + j, none⟩ = some (.int .i64 y) := (hb.cell (p := ⟨b1, o1 + j, none⟩) hB1').trans ((k1.cell (p := ⟨b1, o1 + j, none⟩) hB1).trans (hc1 j y hy))
        have d6 : wr.cell? ⟨R1, j + 1, none⟩ = some (.int .i64 (tabE a b (i + 1) (j + 1) : Int)) := (hb.cell (p := ⟨R1, j + 1, none⟩) hR12).trans (hR1 (j + 1) (by omega))
        rw [hl] at d6
        have hs1 := tab_small a b (i + 1) (j + 1)
        rw [HL.out, HM.out] at hs1
        rw [hl] at hs1
        obtain ⟨T1, hT1⟩ : ∃ T, tabE a b (i + 1) l = T := ⟨_, rfl⟩
        rw [hT1] at d6 hs1
        obtain ⟨N1, hN1⟩ : ∃ k, 1 + T1 = k := ⟨_, rfl⟩
        have eN1 : (1 : Int) + (T1 : Int) = (N1 : Int) := by omega
        have wN1 : IntKind.i64.wrap (N1 : Int) = (N1 : Int) := wraps_i64 _ (by omega) (by omega)
        by_cases hxy : x = y
        · have t3 : (x == y) = true := eqE hxy
          have HO2 := Lib.hid (scr_more HO.out (scr_keep hx (hxy ▸ hy)))
          clear hx hy hxy hc0 hc1 hR0 hR1 hT0 hT1 hT2 hN1 hN2 hq hl
          go_wp2_with fail
          go_region
          all_goals
            have hownD : (wr.drew).ownsRow w1.heap.size 61 2 u6 O.length (O.flatMap ov) := hown
            have hbD : Below w1.heap.size w1 (wr.drew) := hb.drew
            have hbsD := hbD.size
            generalize wr.drew = W at hownD hbD hbsD ⊢
            go_wp2_with (at_builtin; refine append_struct (val := ov) 33 61 (.agg #[.int .i64 0, .int .i64 0]) 16 Try.underlying33 info_op rfl (by decide) (by decide) ov_len ov_one W rfl (.tmp 56) (.tmp 58) rfl w1.heap.size u6 O rfl hownD (1, 0) #[.int .i64 1, .int .i64 0] rfl _ rfl rfl (by omega) hbsD ?_; intro v2 w2 hown2 hb2)
            go_wp2_with fail
            go_roundw
            case rel => exact ⟨i + 1, j + 1, _, by omega, by omega, by go_num, by go_num, HO2, by rw [List.length_append, List.length_singleton]; omega, hown2, hbD.trans hb2⟩
            case measure => first | (simp [intOf]; done) | (simp [intOf]; omega)
        · have t3 : (x == y) = false := neE hxy
          by_cases hg1 : T0 = N1
          · have t4 : ((T0 : Int) == (N1 : Int)) = true := eqE (by omega)
            have HO2 := Lib.hid (scr_more HO.out (scr_repl hx hy hxy (by rw [hT0, hl, hT1, hg1, ← hN1])))
            clear hx hy hxy hc0 hc1 hR0 hR1 hT0 hT1 hT2 hN1 hN2 hq hl hg1
            go_wp2_with fail
            go_region
            all_goals
              go_wp2_with fail
              go_region
              all_goals
                have hownD : (wr.drew.drew).ownsRow w1.heap.size 61 2 u6 O.length (O.flatMap ov) := hown
                have hbD : Below w1.heap.size w1 (wr.drew.drew) := hb.drew.drew
                have hbsD := hbD.size
                have dD : (wr.drew.drew).cell? ⟨b1, o1 + j, none⟩ = some (.int .i64 y) := d5
                generalize wr.drew.drew = W at hownD hbD hbsD dD ⊢
                go_wp2_with (at_builtin; refine append_struct (val := ov) 33 61 (.agg #[.int .i64 0, .int .i64 0]) 16 Try.underlying33 info_op rfl (by decide) (by decide) ov_len ov_one W rfl (.tmp 86) (.tmp 92) rfl w1.heap.size u6 O rfl hownD (2, y) #[.int .i64 2, .int .i64 y] rfl _ rfl rfl (by omega) hbsD ?_; intro v2 w2 hown2 hb2)
                go_wp2_with fail
                go_roundw
                case rel => exact ⟨i + 1, j + 1, _, by omega, by omega, by go_num, by go_num, HO2, by rw [List.length_append, List.length_singleton]; omega, hown2, hbD.trans hb2⟩
                case measure => first | (simp [intOf]; done) | (simp [intOf]; omega)
          · have t4 : ((T0 : Int) == (N1 : Int)) = false := neE (by omega)
            by_cases hg2 : T0 = N2
            · have t5 : ((T0 : Int) == (N2 : Int)) = true := eqE (by omega)
              have HO2 := Lib.hid (scr_more HO.out (scr_del hx hy hxy (by rw [hT0, hl, hT1, hN1]; exact hg1) (by rw [hT0, hT2, hg2, ← hN2])))
              clear hx hy hxy hc0 hc1 hR0 hR1 hT0 hT1 hT2 hN1 hN2 hq hl hg1 hg2
              go_wp2_with fail
              go_region
              all_goals
                go_wp2_with fail
                go_region
                all_goals
                  go_wp2_with fail
                  go_region
                  all_goals
                    have hownD : (wr.drew.drew.drew).ownsRow w1.heap.size 61 2 u6 O.length (O.flatMap ov) := hown
                    have hbD : Below w1.heap.size w1 (wr.drew.drew.drew) := hb.drew.drew.drew
                    have hbsD := hbD.size
                    generalize wr.drew.drew.drew = W at hownD hbD hbsD ⊢
                    go_wp2_with (at_builtin; refine append_struct (val := ov) 33 61 (.agg #[.int .i64 0, .int .i64 0]) 16 Try.underlying33 info_op rfl (by decide) (by decide) ov_len ov_one W rfl (.tmp 122) (.tmp 124) rfl w1.heap.size u6 O rfl hownD (3, 0) #[.int .i64 3, .int .i64 0] rfl _ rfl rfl (by omega) hbsD ?_; intro v2 w2 hown2 hb2)
                    go_wp2_with fail
                    go_roundw
                    case rel => exact ⟨i + 1, j, _, by omega, by omega, by go_num, by go_num, HO2, by rw [List.length_append, List.length_singleton]; omega, hown2, hbD.trans hb2⟩
                    case measure => first | (simp [intOf]; done) | (simp [intOf]; omega)
            · have t5 : ((T0 : Int) == (N2 : Int)) = false := neE (by omega)
              have HO2 := Lib.hid (scr_more HO.out (scr_ins hx hy hxy (by rw [hT0, hl, hT1, hN1]; exact hg1) (by rw [hT0, hT2, hN2]; exact hg2)))
              clear hx hy hxy hc0 hc1 hR0 hR1 hT0 hT1 hT2 hN1 hN2 hq hl hg1 hg2
              go_wp2_with fail
              go_region
              all_goals
                go_wp2_with fail
                go_region
                all_goals
                  go_wp2_with fail
                  go_region
                  all_goals
                    have hownD : (wr.drew.drew.drew).ownsRow w1.heap.size 61 2 u6 O.length (O.flatMap ov) := hown
                    have hbD : Below w1.heap.size w1 (wr.drew.drew.drew) := hb.drew.drew.drew
                    have hbsD := hbD.size
                    have dD : (wr.drew.drew.drew).cell? ⟨b1, o1 + j, none⟩ = some (.int .i64 y) := d5
                    generalize wr.drew.drew.drew = W at hownD hbD hbsD dD ⊢
                    go_wp2_with (at_builtin; refine append_struct (val := ov) 33 61 (.agg #[.int .i64 0, .int .i64 0]) 16 Try.underlying33 info_op rfl (by decide) (by decide) ov_len ov_one W rfl (.tmp 33) (.tmp 39) rfl w1.heap.size u6 O rfl hownD (4, y) #[.int .i64 4, .int .i64 y] rfl _ rfl rfl (by omega) hbsD ?_; intro v2 w2 hown2 hb2)
                    go_wp2_with fail
                    go_roundw
                    case rel => exact ⟨i, j + 1, _, by omega, by omega, by go_num, by go_num, HO2, by rw [List.length_append, List.length_singleton]; omega, hown2, hbD.trans hb2⟩
                    case measure => first | (simp [intOf]; done) | (simp [intOf]; omega)
      · have hjm' : j = m := by omega
        have t2 : decide ((j : Int) < (m : Int)) = false := decide_eq_false (by omega)
        have t2n : decide (j < m) = false := decide_eq_false hjm
        have hg2 : T0 = N2 := by
          have e1 := tab_end2 a b i
          have e2 := tab_end2 a b (i + 1)
          rw [HL.out, HM.out, ← hjm'] at e1 e2
          omega
        have t5 : ((T0 : Int) == (N2 : Int)) = true := eqE (by omega)
        have HO2 : Hid (scrD a b = (O ++ [(3, 0)]) ++ scrD (a.drop (i + 1)) (b.drop j)) := Lib.hid (scr_more HO.out (by
          have e := scr_rest2 (b := b) hx
          rw [HM.out, ← hjm'] at e
          exact e))
        clear hx hc0 hR0 hR1 hT0 hT2 hN2 hq hg2 hjm'
        go_wp2_with fail
        go_region
        all_goals
          go_wp2_with fail
          go_region
          all_goals
            go_wp2_with fail
            go_region
            all_goals
              have hownD : (wr.drew.drew.drew).ownsRow w1.heap.size 61 2 u6 O.length (O.flatMap ov) := hown
              have hbD : Below w1.heap.size w1 (wr.drew.drew.drew) := hb.drew.drew.drew
              have hbsD := hbD.size
              generalize wr.drew.drew.drew = W at hownD hbD hbsD ⊢
              go_wp2_with (at_builtin; refine append_struct (val := ov) 33 61 (.agg #[.int .i64 0, .int .i64 0]) 16 Try.underlying33 info_op rfl (by decide) (by decide) ov_len ov_one W rfl (.tmp 122) (.tmp 124) rfl w1.heap.size u6 O rfl hownD (3, 0) #[.int .i64 3, .int .i64 0] rfl _ rfl rfl (by omega) hbsD ?_; intro v2 w2 hown2 hb2)
              go_wp2_with fail
              go_roundw
              case rel => exact ⟨i + 1, j, _, by omega, by omega, by go_num, by go_num, HO2, by rw [List.length_append, List.length_singleton]; omega, hown2, hbD.trans hb2⟩
              case measure => first | (simp [intOf]; done) | (simp [intOf]; omega)
    · have hin' : i = n := by omega
      have t1 : decide ((i : Int) < (n : Int)) = false := decide_eq_false (by omega)
      have t1n : decide (i < n) = false := decide_eq_false hin
      by_cases hjm : j < m
      · have t2 : decide ((j : Int) < (m : Int)) = true := decide_eq_true (by omega)
        have t2n : decide (j < m) = true := decide_eq_true hjm
        have jz : (j : Int) < (m : Int) := by omega
        obtain ⟨y, hy⟩ : ∃ o, b[j]? = some o := ⟨_, List.getElem?_eq_getElem (by have := HM.out; omega)⟩
        obtain ⟨b1, o1, rfl, hB1, hc1⟩ := HB.out.some_ (by omega)
        have hB1' : b1 < w1.heap.size := by omega
        have d5 : wr.cell? ⟨b1, o1 + j, none⟩ = some (.int .i64 y) := (hb.cell (p := ⟨b1, o1 + j, none⟩) hB1').trans ((k1.cell (p := ⟨b1, o1 + j, none⟩) hB1).trans (hc1 j y hy))
        have HO2 : Hid (scrD a b = (O ++ [(4, y)]) ++ scrD (a.drop i) (b.drop (j + 1))) := Lib.hid (scr_more HO.out (by
          have e := scr_rest1 (a := a) hy
          rw [HL.out, ← hin'] at e
          exact e))
        clear hy hc1 hin'
        go_wp2_with fail
        go_region
        all_goals
          go_wp2_with fail
          go_region
          all_goals
            go_wp2_with fail
            go_region
            all_goals
              have hownD : (wr.drew.drew.drew).ownsRow w1.heap.size 61 2 u6 O.length (O.flatMap ov) := hown
              have hbD : Below w1.heap.size w1 (wr.drew.drew.drew) := hb.drew.drew.drew
              have hbsD := hbD.size
              have dD : (wr.drew.drew.drew).cell? ⟨b1, o1 + j, none⟩ = some (.int .i64 y) := d5
              generalize wr.drew.drew.drew = W at hownD hbD hbsD dD ⊢
              go_wp2_with (at_builtin; refine append_struct (val := ov) 33 61 (.agg #[.int .i64 0, .int .i64 0]) 16 Try.underlying33 info_op rfl (by decide) (by decide) ov_len ov_one W rfl (.tmp 33) (.tmp 39) rfl w1.heap.size u6 O rfl hownD (4, y) #[.int .i64 4, .int .i64 y] rfl _ rfl rfl (by omega) hbsD ?_; intro v2 w2 hown2 hb2)
              go_wp2_with fail
              go_roundw
              case rel => exact ⟨i, j + 1, _, by omega, by omega, by go_num, by go_num, HO2, by rw [List.length_append, List.length_singleton]; omega, hown2, hbD.trans hb2⟩
              case measure => first | (simp [intOf]; done) | (simp [intOf]; omega)
      · have t2 : decide ((j : Int) < (m : Int)) = false := decide_eq_false (by omega)
        have t2n : decide (j < m) = false := decide_eq_false hjm
        have HE : Hid (scrD a b = O) := Lib.hid (by
          have e := scr_done a b
          rw [HL.out, HM.out] at e
          rw [HO.out, show i = n by omega, show j = m by omega, e, List.append_nil])
        have hA := SArr.of_own ov_len hown
        obtain ⟨A4, c4, h4⟩ := hA.form
        subst h4
        have HA4 := Lib.hid hA
        clear hA hown hin'
        go_wp2_with fail
        go_ret
        rw [HE.out]
        exact ⟨_, _, _, rfl, HA4.out, below_next k1 hb⟩

end Go.Proofs.Ytlloofmmblhnjaa

namespace Go.Proofs.Ytlloofmmblhnjaa

/-- What a kind of distance must keep. -/
structure Grid (a b : List Int) (R : Nat) (T : Nat → Nat → Nat) (S : Nat → Nat → List OpI) : Prop where
  r : R = 0 ∨ R = 1
  end1 : ∀ j, j ≤ b.length → T a.length j = b.length - j
  end2 : ∀ i, i ≤ a.length → T i b.length = a.length - i
  same : ∀ i j x, a[i]? = some x → b[j]? = some x → T i j = T (i + 1) (j + 1)
  other : ∀ i j x y, a[i]? = some x → b[j]? = some y → x ≠ y → T i j = 1 + T (i + 1) j ∨ T i j = 1 + T i (j + 1) ∨ (R = 1 ∧ T i j = 1 + T (i + 1) (j + 1))
  up1 : ∀ i j, i < a.length → j ≤ b.length → T i j ≤ 1 + T (i + 1) j
  up2 : ∀ i j, i ≤ a.length → j < b.length → T i j ≤ 1 + T i (j + 1)
  up3 : ∀ i j, i < a.length → j < b.length → R = 1 → T i j ≤ 1 + T (i + 1) (j + 1)
  mono : ∀ i j, i < a.length → j < b.length → T (i + 1) (j + 1) ≤ T i j
  low1 : ∀ i j, i ≤ a.length → j ≤ b.length → a.length + j ≤ T i j + i + b.length
  low2 : ∀ i j, i ≤ a.length → j ≤ b.length → b.length + i ≤ T i j + j + a.length
  s_end1 : ∀ j y, b[j]? = some y → S a.length j = (4, y) :: S a.length (j + 1)
  s_end2 : ∀ i x, a[i]? = some x → S i b.length = (3, 0) :: S (i + 1) b.length
  s_done : S a.length b.length = []
  s_keep : ∀ i j x, a[i]? = some x → b[j]? = some x → S i j = (1, 0) :: S (i + 1) (j + 1)
  s_repl : ∀ i j x y, a[i]? = some x → b[j]? = some y → x ≠ y → R = 1 → T i j = 1 + T (i + 1) (j + 1) → S i j = (2, y) :: S (i + 1) (j + 1)
  s_del : ∀ i j x y, a[i]? = some x → b[j]? = some y → x ≠ y → ¬ (R = 1 ∧ T i j = 1 + T (i + 1) (j + 1)) → T i j = 1 + T (i + 1) j → S i j = (3, 0) :: S (i + 1) j
  s_ins : ∀ i j x y, a[i]? = some x → b[j]? = some y → x ≠ y → ¬ (R = 1 ∧ T i j = 1 + T (i + 1) (j + 1)) → T i j ≠ 1 + T (i + 1) j → S i j = (4, y) :: S i (j + 1)
  s_len : (S 0 0).length ≤ a.length + b.length

theorem at_lt {l : List Int} {i : Nat} (h : i < l.length) : ∃ x, l[i]? = some x := ⟨_, List.getElem?_eq_getElem h⟩
theorem lt_at {l : List Int} {i : Nat} {x : Int} (h : l[i]? = some x) : i < l.length := (List.getElem?_eq_some_iff.1 h).1

theorem ed_less1 (x : Int) (a b : List Int) : edD a b ≤ edD (x :: a) b + 1 := by rw [ed_comm a b, ed_comm (x :: a) b]; exact ed_less b x a

theorem grid1 (a b : List Int) : Grid a b 1 (tabE a b) (fun i j => scrD (a.drop i) (b.drop j)) where
  r := .inr rfl
  end1 := fun j _ => tab_end1 a b j
  end2 := fun i _ => tab_end2 a b i
  same := fun i j x h1 h2 => tab_same h1 h2
  other := fun i j x y h1 h2 h => by
    have := tab_other h1 h2 h
    omega
  up1 := fun i j hi hj => by
    obtain ⟨x, hx⟩ := at_lt hi
    unfold tabE; rw [drop_at hx]
    have := ed_del x (a.drop (i + 1)) (b.drop j)
    omega
  up2 := fun i j hi hj => by
    obtain ⟨x, hx⟩ := at_lt hj
    unfold tabE; rw [drop_at hx]
    have := ed_ins x (a.drop i) (b.drop (j + 1))
    omega
  up3 := fun i j hi hj _ => by
    obtain ⟨x, hx⟩ := at_lt hi
    obtain ⟨y, hy⟩ := at_lt hj
    unfold tabE; rw [drop_at hx, drop_at hy]
    have := ed_repl x y (a.drop (i + 1)) (b.drop (j + 1))
    omega
  mono := fun i j hi hj => by
    obtain ⟨x, hx⟩ := at_lt hi
    obtain ⟨y, hy⟩ := at_lt hj
    by_cases h : x = y
    · subst h
      exact Nat.le_of_eq (tab_same hx hy).symm
    · have h1 := tab_other hx hy h
      have h2 : tabE a b (i + 1) (j + 1) ≤ tabE a b (i + 1) j + 1 := by
        unfold tabE; rw [drop_at hy]; exact ed_less _ _ _
      have h3 : tabE a b (i + 1) (j + 1) ≤ tabE a b i (j + 1) + 1 := by
        unfold tabE; rw [drop_at hx]; exact ed_less1 _ _ _
      omega
  low1 := fun i j hi hj => by
    have := ed_low (a.drop i) (b.drop j)
    rw [List.length_drop, List.length_drop] at this
    unfold tabE
    omega
  low2 := fun i j hi hj => by
    have := ed_low2 (a.drop i) (b.drop j)
    rw [List.length_drop, List.length_drop] at this
    unfold tabE
    omega
  s_end1 := fun j y h => scr_rest1 h
  s_end2 := fun i x h => scr_rest2 h
  s_done := scr_done a b
  s_keep := fun i j x h1 h2 => scr_keep h1 h2
  s_repl := fun i j x y h1 h2 h _ g => scr_repl h1 h2 h g
  s_del := fun i j x y h1 h2 h g1 g2 => scr_del h1 h2 h (fun e => g1 ⟨rfl, e⟩) g2
  s_ins := fun i j x y h1 h2 h g1 g2 => scr_ins h1 h2 h (fun e => g1 ⟨rfl, e⟩) g2
  s_len := by
    have := scr_len a b
    simpa using this

/-! Scripts without Replace. -/
def scr0Row (x : Int) (a : List Int) (f : List Int → List OpI) : List Int → List OpI
  | [] => (3, 0) :: f []
  | y :: b => if x = y then (1, 0) :: f b else if lcsD (x :: a) b ≤ lcsD a (y :: b) then (3, 0) :: f (y :: b) else (4, y) :: scr0Row x a f b
def scr0 : List Int → List Int → List OpI
  | [] => List.map fun y => (4, y)
  | x :: a => scr0Row x a (scr0 a)
theorem scr0_nil_cons (y : Int) (b : List Int) : scr0 [] (y :: b) = (4, y) :: scr0 [] b := rfl
theorem scr0_end (x : Int) (a : List Int) : scr0 (x :: a) [] = (3, 0) :: scr0 a [] := rfl
theorem scr0_cons (x y : Int) (a b : List Int) : scr0 (x :: a) (y :: b) = if x = y then (1, 0) :: scr0 a b else if lcsD (x :: a) b ≤ lcsD a (y :: b) then (3, 0) :: scr0 a (y :: b) else (4, y) :: scr0 (x :: a) b := rfl
theorem scr0_len : ∀ a b : List Int, (scr0 a b).length ≤ a.length + b.length
  | [], b => by show (b.map _).length ≤ _; simp
  | x :: a, [] => by
    have := scr0_len a []
    rw [scr0_end]
    simp only [List.length_cons, List.length_nil] at this ⊢
    omega
  | x :: a, y :: b => by
    have h1 := scr0_len a b
    have h2 := scr0_len a (y :: b)
    have h3 := scr0_len (x :: a) b
    rw [scr0_cons]
    simp only [List.length_cons] at h2 h3 ⊢
    split
    · rw [List.length_cons]; omega
    · split <;> rw [List.length_cons] <;> omega
def keptE (l : List OpI) : List OpI := l.filter fun o => !decide (o.1 = 4)
theorem kept_cons (o : OpI) (l : List OpI) : keptE (o :: l) = if o.1 = 4 then keptE l else o :: keptE l := by
  unfold keptE
  by_cases h : o.1 = 4 <;> simp [h]
theorem scr0_kept : ∀ a b : List Int, (∀ o ∈ keptE (scr0 a b), badOp o = false) ∧ runE a (keptE (scr0 a b)) = some (subD a b)
  | [], [] => ⟨fun o ho => (by cases ho), rfl⟩
  | [], y :: b => by
    have := scr0_kept [] b
    rw [scr0_nil_cons, kept_cons, if_pos rfl]
    exact this
  | x :: a, [] => by
    obtain ⟨h1, h2⟩ := scr0_kept a []
    rw [scr0_end, kept_cons, if_neg (by decide)]
    refine ⟨fun o ho => ?_, ?_⟩
    · rcases List.mem_cons.1 ho with rfl | ho
      · rfl
      · exact h1 o ho
    · rw [run_take x a _ (by decide), if_neg (by decide), if_neg (by decide), h2, sub_end, sub_end]
  | x :: a, y :: b => by
    by_cases h : x = y
    · subst h
      obtain ⟨h1, h2⟩ := scr0_kept a b
      rw [scr0_cons, if_pos rfl, kept_cons, if_neg (by decide), sub_same]
      refine ⟨fun o ho => ?_, ?_⟩
      · rcases List.mem_cons.1 ho with rfl | ho
        · rfl
        · exact h1 o ho
      · rw [run_take x a _ (by decide), if_pos rfl, h2]
        rfl
    · rw [scr0_cons, if_neg h, sub_other h]
      split
      · obtain ⟨h1, h2⟩ := scr0_kept a (y :: b)
        rw [kept_cons, if_neg (by decide)]
        refine ⟨fun o ho => ?_, ?_⟩
        · rcases List.mem_cons.1 ho with rfl | ho
          · rfl
          · exact h1 o ho
        · rw [run_take x a _ (by decide), if_neg (by decide), if_neg (by decide), h2]
      · have := scr0_kept (x :: a) b
        rw [kept_cons, if_pos rfl]
        exact this
theorem apply_kept (a b : List Int) : applyE a (keptE (scr0 a b)) = (subD a b, 0) := by
  obtain ⟨h1, h2⟩ := scr0_kept a b
  unfold applyE
  have h3 : (keptE (scr0 a b)).any badOp = false := by
    rw [List.any_eq_false]
    intro o ho
    rw [h1 o ho]
    simp
  simp [h3, h2]

theorem lcs_most1 (a b : List Int) : lcsD a b ≤ a.length ∧ lcsD a b ≤ b.length := by
  obtain ⟨h1, h2, h3⟩ := sub_facts a b
  have := h1.length_le
  have := h2.length_le
  omega
theorem lcs_more1 (x : Int) (a b : List Int) : lcsD a b ≤ lcsD (x :: a) b := by
  obtain ⟨h1, h2, h3⟩ := sub_facts a b
  have := lcs_most (x :: a) b _ (h1.cons x) h2
  omega
theorem lcs_more2 (y : Int) (a b : List Int) : lcsD a b ≤ lcsD a (y :: b) := by
  obtain ⟨h1, h2, h3⟩ := sub_facts a b
  have := lcs_most a (y :: b) _ h1 (h2.cons y)
  omega
theorem tail_sub {l a : List Int} {x : Int} (h : l.Sublist (x :: a)) : l.tail.Sublist a := h.tail
theorem lcs_less1 (x : Int) (a b : List Int) : lcsD (x :: a) b ≤ lcsD a b + 1 := by
  obtain ⟨h1, h2, h3⟩ := sub_facts (x :: a) b
  have := lcs_most a b _ (tail_sub h1) ((List.tail_sublist _).trans h2)
  rw [List.length_tail] at this
  omega
theorem lcs_less2 (y : Int) (a b : List Int) : lcsD a (y :: b) ≤ lcsD a b + 1 := by
  obtain ⟨h1, h2, h3⟩ := sub_facts a (y :: b)
  have := lcs_most a b _ ((List.tail_sublist _).trans h1) (tail_sub h2)
  rw [List.length_tail] at this
  omega

def indE (a b : List Int) (i j : Nat) : Nat := (a.length - i) + (b.length - j) - 2 * mostE a b i j
theorem most_bound (a b : List Int) (i j : Nat) : mostE a b i j ≤ a.length - i ∧ mostE a b i j ≤ b.length - j := by
  have := lcs_most1 (a.drop i) (b.drop j)
  rw [List.length_drop, List.length_drop] at this
  exact this
theorem most_step1 {a : List Int} (b : List Int) {i : Nat} (j : Nat) (hi : i < a.length) : mostE a b (i + 1) j ≤ mostE a b i j ∧ mostE a b i j ≤ mostE a b (i + 1) j + 1 := by
  obtain ⟨x, hx⟩ := at_lt hi
  unfold mostE
  rw [drop_at hx]
  exact ⟨lcs_more1 _ _ _, lcs_less1 _ _ _⟩
theorem most_step2 (a : List Int) {b : List Int} (i : Nat) {j : Nat} (hj : j < b.length) : mostE a b i (j + 1) ≤ mostE a b i j ∧ mostE a b i j ≤ mostE a b i (j + 1) + 1 := by
  obtain ⟨x, hx⟩ := at_lt hj
  unfold mostE
  rw [drop_at hx]
  exact ⟨lcs_more2 _ _ _, lcs_less2 _ _ _⟩

theorem grid0 (a b : List Int) : Grid a b 0 (indE a b) (fun i j => scr0 (a.drop i) (b.drop j)) where
  r := .inl rfl
  end1 := fun j _ => by unfold indE; rw [most_end1]; omega
  end2 := fun i _ => by unfold indE; rw [most_end2]; omega
  same := fun i j x h1 h2 => by
    have := most_same h1 h2
    have := lt_at h1
    have := lt_at h2
    have := most_bound a b (i + 1) (j + 1)
    unfold indE; omega
  other := fun i j x y h1 h2 h => by
    have := most_other h1 h2 h
    have := lt_at h1
    have := lt_at h2
    have := most_bound a b (i + 1) j
    have := most_bound a b i (j + 1)
    unfold indE; omega
  up1 := fun i j hi hj => by
    have := most_step1 b j hi
    have := most_bound a b (i + 1) j
    have := most_bound a b i j
    unfold indE; omega
  up2 := fun i j hi hj => by
    have := most_step2 a i hj
    have := most_bound a b i (j + 1)
    have := most_bound a b i j
    unfold indE; omega
  up3 := fun i j hi hj h => by omega
  mono := fun i j hi hj => by
    have := most_step1 b j hi
    have := most_step2 a (i + 1) hj
    have := most_bound a b (i + 1) (j + 1)
    have := most_bound a b i j
    obtain ⟨x, hx⟩ := at_lt hi
    obtain ⟨y, hy⟩ := at_lt hj
    by_cases h : x = y
    · subst h
      have := most_same hx hy
      unfold indE; omega
    · have := most_other hx hy h
      have := most_step2 a i hj
      have := most_step1 b (j + 1) hi
      have := most_bound a b i (j + 1)
      have := most_bound a b (i + 1) j
      unfold indE; omega
  low1 := fun i j hi hj => by
    have := most_bound a b i j
    unfold indE; omega
  low2 := fun i j hi hj => by
    have := most_bound a b i j
    unfold indE; omega
  s_end1 := fun j y h => by rw [drop_end, drop_at h, scr0_nil_cons]
  s_end2 := fun i x h => by rw [drop_end, drop_at h, scr0_end]
  s_done := by rw [drop_end, drop_end]; rfl
  s_keep := fun i j x h1 h2 => by rw [drop_at h1, drop_at h2, scr0_cons, if_pos rfl]
  s_repl := fun i j x y h1 h2 h hr => by omega
  s_del := fun i j x y h1 h2 h _ g => by
    have g' : mostE a b i (j + 1) ≤ mostE a b (i + 1) j := by
      have := most_other h1 h2 h
      have := lt_at h1
      have := lt_at h2
      have := most_bound a b (i + 1) j
      have := most_bound a b i (j + 1)
      have := most_bound a b i j
      unfold indE at g; omega
    unfold mostE at g'
    rw [drop_at h1, drop_at h2] at g'
    rw [drop_at h1, drop_at h2, scr0_cons, if_neg h, if_pos g']
  s_ins := fun i j x y h1 h2 h _ g => by
    have g' : ¬ mostE a b i (j + 1) ≤ mostE a b (i + 1) j := by
      have := most_other h1 h2 h
      have := lt_at h1
      have := lt_at h2
      have := most_bound a b (i + 1) j
      have := most_bound a b i (j + 1)
      have := most_bound a b i j
      unfold indE at g; omega
    unfold mostE at g'
    rw [drop_at h1, drop_at h2] at g'
    rw [drop_at h1, drop_at h2, scr0_cons, if_neg h, if_neg g']
  s_len := by
    have := scr0_len a b
    simpa using this

end Go.Proofs.Ytlloofmmblhnjaa
