/-
  The library's stable sort.
  The program's directions: a copy of the rules, sorted by the length of what is looked for.
-/
import Derived.Test.YtomkipddbmnipaaDoorKSym
import Derived.Lib.SliceRun
import Derived.OwnWalk
import Derived.Laws.EntriesVeiled
namespace Go.Proofs.YtomkipddbmnipaaDoor
open Go.RowKit Go.Sort

theorem cut3 (X : List Nat) (a s t : Nat) : X = X.take a ++ ((X.drop a).take s ++ ((X.drop (a + s)).take t ++ X.drop (a + s + t))) := by
  conv => lhs; rw [← List.take_append_drop a X, ← List.take_append_drop s (X.drop a), ← List.take_append_drop t ((X.drop a).drop s)]
  rw [List.drop_drop, List.drop_drop]
theorem cut2 (X : List Nat) (a s : Nat) : X = X.take a ++ ((X.drop a).take s ++ X.drop (a + s)) := by
  conv => lhs; rw [← List.take_append_drop a X, ← List.take_append_drop s (X.drop a)]
  rw [List.drop_drop]

set_option maxRecDepth 100000 in
set_option maxHeartbeats 25600000 in
theorem stable_any (tab : Nat → RuleL) (cl : Nat → Nat) (bp g n c cap : Nat) (P D Q : List Nat) (w : World) (hcm : CmpOk tab cl bp g w) (hP : P.length = 0) (hD : D.length = n) (hsz : n ≤ 1000000000)
    (hrow : Row tab w g cap (P ++ (D ++ Q))) :
    Calls Tryd.prog 70 #[.slice (some ⟨g, 0, none⟩) n c, .int .i64 (n : Int), .func (.func 62) #[] #[.pointer (some ⟨bp, 0, none⟩)]] w fun e w' => e = .returned (.tuple #[]) ∧ ∃ M, Srtd cl D M ∧ Row tab w' g cap (P ++ (M ++ Q)) ∧ w.grownBy w' (some g) := by
  have HDl := Lib.hid hD
  have HCM := Lib.hid hcm
  have HPl := Lib.hid hP
  have HR0 := Lib.hid hrow
  clear hD hP hrow
  go_enter Tryd.func70, Tryd.ntmps70
  go_wp2
  go_loopw [7, 8] (fun s7 s8 wr => ∃ (a b k : Nat) (Y : List Nat), s7 = .int .i64 (a : Int) ∧ s8 = .int .i64 (b : Int) ∧ a ≤ n ∧ Hid (a = k * 20 ∧ b = a + 20 ∧ Y.length = a) ∧ Hid (Stab cl (D.take a) Y) ∧ Hid (Blk cl 20 0 a Y) ∧
    Hid (Row tab wr g cap (P ++ (Y ++ (D.drop a ++ Q)))) ∧ w.grownBy wr (some g)) (fun s7 _ _ => n - (intOf s7).toNat)
  case atStart => exact ⟨0, 20, 0, [], rfl, rfl, Nat.zero_le _, Lib.hid ⟨rfl, rfl, rfl⟩, Lib.hid (Stab.refl _), Lib.hid (Blk.none _ _ _), HR0, grown_refl _ _⟩
  case round =>
    obtain ⟨a, b, k, Y, rfl, rfl, han, HF, HS, HB, HR, hg⟩ := hrel
    have hf := HF.out
    have hdl := HDl.out
    by_cases hbn : b ≤ n
    · have t1 : decide ((b : Int) ≤ (n : Int)) = true := by simp; omega
      have hl : ((D.drop a).take 20).length = 20 := by rw [List.length_take, List.length_drop]; omega
      obtain ⟨b2, hb2⟩ : ∃ b2, b2 = b + 20 := ⟨_, rfl⟩
      have eb : (b : Int) + 20 = (b2 : Int) := by omega
      have HC := Lib.hid (insertion_any tab cl bp g n c cap a b (P ++ Y) ((D.drop a).take 20) (D.drop b ++ Q) wr (HCM.out.next hg) (by rw [List.length_append, HPl.out]; omega) (by omega) (by omega) hsz (HR.out.same (by
        have e : b = a + 20 := by omega
        rw [e, ← List.drop_drop, ← List.append_assoc (List.take 20 _), List.take_append_drop, List.append_assoc])))
      have HK : Hid (∀ M, Srtd cl ((D.drop a).take 20) M → Stab cl (D.take b) (Y ++ M) ∧ Blk cl 20 0 b (Y ++ M) ∧ (Y ++ M).length = b) := Lib.hid (by
        intro M hM
        have hlM : M.length = 20 := by rw [hM.length]; exact hl
        refine ⟨?_, ?_, by rw [List.length_append]; omega⟩
        · have e : D.take b = D.take a ++ (D.drop a).take 20 := by
            have e : b = a + 20 := by omega
            rw [e, List.take_add]
          rw [e]
          exact HS.out.app hM.2
        · have h := blk_step (cl := cl) (s := 20) (k := k) (P := Y) (M := M) (Q := []) (R := []) (by rw [List.append_nil, hf.2.2]; exact HB.out) hM.1 (by omega) (by omega)
          rw [List.append_nil] at h
          exact h.less (by omega))
      have HF2 : Hid (b = (k + 1) * 20 ∧ b2 = b + 20) := Lib.hid (by omega)
      have hab : a < b := by omega
      clear hf hdl hl hb2
      unfold cmpV at HC
      go_wp2_with fail
      refine HC.out.mono ?_
      rintro e w2 ⟨rfl, M, hM, hr2, hg2⟩
      obtain ⟨k1, k2, k3⟩ := HK.out M hM
      have HS2 := Lib.hid k1
      have HB2 := Lib.hid k2
      have HL2 := Lib.hid k3
      have HR2 : Hid (Row tab w2 g cap (P ++ ((Y ++ M) ++ (D.drop b ++ Q)))) := Lib.hid (hr2.same (by simp only [List.append_assoc]))
      have hg3 := grown_trans hg hg2
      clear hM hr2 hg2 hg k1 k2 k3 HC
      go_wp2
      go_roundw
      case rel => exact ⟨b, b2, k + 1, Y ++ M, rfl, by go_num, hbn, Lib.hid ⟨HF2.out.1, HF2.out.2, HL2.out⟩, HS2, HB2, HR2, hg3⟩
      case measure => simp [intOf]; omega
    · have t1 : decide ((b : Int) ≤ (n : Int)) = false := by simp; omega
      have hl : (D.drop a).length = n - a := by rw [List.length_drop]; omega
      have HC := Lib.hid (insertion_any tab cl bp g n c cap a n (P ++ Y) (D.drop a) Q wr (HCM.out.next hg) (by rw [List.length_append, HPl.out]; omega) (by omega) (by omega) hsz (HR.out.same (by simp only [List.append_assoc])))
      have HK : Hid (∀ M, Srtd cl (D.drop a) M → Stab cl D (Y ++ M) ∧ Blk cl 20 0 n (Y ++ M)) := Lib.hid (by
        intro M hM
        have hlM : M.length = n - a := by rw [hM.length]; exact hl
        refine ⟨?_, ?_⟩
        · have h := HS.out.app hM.2
          rw [List.take_append_drop] at h
          exact h
        · have h := blk_step (cl := cl) (s := 20) (k := k) (P := Y) (M := M) (Q := []) (R := []) (by rw [List.append_nil, hf.2.2]; exact HB.out) hM.1 (by omega) (by omega)
          rw [List.append_nil] at h
          exact h.less (by omega))
      clear hf hdl hl
      unfold cmpV at HC
      go_wp2_with fail
      refine HC.out.mono ?_
      rintro e w2 ⟨rfl, M, hM, hr2, hg2⟩
      obtain ⟨k1, k2⟩ := HK.out M hM
      obtain ⟨X0, hX0⟩ : ∃ X0, Y ++ M = X0 := ⟨_, rfl⟩
      have hr3 : Row tab w2 g cap (P ++ (X0 ++ Q)) := hr2.same (by rw [← hX0]; simp only [List.append_assoc])
      rw [hX0] at k1 k2
      have HS2 := Lib.hid k1
      have HB2 := Lib.hid k2
      have HR2 := Lib.hid hr3
      have hg3 := grown_trans hg hg2
      clear hM hr2 hr3 hg2 hg k1 k2 HC HK HS HB HR HR0 hX0
      go_wp2
      go_loopw [6, 7, 8, 9] (fun s6 _ _ _ wr => ∃ (s : Nat) (X : List Nat), s6 = .int .i64 (s : Int) ∧ 20 ≤ s ∧ s ≤ 2 * n + 20 ∧ Hid (Stab cl D X) ∧ Hid (Blk cl s 0 n X) ∧ Hid (Row tab wr g cap (P ++ (X ++ Q))) ∧ w.grownBy wr (some g)) (fun s6 _ _ _ _ => n - (intOf s6).toNat)
      case atStart => exact ⟨20, X0, rfl, Nat.le_refl _, by omega, HS2, HB2, HR2, hg3⟩
      case round =>
        obtain ⟨s, X, rfl, hs20, hs2n, HS, HB, HR, hg⟩ := hrel
        by_cases hsn : s < n
        · have t2 : decide ((s : Int) < (n : Int)) = true := by simp; omega
          obtain ⟨s2, hs2⟩ : ∃ s2, s2 = 2 * s := ⟨_, rfl⟩
          have e2 : 2 * (s : Int) = (s2 : Int) := by omega
          have e2b : (s : Int) * 2 = (s2 : Int) := by omega
          have Hs2 := Lib.hid hs2
          clear hs2 HS2 HB2 HR2 hg3
          go_wp2
          go_loopw [7, 8] (fun s7 s8 wr2 => ∃ (a b k : Nat) (X : List Nat), s7 = .int .i64 (a : Int) ∧ s8 = .int .i64 (b : Int) ∧ a ≤ n ∧ Hid (a = k * s2 ∧ b = a + s2) ∧ Hid (Stab cl D X) ∧ Hid (Blk cl s2 0 a X) ∧ Hid (Blk cl s a n X) ∧ Hid (Row tab wr2 g cap (P ++ (X ++ Q))) ∧ w.grownBy wr2 (some g)) (fun s7 _ _ => n - (intOf s7).toNat)
          case atStart => exact ⟨0, s2, 0, X, rfl, by first | rfl | go_num, Nat.zero_le _, Lib.hid ⟨by omega, by omega⟩, HS, Lib.hid (Blk.none _ _ _), HB, HR, hg⟩
          case round =>
            clear HS HB HR hg
            obtain ⟨a, b, k, X, rfl, rfl, han, HF, HS, HB1, HB2, HR, hg⟩ := hrel
            have hf := HF.out
            have hs2 := Hs2.out
            have hXl : X.length = n := by rw [HS.out.length]; exact HDl.out
            obtain ⟨ms, hms⟩ : ∃ ms, ms = a + s := ⟨_, rfl⟩
            have em : (a : Int) + (s : Int) = (ms : Int) := by omega
            have hYl : (X.take a).length = a := by rw [List.length_take]; omega
            have ha2 : a = (k * 2) * s := by rw [hf.1, hs2, Nat.mul_assoc]
            by_cases hbn : b ≤ n
            · have t3 : decide ((b : Int) ≤ (n : Int)) = true := by simp; omega
              obtain ⟨b2, hb2⟩ : ∃ b2, b2 = b + s2 := ⟨_, rfl⟩
              have eb : (b : Int) + (s2 : Int) = (b2 : Int) := by omega
              have hXc := cut3 X a s s
              have eb2 : a + s + s = b := by omega
              rw [eb2] at hXc
              obtain ⟨Y, hY⟩ : ∃ Y, X.take a = Y := ⟨_, rfl⟩
              obtain ⟨U, hU⟩ : ∃ U, (X.drop a).take s = U := ⟨_, rfl⟩
              obtain ⟨V, hV⟩ : ∃ V, (X.drop (a + s)).take s = V := ⟨_, rfl⟩
              obtain ⟨Z, hZ⟩ : ∃ Z, X.drop b = Z := ⟨_, rfl⟩
              have lU : U.length = s := by rw [← hU, List.length_take, List.length_drop]; omega
              have lV : V.length = s := by rw [← hV, List.length_take, List.length_drop]; omega
              have lY : Y.length = a := by rw [← hY]; exact hYl
              rw [hY, hU, hV, hZ] at hXc
              have hb1 := HB2.out
              rw [hXc] at hb1
              have aU : Asc cl U := asc_of_blk (k := k * 2) hb1 (by omega) (by omega) (by omega) (by omega)
              have aV : Asc cl V := asc_of_blk (P := Y ++ U) (U := V) (R := Z) (k := k * 2 + 1) (s := s) (lo := a) (hi := n) (by rw [List.append_assoc]; exact hb1) (by rw [List.length_append]; omega) (by rw [List.length_append]; omega) (by rw [List.length_append, Nat.succ_mul]; omega) (by omega)
              have HC := Lib.hid (symMerge_any tab cl bp g n c cap hsz (U.length + V.length) a ms b (P ++ Y) U V (Z ++ Q) wr (Nat.le_refl _) (by omega) (by omega) (by rw [List.length_append, HPl.out]; omega) (by omega) (by omega) hbn aU aV (HCM.out.next hg) (HR.out.same (by rw [hXc]; simp only [List.append_assoc]))).calls
              have HK : Hid (∀ M, Srtd cl (U ++ V) M → Stab cl D (Y ++ (M ++ Z)) ∧ Blk cl s2 0 b (Y ++ (M ++ Z)) ∧ Blk cl s b n (Y ++ (M ++ Z))) := Lib.hid (by
                intro M hM
                have lM : M.length = s2 := by rw [hM.length, List.length_append]; omega
                have hX2 : X = Y ++ ((U ++ V) ++ Z) := by rw [hXc]; simp only [List.append_assoc]
                refine ⟨?_, ?_, ?_⟩
                · refine HS.out.trans ?_
                  rw [hX2]
                  exact (Stab.refl Y).app (hM.2.app (Stab.refl Z))
                · have h1 := HB1.out
                  rw [hX2] at h1
                  have h := blk_step (cl := cl) (k := k) (Q := Z) (by rw [lY]; exact h1) hM.1 (by omega) (by rw [lY]; exact hf.1)
                  exact h.less (by omega)
                · have h1 := HB2.out
                  rw [hX2] at h1
                  have h := blk_behind (M := M) h1 (by rw [List.length_append]; omega) (by omega)
                  rw [lY, lM] at h
                  rw [hf.2]
                  exact h)
              have HF2 : Hid (b = (k + 1) * s2 ∧ b2 = b + s2) := Lib.hid ⟨by rw [Nat.succ_mul]; omega, hb2⟩
              have hab : a < b := by omega
              clear hf hs2 hXl hms hYl ha2 hb2 hXc eb2 hY hU hV hZ lU lV lY hb1 aU aV
              go_wp2_with fail
              try rw [em]
              refine HC.out.mono ?_
              rintro e w3 ⟨rfl, M, hM, hr2, hg2⟩
              obtain ⟨k1, k2, k3⟩ := HK.out M hM
              have HS3 := Lib.hid k1
              have HB3 := Lib.hid k2
              have HB4 := Lib.hid k3
              have HR3 : Hid (Row tab w3 g cap (P ++ ((Y ++ (M ++ Z)) ++ Q))) := Lib.hid (hr2.same (by simp only [List.append_assoc]))
              have hg3 := grown_trans hg hg2
              clear hM hr2 hg2 hg k1 k2 k3 HC HK
              go_wp2
              go_roundw
              case rel => exact ⟨b, b2, k + 1, Y ++ (M ++ Z), rfl, by first | rfl | go_num, hbn, HF2, HS3, HB3, HB4, HR3, hg3⟩
              case measure => simp [intOf]; omega
            · have t3 : decide ((b : Int) ≤ (n : Int)) = false := by simp; omega
              by_cases hmn : ms < n
              · have t4 : decide ((ms : Int) < (n : Int)) = true := by simp; omega
                have hXc := cut2 X a s
                obtain ⟨Y, hY⟩ : ∃ Y, X.take a = Y := ⟨_, rfl⟩
                obtain ⟨U, hU⟩ : ∃ U, (X.drop a).take s = U := ⟨_, rfl⟩
                obtain ⟨V, hV⟩ : ∃ V, X.drop (a + s) = V := ⟨_, rfl⟩
                have lU : U.length = s := by rw [← hU, List.length_take, List.length_drop]; omega
                have lV : V.length = n - ms := by rw [← hV, List.length_drop]; omega
                have lY : Y.length = a := by rw [← hY]; exact hYl
                rw [hY, hU, hV] at hXc
                have hb1 := HB2.out
                rw [hXc] at hb1
                have aU : Asc cl U := asc_of_blk (k := k * 2) hb1 (by omega) (by omega) (by omega) (by omega)
                have aV : Asc cl V := asc_of_blk (P := Y ++ U) (U := V) (R := []) (k := k * 2 + 1) (s := s) (lo := a) (hi := n) (by rw [List.append_nil, List.append_assoc]; exact hb1) (by rw [List.length_append]; omega) (by rw [List.length_append]; omega) (by rw [List.length_append, Nat.succ_mul]; omega) (by omega)
                have HC := Lib.hid (symMerge_any tab cl bp g n c cap hsz (U.length + V.length) a ms n (P ++ Y) U V Q wr (Nat.le_refl _) (by omega) (by omega) (by rw [List.length_append, HPl.out]; omega) (by omega) (by omega) (Nat.le_refl _) aU aV (HCM.out.next hg) (HR.out.same (by rw [hXc]; simp only [List.append_assoc]))).calls
                have HK : Hid (∀ M, Srtd cl (U ++ V) M → Stab cl D (Y ++ M) ∧ Blk cl s2 0 n (Y ++ M)) := Lib.hid (by
                  intro M hM
                  have lM : M.length = s + (n - ms) := by rw [hM.length, List.length_append]; omega
                  refine ⟨?_, ?_⟩
                  · refine HS.out.trans ?_
                    rw [hXc]
                    exact (Stab.refl Y).app hM.2
                  · have h1 := HB1.out
                    rw [hXc] at h1
                    have h := blk_step (cl := cl) (k := k) (Q := []) (by rw [lY]; exact h1) hM.1 (by omega) (by rw [lY]; exact hf.1)
                    rw [List.append_nil] at h
                    exact h.less (by omega))
                have hs22 : s2 ≤ 2 * n + 20 := by omega
                have hs21 : 20 ≤ s2 := by omega
                have hss : s < s2 := by omega
                clear hf hs2 hXl hms hYl ha2 hXc hY hU hV lU lV lY hb1 aU aV
                go_wp2_with fail
                try rw [em]
                refine HC.out.mono ?_
                rintro e w3 ⟨rfl, M, hM, hr2, hg2⟩
                obtain ⟨k1, k2⟩ := HK.out M hM
                have HS3 := Lib.hid k1
                have HB3 := Lib.hid k2
                have HR3 : Hid (Row tab w3 g cap (P ++ ((Y ++ M) ++ Q))) := Lib.hid (hr2.same (by simp only [List.append_assoc]))
                have hg3 := grown_trans hg hg2
                clear hM hr2 hg2 hg k1 k2 HC HK
                go_wp2
                go_roundw
                case rel => exact ⟨s2, Y ++ M, by first | rfl | go_num, hs21, hs22, HS3, HB3, HR3, hg3⟩
                case measure => simp [intOf]; omega
              · have t4 : decide ((ms : Int) < (n : Int)) = false := by simp; omega
                have HB3 : Hid (Blk cl s2 0 n X) := Lib.hid (by
                  have hX2 : X = X.take a ++ X.drop a := (List.take_append_drop _ _).symm
                  have lD : (X.drop a).length = n - a := by rw [List.length_drop]; omega
                  have h1 := HB1.out
                  have h2 := HB2.out
                  rw [hX2] at h1 h2 ⊢
                  have h := blk_tail (cl := cl) (s := s) (k := k) (P := X.take a) (U := X.drop a) (by rw [hYl, ← hs2]; exact h1) (by rw [hYl, lD]; exact fun i j x y q1 q2 q3 => h2 i j x y q1 q2 (by omega)) (by rw [hYl, hf.1, hs2]) (by omega)
                  rw [← hs2] at h
                  exact h.less (by omega))
                have hs22 : s2 ≤ 2 * n + 20 := by omega
                have hs21 : 20 ≤ s2 := by omega
                have hss : s < s2 := by omega
                clear hf hs2 hXl hms hYl ha2
                go_wp2
                go_roundw
                case rel => exact ⟨s2, X, by first | rfl | go_num, hs21, hs22, HS, HB3, HR, hg⟩
                case measure => simp [intOf]; omega
        · have t2 : decide ((s : Int) < (n : Int)) = false := by simp; omega
          have HE : Hid (Srtd cl D X) := Lib.hid ⟨asc_all (s := s) (by have hl := HS.out.length; rw [HDl.out] at hl; rw [hl]; exact HB.out) (by have hl := HS.out.length; rw [HDl.out] at hl; omega), HS.out⟩
          go_wp2
          go_end0
          exact ⟨rfl, X, HE.out, HR.out, hg⟩

set_option maxRecDepth 100000 in
set_option maxHeartbeats 6400000 in
theorem sortStable_any (tab : Nat → RuleL) (cl : Nat → Nat) (bp g n c cap : Nat) (P D Q : List Nat) (w : World) (hcm : CmpOk tab cl bp g w) (hP : P.length = 0) (hD : D.length = n) (hsz : n ≤ 1000000000)
    (hrow : Row tab w g cap (P ++ (D ++ Q))) :
    Calls Tryd.prog 61 #[.slice (some ⟨g, 0, none⟩) n c, .func (.func 62) #[] #[.pointer (some ⟨bp, 0, none⟩)]] w fun e w' => e = .returned (.tuple #[]) ∧ ∃ M, Srtd cl D M ∧ Row tab w' g cap (P ++ (M ++ Q)) ∧ w.grownBy w' (some g) := by
  have HC := Lib.hid (stable_any tab cl bp g n c cap P D Q w hcm hP hD hsz hrow)
  clear hP hD hrow
  go_enter Tryd.func61, Tryd.ntmps61
  go_wp2_with fail
  refine HC.out.mono ?_
  rintro e w1 ⟨rfl, hM⟩
  go_wp2
  go_end0
  exact ⟨rfl, hM⟩

end Go.Proofs.YtomkipddbmnipaaDoor

namespace Go.Proofs.YtomkipddbmnipaaDoor
open Go.RowKit Go.Sort

/-- The rules by their numbers. -/
def tabOf (t : List RuleL) (i : Nat) : RuleL := t.getD i ([], [])
theorem tab_get7 {t : List RuleL} {i : Nat} {x : RuleL} (h : t[i]? = some x) : tabOf t i = x := by
  unfold tabOf
  rw [List.getD, h]; rfl
theorem tab_map (t : List RuleL) : (List.range t.length).map (tabOf t) = t := by
  apply List.ext_getElem?
  intro i
  rw [List.getElem?_map]
  by_cases h : i < t.length
  · rw [List.getElem?_range h, List.getElem?_eq_getElem h]
    exact congrArg some (tab_get7 (List.getElem?_eq_getElem h))
  · rw [List.getElem?_eq_none (by rw [List.length_range]; omega), List.getElem?_eq_none (by omega)]; rfl
theorem tab_flat (t : List RuleL) : (List.range t.length).flatMap (rvi (tabOf t)) = t.flatMap rv := by
  conv => rhs; rw [← tab_map t, List.flatMap_map]
  rfl
theorem tab_short {t : List RuleL} (h : ∀ x ∈ t, x.1.length ≤ 1000 ∧ x.2.length ≤ 1000) (d : Bool) : Short d (tabOf t) := by
  intro i
  have key : (tabOf t i).1.length ≤ 1000 ∧ (tabOf t i).2.length ≤ 1000 := by
    by_cases hi : i < t.length
    · rw [tab_get7 (List.getElem?_eq_getElem hi)]
      exact h _ (List.getElem_mem hi)
    · unfold tabOf
      rw [List.getD, List.getElem?_eq_none (by omega)]
      exact ⟨Nat.zero_le _, Nat.zero_le _⟩
  unfold pick
  split
  · omega
  · show (tabOf t i).2.length ≤ 1000000
    omega
theorem info_ruleP : (Tryd.prog.info? 41).map (fun i => (i.zero, i.size, i.bytes)) = some (some (.agg #[.string ⟨#[]⟩, .string ⟨#[]⟩]), 2, 32) := by kernel_rfl

set_option maxRecDepth 100000 in
set_option maxHeartbeats 6400000 in
theorem clone_any (A : Option Addr) (n c : Nat) (t : List RuleL) (w : World) (h : Table w A n c t) (h0 : 0 < n) :
    Calls Tryd.prog 60 #[.slice A n c] w fun e w' => ∃ v', e = .returned v' ∧ w'.ownsRow w.heap.size 41 2 v' n (t.flatMap rv) ∧ Below w.heap.size w w' := by
  obtain ⟨i0, hi, hz0, hz1, hz2⟩ := info_parts info_ruleP
  have hlen := h.arr.len
  have hfew := h.few
  obtain ⟨b, off, rfl, hB0, hc0⟩ := h.cells h0
  have hcell : ∀ j u, (t.flatMap rv)[j]? = some u → w.cell? ⟨b, off + j, none⟩ = some u := by
    intro j u hu
    have hj : j < t.length * 2 := by
      have := (List.getElem?_eq_some_iff.1 hu).1
      rwa [flat_len rv_len] at this
    have e : j = (j / 2) * 2 + j % 2 := by omega
    have hi2 : j / 2 < t.length := by omega
    have hx := List.getElem?_eq_getElem hi2
    have hc := hc0 (j / 2) _ hx
    rcases Nat.mod_two_eq_zero_or_one j with hm | hm
    · have h2 := flat_at rv_len t (j / 2) _ 0 _ hx rfl
      rw [hm] at e
      rw [← e, hu] at h2
      rw [Nat.add_zero] at e
      have h3 := hc.1
      rw [← e] at h3
      rw [h3, Option.some.inj h2]
    · have h2 := flat_at rv_len t (j / 2) _ 1 _ hx rfl
      rw [hm] at e
      rw [← e, hu] at h2
      have h3 := hc.2
      rw [Nat.add_assoc, ← e] at h3
      rw [h3, Option.some.inj h2]
  have hone : ∀ u ∈ t.flatMap rv, u.oneCell' = true := fun u hu => by
    obtain ⟨x, _, hx⟩ := List.mem_flatMap.1 hu
    exact rv_one x u hx
  have hl2 : (t.flatMap rv).length = n * 2 := by rw [flat_len rv_len, hlen]
  have hown0 := World.ownsRow_made (size := 2) (e := 41) w #[] 0 (Nat.le_refl _) (Nat.zero_le _) (by simp)
  have q22 : ∀ (w : World) (a : Option Addr) (n c n' c' : Nat), (binOp .eql 25 (.slice a n c) (.slice none n' c')).run Tryd.prog w = .ok (.bool a.isNone) w := fun w a n c n' c' => Lib.run_eql_slice_nil w _ _ a n c n' c' Tryd.underlying25
  obtain ⟨X, hX⟩ : ∃ X, t.flatMap rv = X := ⟨_, rfl⟩
  rw [hX] at hcell hone hl2
  rw [hX]
  have A1 := Lib.hid hcell
  clear hcell hc0 hX hlen h
  go_enter Tryd.func60, Tryd.ntmps60
  go_wp2_with (at_builtin; refine wpList_append_own _ rfl _ _ 25 rfl w.heap.size 41 i0 _ 2 32 Tryd.underlying25 hi hz0 hz1 hz2 rfl (by decide) _ _ _ rfl hown0 ⟨b, off, none⟩ n c X rfl ?qc1 ?qc2 ?qc3 ?qc4 ?qc5 ?qc6 ?_)
  case qc1 => exact hl2
  case qc2 =>
    intro j u hj
    rw [Addr.add_lit]
    exact Lib.cell?_alloc_some _ (A1.out j u hj)
  case qc3 => exact hone
  case qc4 => rw [Nat.zero_add]; unfold maxLen; omega
  case qc5 => rw [Nat.zero_add]; omega
  case qc6 => simp
  intro v' w1 hown hgrow hnil
  go_wp2
  go_ret
  refine ⟨v', rfl, by simpa using hown, ?_⟩
  exact ((Below.refl _ w).alloc (Nat.le_refl _) _).grown hgrow (by simp) (by intro k hk; simp [Value.ownBlock] at hk; omega)

theorem Row.other {tab : Nat → RuleL} {w : World} {g cap k i : Nat} {L : List Nat} (h : Row tab w g cap L) (hk : g ≠ k) (v : Value) : Row tab (w.setCell ⟨k, i, none⟩ v) g cap L := by
  obtain ⟨cu, hb, hc, ht⟩ := h
  exact ⟨cu, (Below.heap_setCell w ⟨k, i, none⟩ v g hk).trans hb, hc, ht⟩
theorem below_put {w w' : World} {B k i : Nat} (h : Below B w w') (hk : B ≤ k) (v : Value) : Below B w (w'.setCell ⟨k, i, none⟩ v) :=
  ⟨h.os, h.tape, h.output, by rw [World.size_setCell]; exact h.size, fun j hj => (Below.heap_setCell w' ⟨k, i, none⟩ v j (by show j ≠ k; omega)).trans (h.block j hj)⟩
theorem own_open2 {w : World} {B n : Nat} {v : Value} {X : List Value} (h : w.ownsRow B 41 2 v n X) (h0 : 0 < n) : ∃ g cap cur, v = .slice (some ⟨g, 0, none⟩) n cap ∧ B ≤ g ∧ Box w g 41 cur ∧ cur.size = cap * 2 ∧ cur.toList.take (n * 2) = X := by
  rcases h.2 with ⟨_, h1⟩ | ⟨g, cap, cur, hv, hb, hg, hc, hm, hsz, htake⟩
  · omega
  · exact ⟨g, cap, cur, hv, hb, hg, hsz, htake⟩

/-- A direction as the model holds it: the sorted rules, the closure. -/
structure Dir (d : Bool) (t : List RuleL) (B : Nat) (w : World) (v : Value) : Prop where
  intro ::
  out : ∃ (g cap : Nat) (M : List Nat), B ≤ g ∧ v = .agg #[.slice (some ⟨g, 0, none⟩) t.length cap, sidesV d] ∧ Srtd (cls d (tabOf t)) (List.range t.length) M ∧ Row (tabOf t) w g cap M

set_option maxRecDepth 100000 in
set_option maxHeartbeats 6400000 in
theorem newDir_any (d : Bool) (F : Nat) (hF : sidesV d = .func (.func F) #[] #[]) (A : Option Addr) (n c : Nat) (t : List RuleL) (w : World) (h : Table w A n c t) (h0 : 0 < n) :
    Calls Tryd.prog 47 #[.slice A n c, .func (.func F) #[] #[]] w fun e w' => ∃ v, e = .returned v ∧ Dir d t w.heap.size w' v ∧ Below w.heap.size w w' := by
  have HF := Lib.hid hF
  have hlen := h.arr.len
  have HL := Lib.hid hlen
  have hfew := h.few
  have hsh := Lib.hid h.short
  have b1 := (Below.refl w.heap.size w).alloc (Nat.le_refl _) (.cells #[.func (.func F) #[] #[]] 49)
  have b2 := b1.alloc b1.size (.cells #[.slice none 0 0, .nilFunc] 51)
  have HB2 := Lib.hid b2
  have HC := Lib.hid (clone_any A n c t _ (h.up b2) h0)
  clear hF hlen h b1 b2
  go_enter Tryd.func47, Tryd.ntmps47
  go_wp2_with fail
  refine HC.out.mono ?_
  rintro e w1 ⟨v1, rfl, hown, hb1⟩
  obtain ⟨g, cap, cur, rfl, hg, hbox, hcs, hct⟩ := own_open2 hown h0
  have hsz2 : ((w.alloc (.cells #[.func (.func F) #[] #[]] 49)).alloc (.cells #[.slice none 0 0, .nilFunc] 51)).heap.size = w.heap.size + 2 := by simp
  rw [hsz2] at hg hb1
  have hR1 : Row (tabOf t) w1 g cap (List.range n) := ⟨cur, hbox, hcs, by rw [List.length_range, hct, ← HL.out, tab_flat]⟩
  have c0 : w1.cell? ⟨w.heap.size, 0, none⟩ = some (.func (.func F) #[] #[]) := (hb1.cell (p := ⟨w.heap.size, 0, none⟩) (by simp)).trans (by simp)
  have hs1 : w.heap.size + 2 ≤ w1.heap.size := by have := hb1.size; rw [hsz2] at this; exact this
  have hB1 : Below w.heap.size w w1 := HB2.out.trans (hb1.mono (by omega))
  have HCM : CmpOk (tabOf t) (cls d (tabOf t)) w.heap.size g w1 := cmpOk_of (tab_short hsh.out d) (c0.trans (by rw [HF.out])) (by omega) (by omega)
  have e0 : w1.cell? ⟨w.heap.size + 1, 0, none⟩ = some (.slice none 0 0) := (hb1.cell (p := ⟨w.heap.size + 1, 0, none⟩) (by simp)).trans (by simp)
  have e1 : w1.cell? ⟨w.heap.size + 1, 1, none⟩ = some .nilFunc := (hb1.cell (p := ⟨w.heap.size + 1, 1, none⟩) (by simp)).trans (by simp)
  have e2 : w1.frozen? ⟨w.heap.size + 1, 0, none⟩ = false := (hb1.frozen (p := ⟨w.heap.size + 1, 0, none⟩) (by simp)).trans (by simp)
  have e3 : w1.frozen? ⟨w.heap.size + 1, 1, none⟩ = false := (hb1.frozen (p := ⟨w.heap.size + 1, 1, none⟩) (by simp)).trans (by simp)
  have HS := Lib.hid (sortStable_any (tabOf t) (cls d (tabOf t)) w.heap.size g n cap cap [] (List.range n) [] w1 HCM rfl (by simp) (by omega) (by simpa using hR1))
  clear hown hbox hcs hct HC hb1 HB2 HCM hR1
  go_wp2_with fail
  refine HS.out.mono ?_
  rintro e w2 ⟨rfl, M, hM, hR2, hg2⟩
  have d0 : w2.cell? ⟨w.heap.size, 0, none⟩ = some (.func (.func F) #[] #[]) := hg2.cell c0 (fun e => by have := Option.some.inj e; simp at this; omega)
  have hbk := hg2.block (w.heap.size + 1) (by omega) (fun e => by have := Option.some.inj e; omega)
  have d1 : w2.cell? ⟨w.heap.size + 1, 0, none⟩ = some (.slice none 0 0) := (World.cell?_of_block hbk).trans e0
  have d2 : w2.cell? ⟨w.heap.size + 1, 1, none⟩ = some .nilFunc := (World.cell?_of_block hbk).trans e1
  have f1 : w2.frozen? ⟨w.heap.size + 1, 0, none⟩ = false := (World.frozen?_of_block (a := ⟨w.heap.size + 1, 0, none⟩) hbk).trans e2
  have f2 : w2.frozen? ⟨w.heap.size + 1, 1, none⟩ = false := (World.frozen?_of_block (a := ⟨w.heap.size + 1, 1, none⟩) hbk).trans e3
  have HM := Lib.hid hM
  have HR2 : Hid (Row (tabOf t) w2 g cap M) := Lib.hid (hR2.same (by simp))
  have hB2 := hB1.grown hg2 hB1.size (fun j hj => by have := Option.some.inj hj; omega)
  clear hM hR2 hg2 hbk e0 e1 e2 e3 c0 hB1 HS hsz2
  go_wp2
  (try simp only [Exit.inBlock, Exit.then]); refine bodyPost_ret (v := .agg #[.slice (some ⟨g, 0, none⟩) n cap, .func (.func F) #[] #[]]) (by simp [results, Tryd.results47, go_sem, d1, d2]) rfl ?_
  refine ⟨_, rfl, ⟨g, cap, M, by omega, by rw [HL.out, HF.out], by rw [HL.out]; exact HM.out, ?_⟩, ?_⟩
  · exact ((HR2.out.other (by omega) _).other (by omega) _)
  · exact below_put (below_put hB2 (by omega) _) (by omega) _

set_option maxRecDepth 100000 in
set_option maxHeartbeats 6400000 in
theorem forth_any (A : Option Addr) (n c : Nat) (t : List RuleL) (w : World) (h : Table w A n c t) (h0 : 0 < n) :
    Calls Tryd.prog 35 #[.slice A n c] w fun e w' => ∃ v, e = .returned v ∧ Dir true t w.heap.size w' v ∧ Below w.heap.size w w' := by
  have b1 := (Below.refl w.heap.size w).alloc (Nat.le_refl _) (.cells #[.slice none 0 0, .nilFunc] 51)
  have HB1 := Lib.hid b1
  have HC := Lib.hid (newDir_any true 48 rfl A n c t _ (h.up b1) h0)
  clear b1 h
  go_enter Tryd.func35, Tryd.ntmps35
  go_wp2_with fail
  refine HC.out.mono ?_
  rintro e w1 ⟨v, rfl, ⟨g, cap, M, hgB, rfl, hM, hR⟩, hb⟩
  have hsz2 : (w.alloc (.cells #[.slice none 0 0, .nilFunc] 51)).heap.size = w.heap.size + 1 := by simp
  rw [hsz2] at hb
  have d1 : w1.cell? ⟨w.heap.size, 0, none⟩ = some (.slice none 0 0) := (hb.cell (p := ⟨w.heap.size, 0, none⟩) (by simp)).trans (by simp)
  have d2 : w1.cell? ⟨w.heap.size, 1, none⟩ = some .nilFunc := (hb.cell (p := ⟨w.heap.size, 1, none⟩) (by simp)).trans (by simp)
  have f1 : w1.frozen? ⟨w.heap.size, 0, none⟩ = false := (hb.frozen (p := ⟨w.heap.size, 0, none⟩) (by simp)).trans (by simp)
  have f2 : w1.frozen? ⟨w.heap.size, 1, none⟩ = false := (hb.frozen (p := ⟨w.heap.size, 1, none⟩) (by simp)).trans (by simp)
  have hB2 := HB1.out.trans (hb.mono (Nat.le_succ _))
  have HM := Lib.hid hM
  have HR := Lib.hid hR
  have hne : g ≠ w.heap.size := by rw [hsz2] at hgB; omega
  have HGB : Hid (w.heap.size ≤ g) := Lib.hid (by rw [hsz2] at hgB; omega)
  clear hM hR hb HC hsz2 hgB
  unfold sidesV
  go_wp2
  (try simp only [Exit.inBlock, Exit.then]); refine bodyPost_ret (v := .agg #[.slice (some ⟨g, 0, none⟩) t.length cap, .func (.func 48) #[] #[]]) (by simp [results, Tryd.results35, go_sem, d1, d2]) rfl ?_
  exact ⟨_, rfl, ⟨g, cap, M, HGB.out, rfl, HM.out, (HR.out.other hne _).other hne _⟩, below_put (below_put hB2 (Nat.le_refl _) _) (Nat.le_refl _) _⟩

set_option maxRecDepth 100000 in
set_option maxHeartbeats 6400000 in
theorem back_any (A : Option Addr) (n c : Nat) (t : List RuleL) (w : World) (h : Table w A n c t) (h0 : 0 < n) :
    Calls Tryd.prog 39 #[.slice A n c] w fun e w' => ∃ v, e = .returned v ∧ Dir false t w.heap.size w' v ∧ Below w.heap.size w w' := by
  have b1 := (Below.refl w.heap.size w).alloc (Nat.le_refl _) (.cells #[.slice none 0 0, .nilFunc] 51)
  have HB1 := Lib.hid b1
  have HC := Lib.hid (newDir_any false 53 rfl A n c t _ (h.up b1) h0)
  clear b1 h
  go_enter Tryd.func39, Tryd.ntmps39
  go_wp2_with fail
  refine HC.out.mono ?_
  rintro e w1 ⟨v, rfl, ⟨g, cap, M, hgB, rfl, hM, hR⟩, hb⟩
  have hsz2 : (w.alloc (.cells #[.slice none 0 0, .nilFunc] 51)).heap.size = w.heap.size + 1 := by simp
  rw [hsz2] at hb
  have d1 : w1.cell? ⟨w.heap.size, 0, none⟩ = some (.slice none 0 0) := (hb.cell (p := ⟨w.heap.size, 0, none⟩) (by simp)).trans (by simp)
  have d2 : w1.cell? ⟨w.heap.size, 1, none⟩ = some .nilFunc := (hb.cell (p := ⟨w.heap.size, 1, none⟩) (by simp)).trans (by simp)
  have f1 : w1.frozen? ⟨w.heap.size, 0, none⟩ = false := (hb.frozen (p := ⟨w.heap.size, 0, none⟩) (by simp)).trans (by simp)
  have f2 : w1.frozen? ⟨w.heap.size, 1, none⟩ = false := (hb.frozen (p := ⟨w.heap.size, 1, none⟩) (by simp)).trans (by simp)
  have hB2 := HB1.out.trans (hb.mono (Nat.le_succ _))
  have HM := Lib.hid hM
  have HR := Lib.hid hR
  have hne : g ≠ w.heap.size := by rw [hsz2] at hgB; omega
  have HGB : Hid (w.heap.size ≤ g) := Lib.hid (by rw [hsz2] at hgB; omega)
  clear hM hR hb HC hsz2 hgB
  unfold sidesV
  go_wp2
  (try simp only [Exit.inBlock, Exit.then]); refine bodyPost_ret (v := .agg #[.slice (some ⟨g, 0, none⟩) t.length cap, .func (.func 53) #[] #[]]) (by simp [results, Tryd.results39, go_sem, d1, d2]) rfl ?_
  exact ⟨_, rfl, ⟨g, cap, M, HGB.out, rfl, HM.out, (HR.out.other hne _).other hne _⟩, below_put (below_put hB2 (Nat.le_refl _) _) (Nat.le_refl _) _⟩

end Go.Proofs.YtomkipddbmnipaaDoor
