/-
  The library's stable sort.
-/
import Derived.Test.YtpgaebdaakllaaaDoorSym
namespace Go.Proofs.YtpgaebdaakllaaaDoor
open Go.RowKit

theorem cut3 (X : List Nat) (a s t : Nat) : X = X.take a ++ ((X.drop a).take s ++ ((X.drop (a + s)).take t ++ X.drop (a + s + t))) := by
  conv => lhs; rw [← List.take_append_drop a X, ← List.take_append_drop s (X.drop a), ← List.take_append_drop t ((X.drop a).drop s)]
  rw [List.drop_drop, List.drop_drop]
theorem cut2 (X : List Nat) (a s : Nat) : X = X.take a ++ ((X.drop a).take s ++ X.drop (a + s)) := by
  conv => lhs; rw [← List.take_append_drop a X, ← List.take_append_drop s (X.drop a)]
  rw [List.drop_drop]

set_option maxRecDepth 100000 in
set_option maxHeartbeats 6400000 in
theorem insertion_none (A : Option Addr) (c : Nat) (w : World) :
    Calls Tryd.prog 73 #[.slice A 0 c, .int .i64 0, .int .i64 0, .func (.func 55) #[] #[]] w fun e w' => e = .returned (.tuple #[]) ∧ w' = w := by
  go_enter Tryd.func73, Tryd.ntmps73
  go_wp2
  go_loopw [8] (fun s wr => s = .int .i64 1 ∧ wr = w) (fun _ _ => 0)
  case atStart => exact ⟨rfl, rfl⟩
  case round =>
    obtain ⟨rfl, rfl⟩ := hrel
    go_wp2
    go_end0
    exact ⟨rfl, rfl⟩

set_option maxRecDepth 100000 in
set_option maxHeartbeats 6400000 in
theorem stable_none (A : Option Addr) (c : Nat) (w : World) :
    Calls Tryd.prog 68 #[.slice A 0 c, .int .i64 0, .func (.func 55) #[] #[]] w fun e w' => e = .returned (.tuple #[]) ∧ w' = w := by
  have HI := Lib.hid (insertion_none A c w)
  go_enter Tryd.func68, Tryd.ntmps68
  go_wp2
  go_loopw [7, 8] (fun s7 s8 wr => s7 = .int .i64 0 ∧ s8 = .int .i64 20 ∧ wr = w) (fun _ _ _ => 0)
  case atStart => exact ⟨rfl, rfl, rfl⟩
  case round =>
    obtain ⟨rfl, rfl, rfl⟩ := hrel
    go_wp2_with fail
    refine HI.out.mono ?_
    rintro e w1 ⟨rfl, rfl⟩
    go_wp2
    go_loopw [6] (fun s6 wr2 => s6 = .int .i64 20 ∧ wr2 = w1) (fun _ _ => 0)
    case atStart => exact ⟨rfl, rfl⟩
    case round =>
      obtain ⟨rfl, rfl⟩ := hrel
      go_wp2
      go_end0
      exact ⟨rfl, rfl⟩

set_option maxRecDepth 100000 in
set_option maxHeartbeats 25600000 in
theorem stable_any (g off n c cap : Nat) (P D Q : List Nat) (w : World) (hP : P.length = off) (hD : D.length = n) (hsz : n ≤ 1000000000)
    (hrow : Row w g cap (P ++ (D ++ Q))) :
    Calls Tryd.prog 68 #[.slice (some ⟨g, off, none⟩) n c, .int .i64 (n : Int), .func (.func 55) #[] #[]] w fun e w' => e = .returned (.tuple #[]) ∧ ∃ M, Srtd pcl D M ∧ Row w' g cap (P ++ (M ++ Q)) ∧ w.grownBy w' (some g) := by
  have HDl := Lib.hid hD
  have HPl := Lib.hid hP
  have HR0 := Lib.hid hrow
  clear hD hP hrow
  go_enter Tryd.func68, Tryd.ntmps68
  go_wp2
  go_loopw [7, 8] (fun s7 s8 wr => ∃ (a b k : Nat) (Y : List Nat), s7 = .int .i64 (a : Int) ∧ s8 = .int .i64 (b : Int) ∧ a ≤ n ∧ Hid (a = k * 20 ∧ b = a + 20 ∧ Y.length = a) ∧ Hid (Stab pcl (D.take a) Y) ∧ Hid (Blk pcl 20 0 a Y) ∧
    Hid (Row wr g cap (P ++ (Y ++ (D.drop a ++ Q)))) ∧ w.grownBy wr (some g)) (fun s7 _ _ => n - (intOf s7).toNat)
  case atStart => exact ⟨0, 20, 0, [], rfl, rfl, Nat.zero_le _, Lib.hid ⟨rfl, rfl, rfl⟩, Lib.hid (Stab.refl _), Lib.hid (Blk.none _ _ _), HR0, grown_refl _ _⟩
  case round =>
    obtain ⟨a, b, k, Y, rfl, rfl, han, HF, HS, HB, HR, hg⟩ := hrel
    have hf := HF.out
    have hdl := HDl.out
    by_cases hbn : b ≤ n
    · have t1 : decide ((b : Int) ≤ (n : Int)) = true := by simp; omega
      have hl : ((D.drop a).take 20).length = 20 := by rw [List.length_take, List.length_drop]; omega
      obtain ⟨b2, hb2⟩ : ∃ b2, b2 = b + 20 := ⟨_, rfl⟩
      have eb : (b : Int) + 20 = (b2 : Int) := by omega
      have HC := Lib.hid (insertion_any g off n c cap a b (P ++ Y) ((D.drop a).take 20) (D.drop b ++ Q) wr (by rw [List.length_append, HPl.out]; omega) (by omega) (by omega) hsz (HR.out.same (by
        have e : b = a + 20 := by omega
        rw [e, ← List.drop_drop, ← List.append_assoc (List.take 20 _), List.take_append_drop, List.append_assoc])))
      have HK : Hid (∀ M, Srtd pcl ((D.drop a).take 20) M → Stab pcl (D.take b) (Y ++ M) ∧ Blk pcl 20 0 b (Y ++ M) ∧ (Y ++ M).length = b) := Lib.hid (by
        intro M hM
        have hlM : M.length = 20 := by rw [hM.length]; exact hl
        refine ⟨?_, ?_, by rw [List.length_append]; omega⟩
        · have e : D.take b = D.take a ++ (D.drop a).take 20 := by
            have e : b = a + 20 := by omega
            rw [e, List.take_add]
          rw [e]
          exact HS.out.app hM.2
        · have h := blk_step (cl := pcl) (s := 20) (k := k) (P := Y) (M := M) (Q := []) (R := []) (by rw [List.append_nil, hf.2.2]; exact HB.out) hM.1 (by omega) (by omega)
          rw [List.append_nil] at h
          exact h.less (by omega))
      have HF2 : Hid (b = (k + 1) * 20 ∧ b2 = b + 20) := Lib.hid (by omega)
      have hab : a < b := by omega
      clear hf hdl hl hb2
      unfold cmpV at HC
      go_wp2_with fail
      refine HC.out.mono ?_
      rintro e w2 ⟨rfl, M, hM, hr2, hg2⟩
      obtain ⟨k1, k2, k3⟩ := HK.out M hM
      have HS2 := Lib.hid k1
      have HB2 := Lib.hid k2
      have HL2 := Lib.hid k3
      have HR2 : Hid (Row w2 g cap (P ++ ((Y ++ M) ++ (D.drop b ++ Q)))) := Lib.hid (hr2.same (by simp only [List.append_assoc]))
      have hg3 := grown_trans hg hg2
      clear hM hr2 hg2 hg k1 k2 k3 HC
      go_wp2
      go_roundw
      case rel => exact ⟨b, b2, k + 1, Y ++ M, rfl, by go_num, hbn, Lib.hid ⟨HF2.out.1, HF2.out.2, HL2.out⟩, HS2, HB2, HR2, hg3⟩
      case measure => simp [intOf]; omega
    · have t1 : decide ((b : Int) ≤ (n : Int)) = false := by simp; omega
      have hl : (D.drop a).length = n - a := by rw [List.length_drop]; omega
      have HC := Lib.hid (insertion_any g off n c cap a n (P ++ Y) (D.drop a) Q wr (by rw [List.length_append, HPl.out]; omega) (by omega) (by omega) hsz (HR.out.same (by simp only [List.append_assoc])))
      have HK : Hid (∀ M, Srtd pcl (D.drop a) M → Stab pcl D (Y ++ M) ∧ Blk pcl 20 0 n (Y ++ M)) := Lib.hid (by
        intro M hM
        have hlM : M.length = n - a := by rw [hM.length]; exact hl
        refine ⟨?_, ?_⟩
        · have h := HS.out.app hM.2
          rw [List.take_append_drop] at h
          exact h
        · have h := blk_step (cl := pcl) (s := 20) (k := k) (P := Y) (M := M) (Q := []) (R := []) (by rw [List.append_nil, hf.2.2]; exact HB.out) hM.1 (by omega) (by omega)
          rw [List.append_nil] at h
          exact h.less (by omega))
      clear hf hdl hl
      unfold cmpV at HC
      go_wp2_with fail
      refine HC.out.mono ?_
      rintro e w2 ⟨rfl, M, hM, hr2, hg2⟩
      obtain ⟨k1, k2⟩ := HK.out M hM
      obtain ⟨X0, hX0⟩ : ∃ X0, Y ++ M = X0 := ⟨_, rfl⟩
      have hr3 : Row w2 g cap (P ++ (X0 ++ Q)) := hr2.same (by rw [← hX0]; simp only [List.append_assoc])
      rw [hX0] at k1 k2
      have HS2 := Lib.hid k1
      have HB2 := Lib.hid k2
      have HR2 := Lib.hid hr3
      have hg3 := grown_trans hg hg2
      clear hM hr2 hr3 hg2 hg k1 k2 HC HK HS HB HR HR0 hX0
      go_wp2
      go_loopw [6, 7, 8, 9] (fun s6 _ _ _ wr => ∃ (s : Nat) (X : List Nat), s6 = .int .i64 (s : Int) ∧ 20 ≤ s ∧ s ≤ 2 * n + 20 ∧ Hid (Stab pcl D X) ∧ Hid (Blk pcl s 0 n X) ∧ Hid (Row wr g cap (P ++ (X ++ Q))) ∧ w.grownBy wr (some g)) (fun s6 _ _ _ _ => n - (intOf s6).toNat)
      case atStart => exact ⟨20, X0, rfl, Nat.le_refl _, by omega, HS2, HB2, HR2, hg3⟩
      case round =>
        obtain ⟨s, X, rfl, hs20, hs2n, HS, HB, HR, hg⟩ := hrel
        by_cases hsn : s < n
        · have t2 : decide ((s : Int) < (n : Int)) = true := by simp; omega
          obtain ⟨s2, hs2⟩ : ∃ s2, s2 = 2 * s := ⟨_, rfl⟩
          have e2 : 2 * (s : Int) = (s2 : Int) := by omega
          have e2b : (s : Int) * 2 = (s2 : Int) := by omega
          have Hs2 := Lib.hid hs2
          clear hs2 HS2 HB2 HR2 hg3
          go_wp2
          go_loopw [7, 8] (fun s7 s8 wr2 => ∃ (a b k : Nat) (X : List Nat), s7 = .int .i64 (a : Int) ∧ s8 = .int .i64 (b : Int) ∧ a ≤ n ∧ Hid (a = k * s2 ∧ b = a + s2) ∧ Hid (Stab pcl D X) ∧ Hid (Blk pcl s2 0 a X) ∧ Hid (Blk pcl s a n X) ∧ Hid (Row wr2 g cap (P ++ (X ++ Q))) ∧ w.grownBy wr2 (some g)) (fun s7 _ _ => n - (intOf s7).toNat)
          case atStart => exact ⟨0, s2, 0, X, rfl, by first | rfl | go_num, Nat.zero_le _, Lib.hid ⟨by omega, by omega⟩, HS, Lib.hid (Blk.none _ _ _), HB, HR, hg⟩
          case round =>
            clear HS HB HR hg
            obtain ⟨a, b, k, X, rfl, rfl, han, HF, HS, HB1, HB2, HR, hg⟩ := hrel
            have hf := HF.out
            have hs2 := Hs2.out
            have hXl : X.length = n := by rw [HS.out.length]; exact HDl.out
            obtain ⟨ms, hms⟩ : ∃ ms, ms = a + s := ⟨_, rfl⟩
            have em : (a : Int) + (s : Int) = (ms : Int) := by omega
            have hYl : (X.take a).length = a := by rw [List.length_take]; omega
            have ha2 : a = (k * 2) * s := by rw [hf.1, hs2, Nat.mul_assoc]
            by_cases hbn : b ≤ n
            · have t3 : decide ((b : Int) ≤ (n : Int)) = true := by simp; omega
              obtain ⟨b2, hb2⟩ : ∃ b2, b2 = b + s2 := ⟨_, rfl⟩
              have eb : (b : Int) + (s2 : Int) = (b2 : Int) := by omega
              have hXc := cut3 X a s s
              have eb2 : a + s + s = b := by omega
              rw [eb2] at hXc
              obtain ⟨Y, hY⟩ : ∃ Y, X.take a = Y := ⟨_, rfl⟩
              obtain ⟨U, hU⟩ : ∃ U, (X.drop a).take s = U := ⟨_, rfl⟩
              obtain ⟨V, hV⟩ : ∃ V, (X.drop (a + s)).take s = V := ⟨_, rfl⟩
              obtain ⟨Z, hZ⟩ : ∃ Z, X.drop b = Z := ⟨_, rfl⟩
              have lU : U.length = s := by rw [← hU, List.length_take, List.length_drop]; omega
              have lV : V.length = s := by rw [← hV, List.length_take, List.length_drop]; omega
              have lY : Y.length = a := by rw [← hY]; exact hYl
              rw [hY, hU, hV, hZ] at hXc
              have hb1 := HB2.out
              rw [hXc] at hb1
              have aU : Asc pcl U := asc_of_blk (k := k * 2) hb1 (by omega) (by omega) (by omega) (by omega)
              have aV : Asc pcl V := asc_of_blk (P := Y ++ U) (U := V) (R := Z) (k := k * 2 + 1) (s := s) (lo := a) (hi := n) (by rw [List.append_assoc]; exact hb1) (by rw [List.length_append]; omega) (by rw [List.length_append]; omega) (by rw [List.length_append, Nat.succ_mul]; omega) (by omega)
              have HC := Lib.hid (symMerge_any g off n c cap hsz (U.length + V.length) a ms b (P ++ Y) U V (Z ++ Q) wr (Nat.le_refl _) (by omega) (by omega) (by rw [List.length_append, HPl.out]; omega) (by omega) (by omega) hbn aU aV (HR.out.same (by rw [hXc]; simp only [List.append_assoc]))).calls
              have HK : Hid (∀ M, Srtd pcl (U ++ V) M → Stab pcl D (Y ++ (M ++ Z)) ∧ Blk pcl s2 0 b (Y ++ (M ++ Z)) ∧ Blk pcl s b n (Y ++ (M ++ Z))) := Lib.hid (by
                intro M hM
                have lM : M.length = s2 := by rw [hM.length, List.length_append]; omega
                have hX2 : X = Y ++ ((U ++ V) ++ Z) := by rw [hXc]; simp only [List.append_assoc]
                refine ⟨?_, ?_, ?_⟩
                · refine HS.out.trans ?_
                  rw [hX2]
                  exact (Stab.refl Y).app (hM.2.app (Stab.refl Z))
                · have h1 := HB1.out
                  rw [hX2] at h1
                  have h := blk_step (cl := pcl) (k := k) (Q := Z) (by rw [lY]; exact h1) hM.1 (by omega) (by rw [lY]; exact hf.1)
                  exact h.less (by omega)
                · have h1 := HB2.out
                  rw [hX2] at h1
                  have h := blk_behind (M := M) h1 (by rw [List.length_append]; omega) (by omega)
                  rw [lY, lM] at h
                  rw [hf.2]
                  exact h)
              have HF2 : Hid (b = (k + 1) * s2 ∧ b2 = b + s2) := Lib.hid ⟨by rw [Nat.succ_mul]; omega, hb2⟩
              have hab : a < b := by omega
              clear hf hs2 hXl hms hYl ha2 hb2 hXc eb2 hY hU hV hZ lU lV lY hb1 aU aV
              go_wp2_with fail
              try rw [em]
              refine HC.out.mono ?_
              rintro e w3 ⟨rfl, M, hM, hr2, hg2⟩
              obtain ⟨k1, k2, k3⟩ := HK.out M hM
              have HS3 := Lib.hid k1
              have HB3 := Lib.hid k2
              have HB4 := Lib.hid k3
              have HR3 : Hid (Row w3 g cap (P ++ ((Y ++ (M ++ Z)) ++ Q))) := Lib.hid (hr2.same (by simp only [List.append_assoc]))
              have hg3 := grown_trans hg hg2
              clear hM hr2 hg2 hg k1 k2 k3 HC HK
              go_wp2
              go_roundw
              case rel => exact ⟨b, b2, k + 1, Y ++ (M ++ Z), rfl, by first | rfl | go_num, hbn, HF2, HS3, HB3, HB4, HR3, hg3⟩
              case measure => simp [intOf]; omega
            · have t3 : decide ((b : Int) ≤ (n : Int)) = false := by simp; omega
              by_cases hmn : ms < n
              · have t4 : decide ((ms : Int) < (n : Int)) = true := by simp; omega
                have hXc := cut2 X a s
                obtain ⟨Y, hY⟩ : ∃ Y, X.take a = Y := ⟨_, rfl⟩
                obtain ⟨U, hU⟩ : ∃ U, (X.drop a).take s = U := ⟨_, rfl⟩
                obtain ⟨V, hV⟩ : ∃ V, X.drop (a + s) = V := ⟨_, rfl⟩
                have lU : U.length = s := by rw [← hU, List.length_take, List.length_drop]; omega
                have lV : V.length = n - ms := by rw [← hV, List.length_drop]; omega
                have lY : Y.length = a := by rw [← hY]; exact hYl
                rw [hY, hU, hV] at hXc
                have hb1 := HB2.out
                rw [hXc] at hb1
                have aU : Asc pcl U := asc_of_blk (k := k * 2) hb1 (by omega) (by omega) (by omega) (by omega)
                have aV : Asc pcl V := asc_of_blk (P := Y ++ U) (U := V) (R := []) (k := k * 2 + 1) (s := s) (lo := a) (hi := n) (by rw [List.append_nil, List.append_assoc]; exact hb1) (by rw [List.length_append]; omega) (by rw [List.length_append]; omega) (by rw [List.length_append, Nat.succ_mul]; omega) (by omega)
                have HC := Lib.hid (symMerge_any g off n c cap hsz (U.length + V.length) a ms n (P ++ Y) U V Q wr (Nat.le_refl _) (by omega) (by omega) (by rw [List.length_append, HPl.out]; omega) (by omega) (by omega) (Nat.le_refl _) aU aV (HR.out.same (by rw [hXc]; simp only [List.append_assoc]))).calls
                have HK : Hid (∀ M, Srtd pcl (U ++ V) M → Stab pcl D (Y ++ M) ∧ Blk pcl s2 0 n (Y ++ M)) := Lib.hid (by
                  intro M hM
                  have lM : M.length = s + (n - ms) := by rw [hM.length, List.length_append]; omega
                  refine ⟨?_, ?_⟩
                  · refine HS.out.trans ?_
                    rw [hXc]
                    exact (Stab.refl Y).app hM.2
                  · have h1 := HB1.out
                    rw [hXc] at h1
                    have h := blk_step (cl := pcl) (k := k) (Q := []) (by rw [lY]; exact h1) hM.1 (by omega) (by rw [lY]; exact hf.1)
                    rw [List.append_nil] at h
                    exact h.less (by omega))
                have hs22 : s2 ≤ 2 * n + 20 := by omega
                have hs21 : 20 ≤ s2 := by omega
                have hss : s < s2 := by omega
                clear hf hs2 hXl hms hYl ha2 hXc hY hU hV lU lV lY hb1 aU aV
                go_wp2_with fail
                try rw [em]
                refine HC.out.mono ?_
                rintro e w3 ⟨rfl, M, hM, hr2, hg2⟩
                obtain ⟨k1, k2⟩ := HK.out M hM
                have HS3 := Lib.hid k1
                have HB3 := Lib.hid k2
                have HR3 : Hid (Row w3 g cap (P ++ ((Y ++ M) ++ Q))) := Lib.hid (hr2.same (by simp only [List.append_assoc]))
                have hg3 := grown_trans hg hg2
                clear hM hr2 hg2 hg k1 k2 HC HK
                go_wp2
                go_roundw
                case rel => exact ⟨s2, Y ++ M, by first | rfl | go_num, hs21, hs22, HS3, HB3, HR3, hg3⟩
                case measure => simp [intOf]; omega
              · have t4 : decide ((ms : Int) < (n : Int)) = false := by simp; omega
                have HB3 : Hid (Blk pcl s2 0 n X) := Lib.hid (by
                  have hX2 : X = X.take a ++ X.drop a := (List.take_append_drop _ _).symm
                  have lD : (X.drop a).length = n - a := by rw [List.length_drop]; omega
                  have h1 := HB1.out
                  have h2 := HB2.out
                  rw [hX2] at h1 h2 ⊢
                  have h := blk_tail (cl := pcl) (s := s) (k := k) (P := X.take a) (U := X.drop a) (by rw [hYl, ← hs2]; exact h1) (by rw [hYl, lD]; exact fun i j x y q1 q2 q3 => h2 i j x y q1 q2 (by omega)) (by rw [hYl, hf.1, hs2]) (by omega)
                  rw [← hs2] at h
                  exact h.less (by omega))
                have hs22 : s2 ≤ 2 * n + 20 := by omega
                have hs21 : 20 ≤ s2 := by omega
                have hss : s < s2 := by omega
                clear hf hs2 hXl hms hYl ha2
                go_wp2
                go_roundw
                case rel => exact ⟨s2, X, by first | rfl | go_num, hs21, hs22, HS, HB3, HR, hg⟩
                case measure => simp [intOf]; omega
        · have t2 : decide ((s : Int) < (n : Int)) = false := by simp; omega
          have HE : Hid (Srtd pcl D X) := Lib.hid ⟨asc_all (s := s) (by have hl := HS.out.length; rw [HDl.out] at hl; rw [hl]; exact HB.out) (by have hl := HS.out.length; rw [HDl.out] at hl; omega), HS.out⟩
          go_wp2
          go_end0
          exact ⟨rfl, X, HE.out, HR.out, hg⟩

set_option maxRecDepth 100000 in
set_option maxHeartbeats 6400000 in
theorem sortStable_none (A : Option Addr) (c : Nat) (w : World) :
    Calls Tryd.prog 57 #[.slice A 0 c, .func (.func 55) #[] #[]] w fun e w' => e = .returned (.tuple #[]) ∧ w' = w := by
  have HC := Lib.hid (stable_none A c w)
  go_enter Tryd.func57, Tryd.ntmps57
  go_wp2_with fail
  refine HC.out.mono ?_
  rintro e w1 ⟨rfl, rfl⟩
  go_wp2
  go_end0
  exact ⟨rfl, rfl⟩

set_option maxRecDepth 100000 in
set_option maxHeartbeats 6400000 in
theorem sortStable_any (g off n c cap : Nat) (P D Q : List Nat) (w : World) (hP : P.length = off) (hD : D.length = n) (hsz : n ≤ 1000000000)
    (hrow : Row w g cap (P ++ (D ++ Q))) :
    Calls Tryd.prog 57 #[.slice (some ⟨g, off, none⟩) n c, .func (.func 55) #[] #[]] w fun e w' => e = .returned (.tuple #[]) ∧ ∃ M, Srtd pcl D M ∧ Row w' g cap (P ++ (M ++ Q)) ∧ w.grownBy w' (some g) := by
  have HC := Lib.hid (stable_any g off n c cap P D Q w hP hD hsz hrow)
  clear hP hD hrow
  go_enter Tryd.func57, Tryd.ntmps57
  go_wp2_with fail
  refine HC.out.mono ?_
  rintro e w1 ⟨rfl, hM⟩
  go_wp2
  go_end0
  exact ⟨rfl, hM⟩

end Go.Proofs.YtpgaebdaakllaaaDoor
