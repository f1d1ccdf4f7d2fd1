/-
  The library's stable sort.
  The program's sortMarks.
-/
import Derived.Test.YtbnchnbblchmnaaGreatDoorSym
import Derived.Test.YtbnchnbblchmnaaGreatDoorPkAS
namespace Go.Proofs.YtbnchnbblchmnaaGreatDoor
open Go.RowKit

theorem cut3 (X : List Nat) (a s t : Nat) : X = X.take a ++ ((X.drop a).take s ++ ((X.drop (a + s)).take t ++ X.drop (a + s + t))) := by
  conv => lhs; rw [← List.take_append_drop a X, ← List.take_append_drop s (X.drop a), ← List.take_append_drop t ((X.drop a).drop s)]
  rw [List.drop_drop, List.drop_drop]
theorem cut2 (X : List Nat) (a s : Nat) : X = X.take a ++ ((X.drop a).take s ++ X.drop (a + s)) := by
  conv => lhs; rw [← List.take_append_drop a X, ← List.take_append_drop s (X.drop a)]
  rw [List.drop_drop]

set_option maxRecDepth 100000 in
set_option maxHeartbeats 6400000 in
theorem insertion_none (A : Option Addr) (c : Nat) (w : World) :
    Calls Tryz.prog 167 #[.slice A 0 c, .int .i64 0, .int .i64 0, .func (.func 142) #[] #[]] w fun e w' => e = .returned (.tuple #[]) ∧ w' = w := by
  go_enter Tryz.func167, Tryz.ntmps167
  go_wp2
  go_loopw [8] (fun s wr => s = .int .i64 1 ∧ wr = w) (fun _ _ => 0)
  case atStart => exact ⟨rfl, rfl⟩
  case round =>
    obtain ⟨rfl, rfl⟩ := hrel
    go_wp2
    go_end0
    exact ⟨rfl, rfl⟩

set_option maxRecDepth 100000 in
set_option maxHeartbeats 6400000 in
theorem stable_none (A : Option Addr) (c : Nat) (w : World) :
    Calls Tryz.prog 162 #[.slice A 0 c, .int .i64 0, .func (.func 142) #[] #[]] w fun e w' => e = .returned (.tuple #[]) ∧ w' = w := by
  have HI := Lib.hid (insertion_none A c w)
  go_enter Tryz.func162, Tryz.ntmps162
  go_wp2
  go_loopw [7, 8] (fun s7 s8 wr => s7 = .int .i64 0 ∧ s8 = .int .i64 20 ∧ wr = w) (fun _ _ _ => 0)
  case atStart => exact ⟨rfl, rfl, rfl⟩
  case round =>
    obtain ⟨rfl, rfl, rfl⟩ := hrel
    go_wp2_with fail
    refine HI.out.mono ?_
    rintro e w1 ⟨rfl, rfl⟩
    go_wp2
    go_loopw [6] (fun s6 wr2 => s6 = .int .i64 20 ∧ wr2 = w1) (fun _ _ => 0)
    case atStart => exact ⟨rfl, rfl⟩
    case round =>
      obtain ⟨rfl, rfl⟩ := hrel
      go_wp2
      go_end0
      exact ⟨rfl, rfl⟩

set_option maxRecDepth 100000 in
set_option maxHeartbeats 25600000 in
theorem stable_any (g off n c cap : Nat) (P D Q : List Nat) (w : World) (hP : P.length = off) (hD : D.length = n) (hsz : n ≤ 1000000000)
    (hrow : Row w g cap (P ++ (D ++ Q))) :
    Calls Tryz.prog 162 #[.slice (some ⟨g, off, none⟩) n c, .int .i64 (n : Int), .func (.func 142) #[] #[]] w fun e w' => e = .returned (.tuple #[]) ∧ ∃ M, Srtd pcl D M ∧ Row w' g cap (P ++ (M ++ Q)) ∧ w.grownBy w' (some g) := by
  have HDl := Lib.hid hD
  have HPl := Lib.hid hP
  have HR0 := Lib.hid hrow
  clear hD hP hrow
  go_enter Tryz.func162, Tryz.ntmps162
  go_wp2
  go_loopw [7, 8] (fun s7 s8 wr => ∃ (a b k : Nat) (Y : List Nat), s7 = .int .i64 (a : Int) ∧ s8 = .int .i64 (b : Int) ∧ a ≤ n ∧ Hid (a = k * 20 ∧ b = a + 20 ∧ Y.length = a) ∧ Hid (Stab pcl (D.take a) Y) ∧ Hid (Blk pcl 20 0 a Y) ∧
    Hid (Row wr g cap (P ++ (Y ++ (D.drop a ++ Q)))) ∧ w.grownBy wr (some g)) (fun s7 _ _ => n - (intOf s7).toNat)
  case atStart => exact ⟨0, 20, 0, [], rfl, rfl, Nat.zero_le _, Lib.hid ⟨rfl, rfl, rfl⟩, Lib.hid (Stab.refl _), Lib.hid (Blk.none _ _ _), HR0, grown_refl _ _⟩
  case round =>
    obtain ⟨a, b, k, Y, rfl, rfl, han, HF, HS, HB, HR, hg⟩ := hrel
    have hf := HF.out
    have hdl := HDl.out
    by_cases hbn : b ≤ n
    · have t1 : decide ((b : Int) ≤ (n : Int)) = true := by simp; omega
      have hl : ((D.drop a).take 20).length = 20 := by rw [List.length_take, List.length_drop]; omega
      obtain ⟨b2, hb2⟩ : ∃ b2, b2 = b + 20 := ⟨_, rfl⟩
      have eb : (b : Int) + 20 = (b2 : Int) := by omega
      have HC := Lib.hid (insertion_any g off n c cap a b (P ++ Y) ((D.drop a).take 20) (D.drop b ++ Q) wr (by rw [List.length_append, HPl.out]; omega) (by omega) (by omega) hsz (HR.out.same (by
        have e : b = a + 20 := by omega
        rw [e, ← List.drop_drop, ← List.append_assoc (List.take 20 _), List.take_append_drop, List.append_assoc])))
      have HK : Hid (∀ M, Srtd pcl ((D.drop a).take 20) M → Stab pcl (D.take b) (Y ++ M) ∧ Blk pcl 20 0 b (Y ++ M) ∧ (Y ++ M).length = b) := Lib.hid (by
        intro M hM
        have hlM : M.length = 20 := by rw [hM.length]; exact hl
        refine ⟨?_, ?_, by rw [List.length_append]; omega⟩
        · have e : D.take b = D.take a ++ (D.drop a).take 20 := by
            have e : b = a + 20 := by omega
            rw [e, List.take_add]
          rw [e]
          exact HS.out.app hM.2
        · have h := blk_step (cl := pcl) (s := 20) (k := k) (P := Y) (M := M) (Q := []) (R := []) (by rw [List.append_nil, hf.2.2]; exact HB.out) hM.1 (by omega) (by omega)
          rw [List.append_nil] at h
          exact h.less (by omega))
      have HF2 : Hid (b = (k + 1) * 20 ∧ b2 = b + 20) := Lib.hid (by omega)
      have hab : a < b := by omega
      clear hf hdl hl hb2
      unfold cmpV at HC
      go_wp2_with fail
      refine HC.out.mono ?_
      rintro e w2 ⟨rfl, M, hM, hr2, hg2⟩
      obtain ⟨k1, k2, k3⟩ := HK.out M hM
      have HS2 := Lib.hid k1
      have HB2 := Lib.hid k2
      have HL2 := Lib.hid k3
      have HR2 : Hid (Row w2 g cap (P ++ ((Y ++ M) ++ (D.drop b ++ Q)))) := Lib.hid (hr2.same (by simp only [List.append_assoc]))
      have hg3 := grown_trans hg hg2
      clear hM hr2 hg2 hg k1 k2 k3 HC
      go_wp2
      go_roundw
      case rel => exact ⟨b, b2, k + 1, Y ++ M, rfl, by go_num, hbn, Lib.hid ⟨HF2.out.1, HF2.out.2, HL2.out⟩, HS2, HB2, HR2, hg3⟩
      case measure => simp [intOf]; omega
    · have t1 : decide ((b : Int) ≤ (n : Int)) = false := by simp; omega
      have hl : (D.drop a).length = n - a := by rw [List.length_drop]; omega
      have HC := Lib.hid (insertion_any g off n c cap a n (P ++ Y) (D.drop a) Q wr (by rw [List.length_append, HPl.out]; omega) (by omega) (by omega) hsz (HR.out.same (by simp only [List.append_assoc])))
      have HK : Hid (∀ M, Srtd pcl (D.drop a) M → Stab pcl D (Y ++ M) ∧ Blk pcl 20 0 n (Y ++ M)) := Lib.hid (by
        intro M hM
        have hlM : M.length = n - a := by rw [hM.length]; exact hl
        refine ⟨?_, ?_⟩
        · have h := HS.out.app hM.2
          rw [List.take_append_drop] at h
          exact h
        · have h := blk_step (cl := pcl) (s := 20) (k := k) (P := Y) (M := M) (Q := []) (R := []) (by rw [List.append_nil, hf.2.2]; exact HB.out) hM.1 (by omega) (by omega)
          rw [List.append_nil] at h
          exact h.less (by omega))
      clear hf hdl hl
      unfold cmpV at HC
      go_wp2_with fail
      refine HC.out.mono ?_
      rintro e w2 ⟨rfl, M, hM, hr2, hg2⟩
      obtain ⟨k1, k2⟩ := HK.out M hM
      obtain ⟨X0, hX0⟩ : ∃ X0, Y ++ M = X0 := ⟨_, rfl⟩
      have hr3 : Row w2 g cap (P ++ (X0 ++ Q)) := hr2.same (by rw [← hX0]; simp only [List.append_assoc])
      rw [hX0] at k1 k2
      have HS2 := Lib.hid k1
      have HB2 := Lib.hid k2
      have HR2 := Lib.hid hr3
      have hg3 := grown_trans hg hg2
      clear hM hr2 hr3 hg2 hg k1 k2 HC HK HS HB HR HR0 hX0
      go_wp2
      go_loopw [6, 7, 8, 9] (fun s6 _ _ _ wr => ∃ (s : Nat) (X : List Nat), s6 = .int .i64 (s : Int) ∧ 20 ≤ s ∧ s ≤ 2 * n + 20 ∧ Hid (Stab pcl D X) ∧ Hid (Blk pcl s 0 n X) ∧ Hid (Row wr g cap (P ++ (X ++ Q))) ∧ w.grownBy wr (some g)) (fun s6 _ _ _ _ => n - (intOf s6).toNat)
      case atStart => exact ⟨20, X0, rfl, Nat.le_refl _, by omega, HS2, HB2, HR2, hg3⟩
      case round =>
        obtain ⟨s, X, rfl, hs20, hs2n, HS, HB, HR, hg⟩ := hrel
        by_cases hsn : s < n
        · have t2 : decide ((s : Int) < (n : Int)) = true := by simp; omega
          obtain ⟨s2, hs2⟩ : ∃ s2, s2 = 2 * s := ⟨_, rfl⟩
          have e2 : 2 * (s : Int) = (s2 : Int) := by omega
          have e2b : (s : Int) * 2 = (s2 : Int) := by omega
          have Hs2 := Lib.hid hs2
          clear hs2 HS2 HB2 HR2 hg3
          go_wp2
          go_loopw [7, 8] (fun s7 s8 wr2 => ∃ (a b k : Nat) (X : List Nat), s7 = .int .i64 (a : Int) ∧ s8 = .int .i64 (b : Int) ∧ a ≤ n ∧ Hid (a = k * s2 ∧ b = a + s2) ∧ Hid (Stab pcl D X) ∧ Hid (Blk pcl s2 0 a X) ∧ Hid (Blk pcl s a n X) ∧ Hid (Row wr2 g cap (P ++ (X ++ Q))) ∧ w.grownBy wr2 (some g)) (fun s7 _ _ => n - (intOf s7).toNat)
          case atStart => exact ⟨0, s2, 0, X, rfl, by first | rfl | go_num, Nat.zero_le _, Lib.hid ⟨by omega, by omega⟩, HS, Lib.hid (Blk.none _ _ _), HB, HR, hg⟩
          case round =>
            clear HS HB HR hg
            obtain ⟨a, b, k, X, rfl, rfl, han, HF, HS, HB1, HB2, HR, hg⟩ := hrel
            have hf := HF.out
            have hs2 := Hs2.out
            have hXl : X.length = n := by rw [HS.out.length]; exact HDl.out
            obtain ⟨ms, hms⟩ : ∃ ms, ms = a + s := ⟨_, rfl⟩
            have em : (a : Int) + (s : Int) = (ms : Int) := by omega
            have hYl : (X.take a).length = a := by rw [List.length_take]; omega
            have ha2 : a = (k * 2) * s := by rw [hf.1, hs2, Nat.mul_assoc]
            by_cases hbn : b ≤ n
            · have t3 : decide ((b : Int) ≤ (n : Int)) = true := by simp; omega
              obtain ⟨b2, hb2⟩ : ∃ b2, b2 = b + s2 := ⟨_, rfl⟩
              have eb : (b : Int) + (s2 : Int) = (b2 : Int) := by omega
              have hXc := cut3 X a s s
              have eb2 : a + s + s = b := by omega
              rw [eb2] at hXc
              obtain ⟨Y, hY⟩ : ∃ Y, X.take a = Y := ⟨_, rfl⟩
              obtain ⟨U, hU⟩ : ∃ U, (X.drop a).take s = U := ⟨_, rfl⟩
              obtain ⟨V, hV⟩ : ∃ V, (X.drop (a + s)).take s = V := ⟨_, rfl⟩
              obtain ⟨Z, hZ⟩ : ∃ Z, X.drop b = Z := ⟨_, rfl⟩
              have lU : U.length = s := by rw [← hU, List.length_take, List.length_drop]; omega
              have lV : V.length = s := by rw [← hV, List.length_take, List.length_drop]; omega
              have lY : Y.length = a := by rw [← hY]; exact hYl
              rw [hY, hU, hV, hZ] at hXc
              have hb1 := HB2.out
              rw [hXc] at hb1
              have aU : Asc pcl U := asc_of_blk (k := k * 2) hb1 (by omega) (by omega) (by omega) (by omega)
              have aV : Asc pcl V := asc_of_blk (P := Y ++ U) (U := V) (R := Z) (k := k * 2 + 1) (s := s) (lo := a) (hi := n) (by rw [List.append_assoc]; exact hb1) (by rw [List.length_append]; omega) (by rw [List.length_append]; omega) (by rw [List.length_append, Nat.succ_mul]; omega) (by omega)
              have HC := Lib.hid (symMerge_any g off n c cap hsz (U.length + V.length) a ms b (P ++ Y) U V (Z ++ Q) wr (Nat.le_refl _) (by omega) (by omega) (by rw [List.length_append, HPl.out]; omega) (by omega) (by omega) hbn aU aV (HR.out.same (by rw [hXc]; simp only [List.append_assoc]))).calls
              have HK : Hid (∀ M, Srtd pcl (U ++ V) M → Stab pcl D (Y ++ (M ++ Z)) ∧ Blk pcl s2 0 b (Y ++ (M ++ Z)) ∧ Blk pcl s b n (Y ++ (M ++ Z))) := Lib.hid (by
                intro M hM
                have lM : M.length = s2 := by rw [hM.length, List.length_append]; omega
                have hX2 : X = Y ++ ((U ++ V) ++ Z) := by rw [hXc]; simp only [List.append_assoc]
                refine ⟨?_, ?_, ?_⟩
                · refine HS.out.trans ?_
                  rw [hX2]
                  exact (Stab.refl Y).app (hM.2.app (Stab.refl Z))
                · have h1 := HB1.out
                  rw [hX2] at h1
                  have h := blk_step (cl := pcl) (k := k) (Q := Z) (by rw [lY]; exact h1) hM.1 (by omega) (by rw [lY]; exact hf.1)
                  exact h.less (by omega)
                · have h1 := HB2.out
                  rw [hX2] at h1
                  have h := blk_behind (M := M) h1 (by rw [List.length_append]; omega) (by omega)
                  rw [lY, lM] at h
                  rw [hf.2]
                  exact h)
              have HF2 : Hid (b = (k + 1) * s2 ∧ b2 = b + s2) := Lib.hid ⟨by rw [Nat.succ_mul]; omega, hb2⟩
              have hab : a < b := by omega
              clear hf hs2 hXl hms hYl ha2 hb2 hXc eb2 hY hU hV hZ lU lV lY hb1 aU aV
              go_wp2_with fail
              try rw [em]
              refine HC.out.mono ?_
              rintro e w3 ⟨rfl, M, hM, hr2, hg2⟩
              obtain ⟨k1, k2, k3⟩ := HK.out M hM
              have HS3 := Lib.hid k1
              have HB3 := Lib.hid k2
              have HB4 := Lib.hid k3
              have HR3 : Hid (Row w3 g cap (P ++ ((Y ++ (M ++ Z)) ++ Q))) := Lib.hid (hr2.same (by simp only [List.append_assoc]))
              have hg3 := grown_trans hg hg2
              clear hM hr2 hg2 hg k1 k2 k3 HC HK
              go_wp2
              go_roundw
              case rel => exact ⟨b, b2, k + 1, Y ++ (M ++ Z), rfl, by first | rfl | go_num, hbn, HF2, HS3, HB3, HB4, HR3, hg3⟩
              case measure => simp [intOf]; omega
            · have t3 : decide ((b : Int) ≤ (n : Int)) = false := by simp; omega
              by_cases hmn : ms < n
              · have t4 : decide ((ms : Int) < (n : Int)) = true := by simp; omega
                have hXc := cut2 X a s
                obtain ⟨Y, hY⟩ : ∃ Y, X.take a = Y := ⟨_, rfl⟩
                obtain ⟨U, hU⟩ : ∃ U, (X.drop a).take s = U := ⟨_, rfl⟩
                obtain ⟨V, hV⟩ : ∃ V, X.drop (a + s) = V := ⟨_, rfl⟩
                have lU : U.length = s := by rw [← hU, List.length_take, List.length_drop]; omega
                have lV : V.length = n - ms := by rw [← hV, List.length_drop]; omega
                have lY : Y.length = a := by rw [← hY]; exact hYl
                rw [hY, hU, hV] at hXc
                have hb1 := HB2.out
                rw [hXc] at hb1
                have aU : Asc pcl U := asc_of_blk (k := k * 2) hb1 (by omega) (by omega) (by omega) (by omega)
                have aV : Asc pcl V := asc_of_blk (P := Y ++ U) (U := V) (R := []) (k := k * 2 + 1) (s := s) (lo := a) (hi := n) (by rw [List.append_nil, List.append_assoc]; exact hb1) (by rw [List.length_append]; omega) (by rw [List.length_append]; omega) (by rw [List.length_append, Nat.succ_mul]; omega) (by omega)
                have HC := Lib.hid (symMerge_any g off n c cap hsz (U.length + V.length) a ms n (P ++ Y) U V Q wr (Nat.le_refl _) (by omega) (by omega) (by rw [List.length_append, HPl.out]; omega) (by omega) (by omega) (Nat.le_refl _) aU aV (HR.out.same (by rw [hXc]; simp only [List.append_assoc]))).calls
                have HK : Hid (∀ M, Srtd pcl (U ++ V) M → Stab pcl D (Y ++ M) ∧ Blk pcl s2 0 n (Y ++ M)) := Lib.hid (by
                  intro M hM
                  have lM : M.length = s + (n - ms) := by rw [hM.length, List.length_append]; omega
                  refine ⟨?_, ?_⟩
                  · refine HS.out.trans ?_
                    rw [hXc]
                    exact (Stab.refl Y).app hM.2
                  · have h1 := HB1.out
                    rw [hXc] at h1
                    have h := blk_step (cl := pcl) (k := k) (Q := []) (by rw [lY]; exact h1) hM.1 (by omega) (by rw [lY]; exact hf.1)
                    rw [List.append_nil] at h
                    exact h.less (by omega))
                have hs22 : s2 ≤ 2 * n + 20 := by omega
                have hs21 : 20 ≤ s2 := by omega
                have hss : s < s2 := by omega
                clear hf hs2 hXl hms hYl ha2 hXc hY hU hV lU lV lY hb1 aU aV
                go_wp2_with fail
                try rw [em]
                refine HC.out.mono ?_
                rintro e w3 ⟨rfl, M, hM, hr2, hg2⟩
                obtain ⟨k1, k2⟩ := HK.out M hM
                have HS3 := Lib.hid k1
                have HB3 := Lib.hid k2
                have HR3 : Hid (Row w3 g cap (P ++ ((Y ++ M) ++ Q))) := Lib.hid (hr2.same (by simp only [List.append_assoc]))
                have hg3 := grown_trans hg hg2
                clear hM hr2 hg2 hg k1 k2 HC HK
                go_wp2
                go_roundw
                case rel => exact ⟨s2, Y ++ M, by first | rfl | go_num, hs21, hs22, HS3, HB3, HR3, hg3⟩
                case measure => simp [intOf]; omega
              · have t4 : decide ((ms : Int) < (n : Int)) = false := by simp; omega
                have HB3 : Hid (Blk pcl s2 0 n X) := Lib.hid (by
                  have hX2 : X = X.take a ++ X.drop a := (List.take_append_drop _ _).symm
                  have lD : (X.drop a).length = n - a := by rw [List.length_drop]; omega
                  have h1 := HB1.out
                  have h2 := HB2.out
                  rw [hX2] at h1 h2 ⊢
                  have h := blk_tail (cl := pcl) (s := s) (k := k) (P := X.take a) (U := X.drop a) (by rw [hYl, ← hs2]; exact h1) (by rw [hYl, lD]; exact fun i j x y q1 q2 q3 => h2 i j x y q1 q2 (by omega)) (by rw [hYl, hf.1, hs2]) (by omega)
                  rw [← hs2] at h
                  exact h.less (by omega))
                have hs22 : s2 ≤ 2 * n + 20 := by omega
                have hs21 : 20 ≤ s2 := by omega
                have hss : s < s2 := by omega
                clear hf hs2 hXl hms hYl ha2
                go_wp2
                go_roundw
                case rel => exact ⟨s2, X, by first | rfl | go_num, hs21, hs22, HS, HB3, HR, hg⟩
                case measure => simp [intOf]; omega
        · have t2 : decide ((s : Int) < (n : Int)) = false := by simp; omega
          have HE : Hid (Srtd pcl D X) := Lib.hid ⟨asc_all (s := s) (by have hl := HS.out.length; rw [HDl.out] at hl; rw [hl]; exact HB.out) (by have hl := HS.out.length; rw [HDl.out] at hl; omega), HS.out⟩
          go_wp2
          go_end0
          exact ⟨rfl, X, HE.out, HR.out, hg⟩

set_option maxRecDepth 100000 in
set_option maxHeartbeats 6400000 in
theorem sortStable_none (A : Option Addr) (c : Nat) (w : World) :
    Calls Tryz.prog 146 #[.slice A 0 c, .func (.func 142) #[] #[]] w fun e w' => e = .returned (.tuple #[]) ∧ w' = w := by
  have HC := Lib.hid (stable_none A c w)
  go_enter Tryz.func146, Tryz.ntmps146
  go_wp2_with fail
  refine HC.out.mono ?_
  rintro e w1 ⟨rfl, rfl⟩
  go_wp2
  go_end0
  exact ⟨rfl, rfl⟩

set_option maxRecDepth 100000 in
set_option maxHeartbeats 6400000 in
theorem sortStable_any (g off n c cap : Nat) (P D Q : List Nat) (w : World) (hP : P.length = off) (hD : D.length = n) (hsz : n ≤ 1000000000)
    (hrow : Row w g cap (P ++ (D ++ Q))) :
    Calls Tryz.prog 146 #[.slice (some ⟨g, off, none⟩) n c, .func (.func 142) #[] #[]] w fun e w' => e = .returned (.tuple #[]) ∧ ∃ M, Srtd pcl D M ∧ Row w' g cap (P ++ (M ++ Q)) ∧ w.grownBy w' (some g) := by
  have HC := Lib.hid (stable_any g off n c cap P D Q w hP hD hsz hrow)
  clear hP hD hrow
  go_enter Tryz.func146, Tryz.ntmps146
  go_wp2_with fail
  refine HC.out.mono ?_
  rintro e w1 ⟨rfl, hM⟩
  go_wp2
  go_end0
  exact ⟨rfl, hM⟩

end Go.Proofs.YtbnchnbblchmnaaGreatDoor

namespace Go.Proofs.YtbnchnbblchmnaaGreatDoor
open Go.RowKit

/-! Slice expressions with two bounds, and empty ones. -/
theorem slice_mid {P : Program} (t : TypeId) (ht : P.underlying t = some (.slice (P.elem t))) (hs : ∀ W, (sizeOf (P.elem t)).run P W = .ok 1 W) (b off n l h c : Nat) (hlh : l < h) (hc : h ≤ c) (W : World) :
    (Instr.sliceAt t (.slice (some ⟨b, off, none⟩) n c) (some (.int .i64 (l : Int))) (some (.int .i64 (h : Int))) none).run P W = .ok (.slice (some ⟨b, off + l, none⟩) (h - l) (c - l)) W := by
  rw [run_sliceAt_slice W _ _ _ _ _ ht, run_slice_lh W _ _ n c ht .i64 .i64 (l : Int) (h : Int) (by omega) (by omega) (by omega), hs]
  simp only [Result.andThen, sliced, Int.toNat_natCast, Nat.mul_one]
  rw [if_neg (by omega), Option.map_some, add_plain]
theorem slice_same {P : Program} (t : TypeId) (ht : P.underlying t = some (.slice (P.elem t))) (hs : ∀ W, (sizeOf (P.elem t)).run P W = .ok 1 W) (A : Option Addr) (n l c : Nat) (hc : l ≤ c) :
    ∃ A' c', ∀ W, (Instr.sliceAt t (.slice A n c) (some (.int .i64 (l : Int))) (some (.int .i64 (l : Int))) none).run P W = .ok (.slice A' 0 c') W := by
  refine ⟨if c = l then A else A.map (·.add l), c - l, fun W => ?_⟩
  rw [run_sliceAt_slice W _ _ _ _ _ ht, run_slice_lh W _ _ n c ht .i64 .i64 (l : Int) (l : Int) (by omega) (by omega) (by omega), hs]
  simp only [Result.andThen, sliced, Int.toNat_natCast, Nat.mul_one, Nat.sub_self]
theorem slice_end {P : Program} (t : TypeId) (ht : P.underlying t = some (.slice (P.elem t))) (hs : ∀ W, (sizeOf (P.elem t)).run P W = .ok 1 W) (A : Option Addr) (n c : Nat) :
    ∃ A' c', ∀ W, (Instr.sliceAt t (.slice A n c) (some (.int .i64 (n : Int))) none none).run P W = .ok (.slice A' 0 c') W := by
  refine ⟨if c = n then A else A.map (·.add n), c - n, fun W => ?_⟩
  rw [run_sliceAt_slice W _ _ _ _ _ ht, run_slice_l W _ _ n c ht .i64 (n : Int) (by omega) (by omega), hs]
  simp only [Result.andThen, sliced, Int.toNat_natCast, Nat.mul_one, Nat.sub_self]

/-! Sorting of marks as the document has it, and by the stable sort. -/
theorem ins_stop (c x : Nat) (hx : clM x = 0) (R : List Nat) : ∀ A : List Nat, insB clM c (A ++ x :: R) = insB clM c A ++ x :: R
  | [] => by
    have h : ¬ (0 < clM c ∧ clM c < clM x) := by omega
    show (if 0 < clM c ∧ clM c < clM x then _ else _) = _
    rw [if_neg h]
    rfl
  | p :: A => by
    rw [List.cons_append, insB, insB]
    split
    · rw [ins_stop c x hx R A]; rfl
    · rfl
theorem sort_stop (x : Nat) (hx : clM x = 0) (R : List Nat) : ∀ (l A : List Nat), sortB clM (A ++ x :: R) l = sortB clM A l ++ x :: R
  | [], A => rfl
  | c :: l, A => by rw [sortB_cons, sortB_cons, ins_stop c x hx R A, sort_stop x hx R l]
theorem ins_split (y : Nat) (hy : 0 < clM y) : ∀ R : List Nat, ∃ R1 R2, R = R1 ++ R2 ∧ insB clM y R = R1 ++ y :: R2 ∧ (∀ u ∈ R1, clM y < clM u) ∧ (R2 = [] ∨ ∃ p R', R2 = p :: R' ∧ clM p ≤ clM y)
  | [] => ⟨[], [], rfl, rfl, by simp, .inl rfl⟩
  | p :: R => by
    by_cases h : clM y < clM p
    · obtain ⟨R1, R2, e1, e2, e3, e4⟩ := ins_split y hy R
      refine ⟨p :: R1, R2, by rw [e1]; rfl, by rw [insB, if_pos ⟨hy, h⟩, e2]; rfl, ?_, e4⟩
      intro u hu
      rcases List.mem_cons.1 hu with rfl | hu
      · exact h
      · exact e3 u hu
    · exact ⟨[], p :: R, rfl, by rw [insB, if_neg (fun q => h q.2)]; rfl, by simp, .inr ⟨p, R, rfl, by omega⟩⟩
theorem sort_srtd : ∀ (n : Nat) (U : List Nat), U.length = n → (∀ u ∈ U, 0 < clM u) → Srtd clM U (sortB clM [] U).reverse
  | 0, U, hn, _ => by
    rw [List.length_eq_zero_iff.1 hn]
    exact Srtd.self asc_nil
  | n + 1, U, hn, h => by
    have hne : U ≠ [] := fun e => by rw [e] at hn; simp at hn
    obtain ⟨U', y, rfl⟩ : ∃ U' y, U = U' ++ [y] := ⟨U.dropLast, U.getLast hne, (List.dropLast_concat_getLast hne).symm⟩
    have ih := sort_srtd n U' (by simpa using hn) fun u hu => h u (List.mem_append_left _ hu)
    have hy := h y (by simp)
    rw [sortB_app]
    show Srtd clM (U' ++ [y]) (insB clM y (sortB clM [] U')).reverse
    obtain ⟨R1, R2, e1, e2, e3, e4⟩ := ins_split y hy (sortB clM [] U')
    refine ih.then_ ?_
    have hasc := ih.1
    have g1 : (sortB clM [] U').reverse = R2.reverse ++ R1.reverse := by rw [e1, List.reverse_append]
    have g2 : (insB clM y (sortB clM [] U')).reverse = R2.reverse ++ y :: R1.reverse := by rw [e2]; simp
    rw [g1] at hasc
    rw [g1, g2]
    refine srt_right hasc ?_ (fun u hu => e3 u (List.mem_reverse.1 hu))
    rcases e4 with rfl | ⟨p, R', rfl, hp⟩
    · simp
    · rw [List.reverse_cons] at hasc ⊢
      exact asc_last (asc_app.1 hasc).1 hp
theorem pcl_mark {c : Nat} (h : 0 < clM c) : pcl c = clM c := by
  unfold clM at h ⊢
  split at h
  · rename_i hk
    rw [if_pos hk]
    unfold pcl
    by_cases h1 : c = 807
    · subst h1; rfl
    by_cases h2 : c = 808
    · subst h2; rfl
    rw [if_neg h1, if_neg h2, beq_false h1, beq_false h2]
    by_cases h3 : c = 803
    · subst h3; rfl
    · rw [if_neg h3, beq_false h3]; rfl
  · omega
theorem Srtd.congr {cl cl' : Nat → Nat} {U M : List Nat} (h : Srtd cl U M) (e : ∀ u ∈ U, cl u = cl' u) : Srtd cl' U M := by
  have em : ∀ u ∈ M, cl u = cl' u := fun u hu => e u (h.2.mem.1 hu)
  refine ⟨?_, fun k => ?_⟩
  · refine List.Pairwise.imp_of_mem ?_ h.1
    intro a b ha hb hab
    rw [← em a ha, ← em b hb]
    exact hab
  · have f : ∀ L : List Nat, (∀ u ∈ L, cl u = cl' u) → flt cl' k L = flt cl k L := fun L hL => by
      unfold flt
      exact List.filter_congr fun u hu => by rw [hL u hu]
    rw [f M em, f U e, h.2 k]
/-- What a run of marks becomes. -/
theorem run_sorted {U M : List Nat} (hU : ∀ u ∈ U, 0 < clM u) (h : Srtd pcl U M) : M = (sortB clM [] U).reverse :=
  (h.congr fun u hu => pcl_mark (hU u hu)).uniq (sort_srtd U.length U rfl hU)

theorem Spans.grown {w w' : World} {g : Nat} (h : Spans w) (hg : w.grownBy w' (some g)) (hne : g ≠ 0) : Spans w' := by
  have hl := h.lt
  obtain ⟨t, fz, h⟩ := h
  exact ⟨t, fz, (hg.block 0 hl (by intro e; exact hne (Option.some.inj e).symm)).trans h⟩
theorem Row.below {w w' : World} {g cap : Nat} {L : List Nat} (h : Row w g cap L) (hb : Below w.heap.size w w') : Row w' g cap L := by
  obtain ⟨cu, h1, h2, h3⟩ := h
  exact ⟨cu, h1.below hb h1.lt, h2, h3⟩
theorem Row.lt {w : World} {g cap : Nat} {L : List Nat} (h : Row w g cap L) : g < w.heap.size := by
  obtain ⟨cu, h1, _⟩ := h
  exact h1.lt
theorem at_drop {S D : List Nat} {st k x : Nat} (hS : S.length = st) (hk : st ≤ k) (hx : D[k]? = some x) : (S ++ D.drop st)[k]? = some x := by
  rw [get_right (by omega), List.getElem?_drop, hS, show st + (k - st) = k by omega]
  exact hx
theorem drop_cut (D : List Nat) {st k : Nat} (h : st ≤ k) : D.drop st = (D.drop st).take (k - st) ++ D.drop k := by
  conv => lhs; rw [← List.take_append_drop (k - st) (D.drop st)]
  rw [List.drop_drop, show st + (k - st) = k by omega]
theorem take_cut (D : List Nat) {st k : Nat} (h : st ≤ k) : D.take k = D.take st ++ (D.drop st).take (k - st) := by
  have e : k = st + (k - st) := by omega
  conv => lhs; rw [e]
  exact List.take_add
/-- Behind what is no mark, the marks are sorted by themselves. -/
def Parted (T : List Nat) : Prop := ∀ U, sortB clM T U = sortB clM [] U ++ T
theorem parted_nil : Parted [] := fun U => by rw [List.append_nil]
theorem parted_cons {x : Nat} (hx : clM x = 0) (R : List Nat) : Parted (x :: R) := fun U => sort_stop x hx R U []

set_option maxRecDepth 100000 in
set_option maxHeartbeats 12800000 in
theorem sortMarks_row (g n cap : Nat) (D : List Nat) (w : World) (hS : Spans w) (hg0 : g ≠ 0) (hD : D.length = n) (hnc : n ≤ cap) (hn : n ≤ 1000000) (hrow : Row w g cap D) :
    Calls Tryz.prog 115 #[.slice (some ⟨g, 0, none⟩) n cap] w fun e w' => e = .returned (.tuple #[]) ∧ Row w' g cap (sortB clM [] D).reverse ∧ w.grownBy w' (some g) := by
  have hss := size_elem_int
  have HDl := Lib.hid hD
  have HR0 := Lib.hid hrow
  have HS0 := Lib.hid hS
  clear hD hrow hS
  go_enter Tryz.func115, Tryz.ntmps115
  go_wp2
  go_loopw [3, 4, 5, 8] (fun s3 _ _ s8 wr => ∃ (st k : Nat) (S : List Nat), s3 = .int .i64 (st : Int) ∧ s8 = .int .i64 (k : Int) ∧ st ≤ k ∧ k ≤ n ∧ Hid (S.length = st ∧ S = (sortB clM [] (D.take st)).reverse) ∧ Hid (Parted (sortB clM [] (D.take st))) ∧ Hid (∀ u ∈ (D.drop st).take (k - st), 0 < clM u) ∧
    Hid (Row wr g cap (S ++ D.drop st)) ∧ w.grownBy wr (some g)) (fun _ _ _ s8 _ => n - (intOf s8).toNat)
  case atStart => exact ⟨0, 0, [], rfl, rfl, Nat.le_refl _, Nat.zero_le _, Lib.hid ⟨rfl, rfl⟩, Lib.hid parted_nil, Lib.hid (by simp), HR0, grown_refl _ _⟩
  case round =>
    obtain ⟨st, k, S, rfl, rfl, hstk, hkn, HSl, HPt, HMk, HR, hg⟩ := hrel
    have hSp : Spans wr := HS0.out.grown hg hg0
    by_cases hlt : k < n
    · have t1 : decide ((k : Int) < (n : Int)) = true := by simp; omega
      have kz : (k : Int) < (n : Int) := by omega
      obtain ⟨x, hx⟩ := get_some (l := D) (i := k) (by have := HDl.out; omega)
      have d0 : wr.cell? ⟨g, k, none⟩ = some (.int .i64 (x : Int)) := HR.out.cell (at_drop HSl.out.1 hstk hx)
      have HM := Lib.hid (prIsMark_any x wr hSp)
      cases hmk : isM x with
      | true =>
        rw [hmk] at HM
        have HMk2 : Hid (∀ u ∈ (D.drop st).take (k + 1 - st), 0 < clM u) := Lib.hid (by
          have e : k + 1 - st = (k - st) + 1 := by omega
          rw [e, take_next (show (D.drop st)[k - st]? = some x by rw [List.getElem?_drop, show st + (k - st) = k by omega]; exact hx)]
          intro u hu
          rcases List.mem_append.1 hu with hu | hu
          · exact HMk.out u hu
          · rw [List.mem_singleton.1 hu]; exact isM_pos.1 hmk)
        clear hx hmk hSp
        go_wp2_with fail
        refine HM.out.mono ?_
        rintro e w2 ⟨rfl, k2⟩
        have HR2 := Lib.hid (HR.out.below k2)
        have hg2 := grown_trans hg (grown_of_below (some g) k2)
        go_wp2
        go_roundw
        case rel => exact ⟨st, k + 1, S, rfl, by go_num, by omega, by omega, HSl, HPt, HMk2, HR2, hg2⟩
        case measure => simp [intOf]; omega
      | false =>
        rw [hmk] at HM
        have hx0 := isM_zero.1 hmk
        have hU : ((D.drop st).take (k - st)).length = k - st := by rw [List.length_take, List.length_drop]; have := HDl.out; omega
        have HK : Hid (∀ M w', Srtd pcl ((D.drop st).take (k - st)) M → Row w' g cap (S ++ (M ++ D.drop k)) → ∃ S', (S'.length = k + 1 ∧ S' = (sortB clM [] (D.take (k + 1))).reverse) ∧ Parted (sortB clM [] (D.take (k + 1))) ∧ Row w' g cap (S' ++ D.drop (k + 1))) := Lib.hid (by
          intro M w' hM hr
          have eM := run_sorted HMk.out hM
          have eT : sortB clM [] (D.take (k + 1)) = x :: (sortB clM [] ((D.drop st).take (k - st)) ++ sortB clM [] (D.take st)) := by
            rw [take_next hx, sortB_app, take_cut D hstk, sortB_app, HPt.out]
            exact ins_zero clM hx0 _
          refine ⟨S ++ (M ++ [x]), ⟨?_, ?_⟩, ?_, hr.same ?_⟩
          · rw [List.length_append, List.length_append, HSl.out.1, hM.length, hU, List.length_singleton]; omega
          · rw [eT, List.reverse_cons, List.reverse_append, ← HSl.out.2, ← eM, List.append_assoc]
          · rw [eT]
            exact parted_cons hx0 _
          · obtain ⟨h1, h2⟩ := List.getElem?_eq_some_iff.1 hx
            rw [List.drop_eq_getElem_cons h1, h2]
            simp)
        have HR1 : Hid (Row wr g cap (S ++ ((D.drop st).take (k - st) ++ D.drop k))) := Lib.hid (HR.out.same (by rw [← drop_cut D hstk]))
        by_cases hsk : st < k
        · have hsl := slice_mid (P := Tryz.prog) 27 elem_ints hss g 0 n st k cap hsk (by omega)
          simp only [Nat.zero_add] at hsl
          obtain ⟨m, hm⟩ : ∃ m, k - st = m := ⟨_, rfl⟩
          obtain ⟨c2, hc2⟩ : ∃ c2, cap - st = c2 := ⟨_, rfl⟩
          have HSS := Lib.hid (fun W (h : Row W g cap (S ++ ((D.drop st).take (k - st) ++ D.drop k))) => sortStable_any g st m c2 cap S ((D.drop st).take (k - st)) (D.drop k) W HSl.out.1 (by omega) (by omega) h)
          rw [hm, hc2] at hsl
          clear hx hmk hSp hx0 hU hm hc2
          go_wp2_with fail
          refine HM.out.mono ?_
          rintro e w2 ⟨rfl, k2⟩
          have HR2 := Lib.hid (HR1.out.below k2)
          have hg2 := grown_trans hg (grown_of_below (some g) k2)
          go_wp2_with fail
          refine (HSS.out _ HR2.out).mono ?_
          rintro e w3 ⟨rfl, M, hM, hr3, hg3⟩
          obtain ⟨S', q1, q2, q3⟩ := HK.out M w3 hM hr3
          have Q1 := Lib.hid q1
          have Q2 := Lib.hid q2
          have Q3 := Lib.hid q3
          have hg4 := grown_trans hg2 hg3
          clear q1 q2 q3 hM hr3
          go_wp2
          go_roundw
          case rel => exact ⟨k + 1, k + 1, S', by go_num, by go_num, Nat.le_refl _, by omega, Q1, Q2, Lib.hid (by rw [Nat.sub_self]; simp), Q3, hg4⟩
          case measure => simp [intOf]; omega
        · obtain rfl : st = k := by omega
          obtain ⟨A', c', hsl⟩ := slice_same (P := Tryz.prog) 27 elem_ints hss (some ⟨g, 0, none⟩) n st cap (by omega)
          have HSS := Lib.hid (fun W => sortStable_none A' c' W)
          have HE : Hid (∀ w', Row w' g cap (S ++ ((D.drop st).take (st - st) ++ D.drop st)) → Row w' g cap (S ++ ([] ++ D.drop st))) := Lib.hid (fun w' h => h.same (by rw [Nat.sub_self]; simp))
          have HZ : Hid (Srtd pcl ((D.drop st).take (st - st)) []) := Lib.hid (by rw [Nat.sub_self, List.take_zero]; exact Srtd.self asc_nil)
          clear hx hmk hSp hx0 hU hsk
          go_wp2_with fail
          refine HM.out.mono ?_
          rintro e w2 ⟨rfl, k2⟩
          have HR2 := Lib.hid (HE.out _ (HR1.out.below k2))
          have hg2 := grown_trans hg (grown_of_below (some g) k2)
          go_wp2_with fail
          refine (HSS.out _).mono ?_
          rintro e w3 ⟨rfl, rfl⟩
          obtain ⟨S', q1, q2, q3⟩ := HK.out [] w3 HZ.out HR2.out
          have Q1 := Lib.hid q1
          have Q2 := Lib.hid q2
          have Q3 := Lib.hid q3
          clear q1 q2 q3
          go_wp2
          go_roundw
          case rel => exact ⟨st + 1, st + 1, S', by go_num, by go_num, Nat.le_refl _, by omega, Q1, Q2, Lib.hid (by rw [Nat.sub_self]; simp), Q3, hg2⟩
          case measure => simp [intOf]; omega
    · obtain rfl : k = n := by omega
      have t1 : decide ((k : Int) < (k : Int)) = false := by simp
      have HU : Hid (∀ u ∈ D.drop st, 0 < clM u) := Lib.hid (by
        have h := HMk.out
        rw [List.take_of_length_le (by rw [List.length_drop, HDl.out]; exact Nat.le_refl _)] at h
        exact h)
      have HK : Hid (∀ M w', Srtd pcl (D.drop st) M → Row w' g cap (S ++ (M ++ [])) → Row w' g cap (sortB clM [] D).reverse) := Lib.hid (by
        intro M w' hM hr
        refine hr.same ?_
        have e : sortB clM [] D = sortB clM [] (D.drop st) ++ sortB clM [] (D.take st) := by
          conv => lhs; rw [← List.take_append_drop st D]
          rw [sortB_app, HPt.out]
        rw [e, List.reverse_append, ← HSl.out.2, run_sorted HU.out hM, List.append_nil])
      by_cases hsk : st < k
      · have hsl := slice_tail (P := Tryz.prog) 27 elem_ints hss g 0 k st cap hstk (by omega)
        simp only [Nat.zero_add] at hsl
        obtain ⟨m, hm⟩ : ∃ m, k - st = m := ⟨_, rfl⟩
        obtain ⟨c2, hc2⟩ : ∃ c2, cap - st = c2 := ⟨_, rfl⟩
        have HSS := Lib.hid (sortStable_any g st m c2 cap S (D.drop st) [] wr HSl.out.1 (by rw [List.length_drop, HDl.out]; omega) (by omega) (HR.out.same (by rw [List.append_nil])))
        rw [hm, hc2] at hsl
        clear hm hc2 hSp
        go_wp2_with fail
        refine HSS.out.mono ?_
        rintro e w3 ⟨rfl, M, hM, hr3, hg3⟩
        have HE := Lib.hid (HK.out M w3 hM hr3)
        have hg4 := grown_trans hg hg3
        clear hM hr3
        go_wp2
        go_end0
        exact ⟨rfl, HE.out, hg4⟩
      · obtain rfl : st = k := by omega
        obtain ⟨A', c', hsl⟩ := slice_end (P := Tryz.prog) 27 elem_ints hss (some ⟨g, 0, none⟩) st cap
        have HSS := Lib.hid (sortStable_none A' c' wr)
        have hnil : D.drop st = [] := List.drop_of_length_le (by rw [HDl.out]; exact Nat.le_refl _)
        have HE := Lib.hid (HK.out [] wr (by rw [hnil]; exact Srtd.self asc_nil) (HR.out.same (by rw [hnil]; simp)))
        clear hnil hSp hsk
        go_wp2_with fail
        refine HSS.out.mono ?_
        rintro e w3 ⟨rfl, rfl⟩
        go_wp2
        go_end0
        exact ⟨rfl, HE.out, hg⟩

end Go.Proofs.YtbnchnbblchmnaaGreatDoor
