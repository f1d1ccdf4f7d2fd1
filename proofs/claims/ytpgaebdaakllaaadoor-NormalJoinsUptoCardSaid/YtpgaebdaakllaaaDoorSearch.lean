/-
  The program's Class and Has: a search among the spans.
-/
import Derived.Test.YtpgaebdaakllaaaDoorSpans
import Derived.BigQuiet
namespace Go.Proofs.YtpgaebdaakllaaaDoor
open Go.RowKit

def lastOf (i : Nat) : Nat := (spanAt i).2.1
def firstOf (i : Nat) : Nat := (spanAt i).1

set_option maxRecDepth 20000 in
set_option maxHeartbeats 1600000 in
theorem pred_any (c : Int) (b i : Nat) (w : World) (hS : Spans w) (hi : i < 41) (hc : w.cell? ⟨b, 0, none⟩ = some (.int .i64 c)) :
    Calls Tryd.prog 66 #[.int .i64 (i : Int), .pointer (some ⟨b, 0, none⟩)] w fun e w' => e = .returned (.bool (decide (c ≤ (lastOf i : Int)))) ∧ ∃ q, w' = w.drewN q := by
  have h1 := (hS.cells hi).2.1
  have hs := span_small ⟨i, hi⟩
  obtain ⟨z, hz⟩ : ∃ z, z = (spanAt i).2.1 := ⟨_, rfl⟩
  have hlz : lastOf i = z := hz.symm
  simp only at hs
  rw [← hz] at h1 hs
  rw [hlz]
  clear hz hlz hS
  have hi1 : (i : Int) < (41 : Int) := by omega
  go_enter Tryd.func66, Tryd.ntmps66
  go_wp2
  go_quiet (fail)
  go_wp2
  go_ret
  exact ⟨rfl, nq, rfl⟩

set_option maxRecDepth 20000 in
set_option maxHeartbeats 1600000 in
theorem search_any (c : Int) (b : Nat) (w : World) (hS : Spans w) (hc : w.cell? ⟨b, 0, none⟩ = some (.int .i64 c)) :
    Calls Tryd.prog 65 #[.int .i64 41, .func (.func 66) #[] #[.pointer (some ⟨b, 0, none⟩)]] w fun e w' =>
      ∃ i : Nat, e = .returned (.int .i64 (i : Int)) ∧ i ≤ 41 ∧ (∀ t, t < i → (lastOf t : Int) < c) ∧ (∀ t, i ≤ t → t < 41 → c ≤ (lastOf t : Int)) ∧ ∃ q, w' = w.drewN q := by
  have HP := Lib.hid fun (i q : Nat) (hi : i < 41) => pred_any c b i (w.drewN q) hS hi hc
  clear hS hc
  go_enter Tryd.func65, Tryd.ntmps65
  go_wp2
  go_loopw [5, 6] (fun s5 s6 wr => ∃ lo hi q : Nat, s5 = .int .i64 (lo : Int) ∧ s6 = .int .i64 (hi : Int) ∧ lo ≤ hi ∧ hi ≤ 41 ∧ wr = w.drewN q ∧
    Hid ((∀ t, t < lo → (lastOf t : Int) < c) ∧ (∀ t, hi ≤ t → t < 41 → c ≤ (lastOf t : Int)))) (fun s5 s6 _ => (intOf s6).toNat - (intOf s5).toNat)
  case atStart => exact ⟨0, 41, 0, rfl, rfl, by omega, by omega, rfl, Lib.hid ⟨fun t ht => by omega, fun t h1 h2 => by omega⟩⟩
  case round =>
    obtain ⟨lo, hi, q, rfl, rfl, hlh, hh, rfl, HI⟩ := hrel
    by_cases hlt : lo < hi
    · have t0 : decide ((lo : Int) < (hi : Int)) = true := by simp; omega
      obtain ⟨m, hm⟩ : ∃ m, m = (lo + hi) / 2 := ⟨_, rfl⟩
      have hm1 : ((lo : Int) + (hi : Int)) / 2 = (m : Int) := by omega
      have hml : lo ≤ m := by omega
      have hmh : m < hi := by omega
      have hC := HP.out m q (by omega)
      by_cases hp : c ≤ (lastOf m : Int)
      · have HE : Hid ((∀ t, t < lo → (lastOf t : Int) < c) ∧ (∀ t, m ≤ t → t < 41 → c ≤ (lastOf t : Int))) := Lib.hid ⟨HI.out.1, fun t h1 h2 => by
          have := last_asc ⟨m, by omega⟩ ⟨t, h2⟩ h1
          unfold lastOf at *
          simp only at this
          omega⟩
        rw [decide_eq_true hp] at hC
        have HC := Lib.hid hC
        clear hC hm hp
        go_wp2_with fail
        try rw [hm1]
        refine HC.out.mono ?_
        rintro e w' ⟨rfl, q2, rfl⟩
        go_wp2
        go_roundw
        case rel => exact ⟨lo, m, _, rfl, by go_num, hml, by omega, rfl, HE⟩
        case measure => simp [intOf]; omega
      · have HE : Hid ((∀ t, t < m + 1 → (lastOf t : Int) < c) ∧ (∀ t, hi ≤ t → t < 41 → c ≤ (lastOf t : Int))) := Lib.hid ⟨fun t ht => by
          have := last_asc ⟨t, by omega⟩ ⟨m, by omega⟩ (show t ≤ m by omega)
          unfold lastOf at *
          simp only at this
          omega, HI.out.2⟩
        rw [decide_eq_false hp] at hC
        have HC := Lib.hid hC
        clear hC hm hp
        go_wp2_with fail
        try rw [hm1]
        refine HC.out.mono ?_
        rintro e w' ⟨rfl, q2, rfl⟩
        go_wp2
        go_roundw
        case rel => exact ⟨m + 1, hi, _, by go_num, rfl, by omega, hh, rfl, HE⟩
        case measure => simp [intOf]; omega
    · obtain rfl : lo = hi := by omega
      go_wp2
      go_ret
      exact ⟨lo, rfl, hh, HI.out.1, HI.out.2, q, rfl⟩

/-- The number whose span is looked for. -/
def plainC (c : Int) : Int := if inB c 65281 65374 = true then c - 65248 else c
theorem clsR_plain (c : Int) : clsR c = clsN (plainC c) := by
  unfold clsR plainC
  split <;> rfl

set_option maxRecDepth 20000 in
set_option maxHeartbeats 1600000 in
theorem prClass_any (c : Int) (w : World) (hS : Spans w) :
    Calls Tryd.prog 50 #[.int .i64 c] w fun e w' => e = .returned (two (clsR c).1 (clsR c).2) ∧ Below w.heap.size w w' := by
  obtain ⟨R, hR⟩ : ∃ R, clsR c = R := ⟨_, rfl⟩
  have HR : Hid (clsN (plainC c) = R) := Lib.hid (by rw [← clsR_plain]; exact hR)
  rw [hR]
  clear hR
  by_cases h1 : 65281 ≤ c
  · have t1 : decide (65281 ≤ c) = true := by simpa using h1
    by_cases h2 : c ≤ 65374
    · have t2 : decide (c ≤ 65374) = true := by simpa using h2
      have hp : plainC c = c - 65248 := by unfold plainC inB; rw [t1, t2]; rfl
      rw [hp] at HR
      go_enter Tryd.func50, Tryd.ntmps50
      go_wp2_with fail
      have hb := below_new (Below.refl w.heap.size w) (.cells #[.int .i64 (c - 65248)] 3)
      have hcell : (w.alloc (.cells #[.int .i64 (c - 65248)] 3)).cell? ⟨w.heap.size, 0, none⟩ = some (.int .i64 (c - 65248)) := (Box.made w 3 #[.int .i64 (c - 65248)]).cell 0
      refine (search_any (c - 65248) w.heap.size _ (hS.below hb) hcell).mono ?_
      rintro e w' ⟨i, rfl, hi, hlo, hhi, q, rfl⟩
      have hcls := cls_by_span hlo hhi hi
      rw [HR.out] at hcls
      have HC := Lib.hid hcls
      clear hcls hlo hhi
      by_cases h41 : i = 41
      · subst h41
        have t4 : (((41 : Nat) : Int) == 41) = true := rfl
        have HE : Hid (R = (0, 0)) := Lib.hid (by rw [HC.out, if_pos (.inl rfl)])
        go_wp2
        go_quiet (fail)
        go_wp2
        go_ret2
        rw [HE.out]
        exact ⟨ret_two rfl rfl, by repeat first | exact hb | refine below_drewN ?_ _⟩
      · have t4 : ((i : Int) == 41) = false := eqb_false (by omega)
        have hi4 : i < 41 := by omega
        have hiz : (i : Int) < (41 : Int) := by omega
        obtain ⟨c0, c1, c2, c3⟩ := (hS.below hb).cells hi4
        have hsm := span_small ⟨i, hi4⟩
        simp only at hsm
        obtain ⟨sp, hsp⟩ : ∃ sp, spanAt i = sp := ⟨_, rfl⟩
        rw [hsp] at c0 c1 c2 c3 hsm HC
        obtain ⟨fi, la, sc, ki⟩ := sp
        obtain ⟨s1, s2, s3, s4⟩ := hsm
        simp only at c0 c1 c2 c3 s1 s2 s3 s4
        clear hsp
        by_cases hf : (c - 65248) < (fi : Int)
        · have t5 : decide ((c - 65248) < (fi : Int)) = true := by simpa using hf
          have HE : Hid (R = (0, 0)) := Lib.hid (by rw [HC.out, if_pos (.inr hf)])
          go_wp2
          go_quiet (fail)
          go_wp2
          go_ret2
          rw [HE.out]
          exact ⟨ret_two rfl rfl, by repeat first | exact hb | refine below_drewN ?_ _⟩
        · have t5 : decide ((c - 65248) < (fi : Int)) = false := by simpa using hf
          have HE : Hid (R = (sc, ki)) := Lib.hid (by rw [HC.out, if_neg (fun h => h.elim h41 hf)])
          go_wp2
          go_quiet (fail)
          go_wp2
          go_quiet (fail)
          go_wp2
          go_ret2
          rw [HE.out]
          exact ⟨ret_two rfl rfl, by repeat first | exact hb | refine below_drewN ?_ _⟩
    · have t2 : decide (c ≤ 65374) = false := by simpa using h2
      have hp : plainC c = c := by unfold plainC inB; rw [t1, t2]; rfl
      rw [hp] at HR
      go_enter Tryd.func50, Tryd.ntmps50
      go_wp2_with fail
      have hb := below_new (Below.refl w.heap.size w) (.cells #[.int .i64 (c)] 3)
      have hcell : (w.alloc (.cells #[.int .i64 (c)] 3)).cell? ⟨w.heap.size, 0, none⟩ = some (.int .i64 (c)) := (Box.made w 3 #[.int .i64 (c)]).cell 0
      refine (search_any (c) w.heap.size _ (hS.below hb) hcell).mono ?_
      rintro e w' ⟨i, rfl, hi, hlo, hhi, q, rfl⟩
      have hcls := cls_by_span hlo hhi hi
      rw [HR.out] at hcls
      have HC := Lib.hid hcls
      clear hcls hlo hhi
      by_cases h41 : i = 41
      · subst h41
        have t4 : (((41 : Nat) : Int) == 41) = true := rfl
        have HE : Hid (R = (0, 0)) := Lib.hid (by rw [HC.out, if_pos (.inl rfl)])
        go_wp2
        go_quiet (fail)
        go_wp2
        go_ret2
        rw [HE.out]
        exact ⟨ret_two rfl rfl, by repeat first | exact hb | refine below_drewN ?_ _⟩
      · have t4 : ((i : Int) == 41) = false := eqb_false (by omega)
        have hi4 : i < 41 := by omega
        have hiz : (i : Int) < (41 : Int) := by omega
        obtain ⟨c0, c1, c2, c3⟩ := (hS.below hb).cells hi4
        have hsm := span_small ⟨i, hi4⟩
        simp only at hsm
        obtain ⟨sp, hsp⟩ : ∃ sp, spanAt i = sp := ⟨_, rfl⟩
        rw [hsp] at c0 c1 c2 c3 hsm HC
        obtain ⟨fi, la, sc, ki⟩ := sp
        obtain ⟨s1, s2, s3, s4⟩ := hsm
        simp only at c0 c1 c2 c3 s1 s2 s3 s4
        clear hsp
        by_cases hf : (c) < (fi : Int)
        · have t5 : decide ((c) < (fi : Int)) = true := by simpa using hf
          have HE : Hid (R = (0, 0)) := Lib.hid (by rw [HC.out, if_pos (.inr hf)])
          go_wp2
          go_quiet (fail)
          go_wp2
          go_ret2
          rw [HE.out]
          exact ⟨ret_two rfl rfl, by repeat first | exact hb | refine below_drewN ?_ _⟩
        · have t5 : decide ((c) < (fi : Int)) = false := by simpa using hf
          have HE : Hid (R = (sc, ki)) := Lib.hid (by rw [HC.out, if_neg (fun h => h.elim h41 hf)])
          go_wp2
          go_quiet (fail)
          go_wp2
          go_quiet (fail)
          go_wp2
          go_ret2
          rw [HE.out]
          exact ⟨ret_two rfl rfl, by repeat first | exact hb | refine below_drewN ?_ _⟩
  · have t1 : decide (65281 ≤ c) = false := by simpa using h1
    have hp : plainC c = c := by unfold plainC inB; rw [t1]; rfl
    rw [hp] at HR
    go_enter Tryd.func50, Tryd.ntmps50
    go_wp2_with fail
    have hb := below_new (Below.refl w.heap.size w) (.cells #[.int .i64 (c)] 3)
    have hcell : (w.alloc (.cells #[.int .i64 (c)] 3)).cell? ⟨w.heap.size, 0, none⟩ = some (.int .i64 (c)) := (Box.made w 3 #[.int .i64 (c)]).cell 0
    refine (search_any (c) w.heap.size _ (hS.below hb) hcell).mono ?_
    rintro e w' ⟨i, rfl, hi, hlo, hhi, q, rfl⟩
    have hcls := cls_by_span hlo hhi hi
    rw [HR.out] at hcls
    have HC := Lib.hid hcls
    clear hcls hlo hhi
    by_cases h41 : i = 41
    · subst h41
      have t4 : (((41 : Nat) : Int) == 41) = true := rfl
      have HE : Hid (R = (0, 0)) := Lib.hid (by rw [HC.out, if_pos (.inl rfl)])
      go_wp2
      go_quiet (fail)
      go_wp2
      go_ret2
      rw [HE.out]
      exact ⟨ret_two rfl rfl, by repeat first | exact hb | refine below_drewN ?_ _⟩
    · have t4 : ((i : Int) == 41) = false := eqb_false (by omega)
      have hi4 : i < 41 := by omega
      have hiz : (i : Int) < (41 : Int) := by omega
      obtain ⟨c0, c1, c2, c3⟩ := (hS.below hb).cells hi4
      have hsm := span_small ⟨i, hi4⟩
      simp only at hsm
      obtain ⟨sp, hsp⟩ : ∃ sp, spanAt i = sp := ⟨_, rfl⟩
      rw [hsp] at c0 c1 c2 c3 hsm HC
      obtain ⟨fi, la, sc, ki⟩ := sp
      obtain ⟨s1, s2, s3, s4⟩ := hsm
      simp only at c0 c1 c2 c3 s1 s2 s3 s4
      clear hsp
      by_cases hf : (c) < (fi : Int)
      · have t5 : decide ((c) < (fi : Int)) = true := by simpa using hf
        have HE : Hid (R = (0, 0)) := Lib.hid (by rw [HC.out, if_pos (.inr hf)])
        go_wp2
        go_quiet (fail)
        go_wp2
        go_ret2
        rw [HE.out]
        exact ⟨ret_two rfl rfl, by repeat first | exact hb | refine below_drewN ?_ _⟩
      · have t5 : decide ((c) < (fi : Int)) = false := by simpa using hf
        have HE : Hid (R = (sc, ki)) := Lib.hid (by rw [HC.out, if_neg (fun h => h.elim h41 hf)])
        go_wp2
        go_quiet (fail)
        go_wp2
        go_quiet (fail)
        go_wp2
        go_ret2
        rw [HE.out]
        exact ⟨ret_two rfl rfl, by repeat first | exact hb | refine below_drewN ?_ _⟩

end Go.Proofs.YtpgaebdaakllaaaDoor
