/-
  The program's classes of marks and the comparison by them.
  The library's insertion sort.
-/
import Derived.Test.YtpgaebdaakllaaaDoorRefSwap
import Derived.Deep.RegionWith
import Derived.Test.YtpgaebdaakllaaaDoorExch
namespace Go.Proofs.YtpgaebdaakllaaaDoor
open Go.RowKit

/-- The class of a mark, as the program asks it (3 for what is no mark). -/
def pcl (c : Nat) : Nat := if c = 807 then 1 else if c = 808 then 1 else if c = 803 then 2 else 3
def cmpN (x y : Nat) : Int := if x < y then -1 else if y < x then 1 else 0
theorem cmpN_neg {x y : Nat} (h : x < y) : decide (cmpN x y < 0) = true := by unfold cmpN; rw [if_pos h]; rfl
theorem cmpN_pos {x y : Nat} (h : ¬ x < y) : decide (cmpN x y < 0) = false := by
  unfold cmpN
  rw [if_neg h]
  split <;> rfl

set_option maxRecDepth 20000 in
set_option maxHeartbeats 1600000 in
theorem prCls_any (c : Nat) (w : World) :
    Calls Tryd.prog 46 #[.int .i64 (c : Int)] w fun e w' => e = .returned (.int .i64 (pcl c : Int)) ∧ w' = w := by
  obtain ⟨R, hR⟩ : ∃ R, pcl c = R := ⟨_, rfl⟩
  rw [hR]
  unfold pcl at hR
  by_cases h1 : c = 807
  · have t1 : ((c : Int) == 807) = true := eqb_true (by omega)
    have HE : Hid (R = 1) := Lib.hid (by rw [← hR, if_pos h1])
    clear hR h1
    go_enter Tryd.func46, Tryd.ntmps46
    go_wp2
    go_ret
    rw [HE.out]
    exact ⟨rfl, rfl⟩
  have t1 : ((c : Int) == 807) = false := eqb_false (by omega)
  rw [if_neg h1] at hR
  by_cases h2 : c = 808
  · have t2 : ((c : Int) == 808) = true := eqb_true (by omega)
    have HE : Hid (R = 1) := Lib.hid (by rw [← hR, if_pos h2])
    clear hR h1 h2
    go_enter Tryd.func46, Tryd.ntmps46
    go_wp2
    go_ret
    rw [HE.out]
    exact ⟨rfl, rfl⟩
  have t2 : ((c : Int) == 808) = false := eqb_false (by omega)
  rw [if_neg h2] at hR
  by_cases h3 : c = 803
  · have t3 : ((c : Int) == 803) = true := eqb_true (by omega)
    have HE : Hid (R = 2) := Lib.hid (by rw [← hR, if_pos h3])
    clear hR h1 h2 h3
    go_enter Tryd.func46, Tryd.ntmps46
    go_wp2
    go_ret
    rw [HE.out]
    exact ⟨rfl, rfl⟩
  · have t3 : ((c : Int) == 803) = false := eqb_false (by omega)
    have HE : Hid (R = 3) := Lib.hid (by rw [← hR, if_neg h3])
    clear hR h1 h2 h3
    go_enter Tryd.func46, Tryd.ntmps46
    go_wp2
    go_ret
    rw [HE.out]
    exact ⟨rfl, rfl⟩

set_option maxRecDepth 20000 in
set_option maxHeartbeats 1600000 in
theorem isNaN_any (c : Nat) (w : World) :
    Calls Tryd.prog 67 #[.int .i64 (c : Int)] w fun e w' => e = .returned (.bool false) ∧ w' = w := by
  have t1 : ((c : Int) != (c : Int)) = false := by simp
  go_enter Tryd.func67, Tryd.ntmps67
  go_wp2
  go_ret
  exact ⟨by simp, rfl⟩

set_option maxRecDepth 20000 in
set_option maxHeartbeats 1600000 in
theorem compare_any (x y : Nat) (w : World) :
    Calls Tryd.prog 56 #[.int .i64 (x : Int), .int .i64 (y : Int)] w fun e w' => e = .returned (.int .i64 (cmpN x y)) ∧ w' = w := by
  obtain ⟨R, hR⟩ : ∃ R, cmpN x y = R := ⟨_, rfl⟩
  rw [hR]
  unfold cmpN at hR
  have HX := Lib.hid (fun W => isNaN_any x W)
  have HY := Lib.hid (fun W => isNaN_any y W)
  by_cases h1 : x < y
  · have t1 : decide (x < y) = true := by simpa using h1
    have HE : Hid (R = -1) := Lib.hid (by rw [← hR, if_pos h1])
    clear hR h1
    go_enter Tryd.func56, Tryd.ntmps56
    go_wp2_with fail
    refine (HX.out _).mono ?_
    rintro e w1 ⟨rfl, rfl⟩
    go_wp2_with fail
    refine (HY.out _).mono ?_
    rintro e w1 ⟨rfl, rfl⟩
    go_wp2
    go_ret
    rw [HE.out]
    exact ⟨rfl, rfl⟩
  have t1 : decide (x < y) = false := by simpa using h1
  rw [if_neg h1] at hR
  by_cases h2 : y < x
  · have t2 : decide (y < x) = true := by simpa using h2
    have HE : Hid (R = 1) := Lib.hid (by rw [← hR, if_pos h2])
    clear hR h1 h2
    go_enter Tryd.func56, Tryd.ntmps56
    go_wp2_with fail
    refine (HX.out _).mono ?_
    rintro e w1 ⟨rfl, rfl⟩
    go_wp2_with fail
    refine (HY.out _).mono ?_
    rintro e w1 ⟨rfl, rfl⟩
    go_wp2
    go_ret
    rw [HE.out]
    exact ⟨rfl, rfl⟩
  · have t2 : decide (y < x) = false := by simpa using h2
    have HE : Hid (R = 0) := Lib.hid (by rw [← hR, if_neg h2])
    clear hR h1 h2
    go_enter Tryd.func56, Tryd.ntmps56
    go_wp2_with fail
    refine (HX.out _).mono ?_
    rintro e w1 ⟨rfl, rfl⟩
    go_wp2_with fail
    refine (HY.out _).mono ?_
    rintro e w1 ⟨rfl, rfl⟩
    go_wp2
    go_ret
    rw [HE.out]
    exact ⟨rfl, rfl⟩

/-- The comparison that the program hands to the sort. -/
def cmpV : Value := .func (.func 55) #[] #[]
set_option maxRecDepth 20000 in
set_option maxHeartbeats 1600000 in
theorem byClass_any (x y : Nat) (w : World) :
    Calls Tryd.prog 55 #[.int .i64 (x : Int), .int .i64 (y : Int)] w fun e w' => e = .returned (.int .i64 (cmpN (pcl x) (pcl y))) ∧ ∃ q, w' = w.drewN q := by
  have HX := Lib.hid (fun W => prCls_any x W)
  have HY := Lib.hid (fun W => prCls_any y W)
  have HC := Lib.hid (fun W => compare_any (pcl x) (pcl y) W)
  obtain ⟨a, ha⟩ : ∃ a, pcl x = a := ⟨_, rfl⟩
  obtain ⟨b, hb⟩ : ∃ b, pcl y = b := ⟨_, rfl⟩
  rw [ha] at HX HC ⊢
  rw [hb] at HY HC ⊢
  obtain ⟨K, hK⟩ : ∃ K, cmpN a b = K := ⟨_, rfl⟩
  rw [hK] at HC ⊢
  clear ha hb hK
  go_enter Tryd.func55, Tryd.ntmps55
  go_wp2_with fail
  refine (HX.out _).mono ?_
  rintro e w1 ⟨rfl, rfl⟩
  go_wp2_with fail
  refine (HY.out _).mono ?_
  rintro e w1 ⟨rfl, rfl⟩
  go_wp2_with fail
  refine (HC.out _).mono ?_
  rintro e w1 ⟨rfl, rfl⟩
  go_wp2
  go_ret
  exact ⟨rfl, 0, rfl⟩

end Go.Proofs.YtpgaebdaakllaaaDoor

namespace Go.Proofs.YtpgaebdaakllaaaDoor
open Go.RowKit

section
variable {cl : Nat → Nat}
theorem Srtd.then_ {l r m m' : List Nat} (h : Srtd cl l m) (h2 : Srtd cl (m ++ r) m') : Srtd cl (l ++ r) m' := ⟨h2.1, (h.2.app (Stab.refl r)).trans h2.2⟩
theorem asc_short {l : List Nat} (h : l.length ≤ 1) : Asc cl l := by
  match l, h with
  | [], _ => exact asc_nil
  | [x], _ => exact asc_one x
theorem asc_last {S : List Nat} {x y : Nat} (h : Asc cl (S ++ [x])) (hx : cl x ≤ cl y) : ∀ u ∈ S ++ [x], cl u ≤ cl y := by
  intro u hu
  rcases List.mem_append.1 hu with hu | hu
  · have := (asc_app.1 h).2.2 u hu x (List.mem_singleton.2 rfl)
    omega
  · rw [List.mem_singleton.1 hu]; exact hx
end

set_option maxRecDepth 100000 in
set_option maxHeartbeats 6400000 in
theorem insertion_any (g off n c cap a b : Nat) (P U Q : List Nat) (w : World) (hP : P.length = off + a) (hb : a + U.length = b) (hn : b ≤ n) (hsz : n ≤ 1000000000)
    (hrow : Row w g cap (P ++ (U ++ Q))) :
    Calls Tryd.prog 73 #[.slice (some ⟨g, off, none⟩) n c, .int .i64 (a : Int), .int .i64 (b : Int), cmpV] w fun e w' => e = .returned (.tuple #[]) ∧ ∃ M, Srtd pcl U M ∧ Row w' g cap (P ++ (M ++ Q)) ∧ w.grownBy w' (some g) := by
  unfold cmpV
  obtain ⟨N, hN⟩ : ∃ N, U.length = N := ⟨_, rfl⟩
  rw [hN] at hb
  have HUl := Lib.hid hN
  have HPl := Lib.hid hP
  have HR0 := Lib.hid hrow
  clear hN hP hrow
  go_enter Tryd.func73, Tryd.ntmps73
  go_wp2
  go_loopw [8] (fun s wr => ∃ (i k : Nat) (S : List Nat), s = .int .i64 (i : Int) ∧ Hid (i = a + k) ∧ 1 ≤ k ∧ (k ≤ N ∨ k = 1) ∧ Hid (Srtd pcl (U.take k) S) ∧ Hid (Row wr g cap (P ++ (S ++ (U.drop k ++ Q)))) ∧ w.grownBy wr (some g)) (fun s _ => b - (intOf s).toNat)
  case atStart => exact ⟨a + 1, 1, U.take 1, by go_num, Lib.hid rfl, by omega, .inr rfl, Lib.hid (Srtd.self (asc_short (by rw [List.length_take]; omega))), Lib.hid (HR0.out.same (by rw [← List.append_assoc (U.take 1), List.take_append_drop])), grown_refl _ _⟩
  case round =>
    obtain ⟨i, k, S, rfl, Hik, hk1, hkN, HS, HR, hg⟩ := hrel
    by_cases hlt : i < b
    · have t1 : decide ((i : Int) < (b : Int)) = true := by simp; omega
      have hkN : k < N := by have := Hik.out; omega
      obtain ⟨y, hy⟩ := get_some (l := U) (i := k) (by have := HUl.out; omega)
      have hUk : U.drop k = y :: U.drop (k + 1) := by
        obtain ⟨h1, h2⟩ := List.getElem?_eq_some_iff.1 hy
        rw [List.drop_eq_getElem_cons h1, h2]
      have hSl : S.length = k := by rw [HS.out.length, List.length_take]; have := HUl.out; omega
      have HTake := Lib.hid (take_next hy)
      have HSl := Lib.hid hSl
      have HR1 : Hid (Row wr g cap (P ++ (S ++ y :: ([] ++ (U.drop (k + 1) ++ Q))))) := Lib.hid (HR.out.same (by rw [hUk]; simp))
      have HK : Hid (∀ S1 S2 w', S = S1 ++ S2 → (∀ u ∈ S1, pcl u ≤ pcl y) → (∀ u ∈ S2, pcl y < pcl u) → Row w' g cap (P ++ (S1 ++ y :: (S2 ++ (U.drop (k + 1) ++ Q)))) →
          ∃ S', Srtd pcl (U.take (k + 1)) S' ∧ Row w' g cap (P ++ (S' ++ (U.drop (k + 1) ++ Q)))) := Lib.hid (by
        intro S1 S2 w' hS h1 h2 hr
        refine ⟨S1 ++ y :: S2, ?_, hr.same (by simp)⟩
        rw [HTake.out]
        refine HS.out.then_ ?_
        rw [hS]
        exact srt_right (by rw [← hS]; exact HS.out.1) h1 h2)
      clear hUk hy hSl HR HR0
      go_wp2
      go_loopw [9] (fun s wr2 => ∃ (j : Nat) (S1 S2 : List Nat), s = .int .i64 (j : Int) ∧ Hid (S = S1 ++ S2) ∧ Hid (j = a + S1.length) ∧ j ≤ i ∧ Hid (∀ u ∈ S2, pcl y < pcl u) ∧ Hid (Row wr2 g cap (P ++ (S1 ++ y :: (S2 ++ (U.drop (k + 1) ++ Q))))) ∧ w.grownBy wr2 (some g)) (fun s _ => (intOf s).toNat)
      case atStart => exact ⟨i, S, [], rfl, Lib.hid (by simp), Lib.hid (by rw [HSl.out]; exact Hik.out), Nat.le_refl _, Lib.hid (by simp), HR1, hg⟩
      case round =>
        obtain ⟨j, S1, S2, rfl, HSS, Hjl, hji, HG, HR2, hg2⟩ := hrel
        have hjl := Hjl.out
        by_cases hj0 : a < j
        · have t2 : decide ((a : Int) < (j : Int)) = true := by simp; omega
          have t2' : decide (a < j) = true := by simpa using hj0
          have hne : S1 ≠ [] := fun e => by rw [e] at hjl; simp at hjl; omega
          obtain ⟨S0, x, hS1⟩ : ∃ S0 x, S1 = S0 ++ [x] := ⟨S1.dropLast, S1.getLast hne, (List.dropLast_concat_getLast hne).symm⟩
          subst hS1
          obtain ⟨p, rfl⟩ : ∃ p, j = p + 1 := ⟨j - 1, by omega⟩
          have ep : ((p + 1 : Nat) : Int) - 1 = (p : Int) := by omega
          have g1 : decide ((p : Int) + 1 > (a : Int)) = true := decide_eq_true (by omega)
          have g2 : decide ((a : Int) < (p : Int) + 1) = true := decide_eq_true (by omega)
          have g3 : decide (a < p + 1) = true := decide_eq_true (by omega)
          have g4 : decide (a ≤ p) = true := decide_eq_true (by omega)
          have g5 : (a : Int) < (p : Int) + 1 := by omega
          have hS0 : S0.length + a = p := by rw [List.length_append, List.length_singleton] at hjl; omega
          have l3 := HPl.out
          obtain ⟨cu, hb1, hcs, hT⟩ := HR2.out
          obtain ⟨NN, hNN⟩ : ∃ NN, (P ++ (S0 ++ [x] ++ y :: (S2 ++ (U.drop (k + 1) ++ Q)))).length = NN := ⟨_, rfl⟩
          have HNN : Hid ((P ++ (S0 ++ y :: ((x :: S2) ++ (U.drop (k + 1) ++ Q)))).length = NN) := Lib.hid (by rw [← hNN]; simp)
          rw [hNN] at hT
          have hT1 : cu.toList.take NN = ((P ++ S0) ++ x :: ([] ++ y :: (S2 ++ (U.drop (k + 1) ++ Q)))).map nv := by rw [hT]; simp
          have hpl : off + p = (P ++ S0).length := by rw [List.length_append]; omega
          have hql : off + (p + 1) = (P ++ S0).length + 1 + ([] : List Nat).length := by rw [List.length_append, List.length_nil]; omega
          have dx : wr.cell? ⟨g, off + p, none⟩ = some (.int .i64 (x : Int)) := (hb1.cell _).trans (swap_fst hT1 hpl)
          have dy : wr.cell? ⟨g, off + (p + 1), none⟩ = some (.int .i64 (y : Int)) := (hb1.cell _).trans (swap_snd hT1 hql)
          have z0 : (p : Int) < (n : Int) := by omega
          have z1 : ((p + 1 : Nat) : Int) < (n : Int) := by omega
          have HC := Lib.hid (fun W => byClass_any y x W)
          obtain ⟨K, hK⟩ : ∃ K, cmpN (pcl y) (pcl x) = K := ⟨_, rfl⟩
          rw [hK] at HC
          by_cases hyx : pcl y < pcl x
          · have t3 : decide (K < 0) = true := by rw [← hK]; exact cmpN_neg hyx
            have HG2 : Hid (∀ u ∈ x :: S2, pcl y < pcl u) := Lib.hid fun u hu => by
              rcases List.mem_cons.1 hu with rfl | hu
              · exact hyx
              · exact HG.out u hu
            have HSS2 : Hid (S = S0 ++ x :: S2) := Lib.hid (by rw [HSS.out]; simp)
            have HSw : Hid (((cu.setIfInBounds (off + (p + 1)) (nv x)).setIfInBounds (off + p) (nv y)).toList.take NN = (P ++ (S0 ++ y :: ((x :: S2) ++ (U.drop (k + 1) ++ Q)))).map nv) := Lib.hid (by
              rw [swap_mem_back hT1 hpl hql]; simp)
            have f0 : wr.frozen? ⟨g, off + p, none⟩ = false := hb1.free _
            have f1 : wr.frozen? ⟨g, off + (p + 1), none⟩ = false := hb1.free _
            have hne2 : off + p ≠ off + (p + 1) := by omega
            have hpj : p < p + 1 := by omega
            have hpi : p ≤ i := by omega
            have HpS : Hid (p = a + S0.length) := Lib.hid (by omega)
            clear hK hyx hT hT1 hpl hql hne hjl hNN HR2 l3 hS0
            go_wp2
            go_big_quiet (first | (go_at_call_of 55 y; exact Calls.quiet_of (HC.out _)))
            go_wp2
            go_region
            all_goals
              go_wp2
              go_roundw
              case rel => exact ⟨p, S0, x :: S2, by go_num, HSS2, HpS, hpi, HG2, Lib.hid ⟨_, ((hb1.drewN _).put (off + (p + 1)) (nv x)).put (off + p) (nv y), by simp [hcs], by rw [HNN.out]; exact HSw.out⟩, grown_set (grown_set (grown_drewN hg2 _) _ _) _ _⟩
              case measure => first | (simp [intOf]; done) | (simp [intOf]; omega)
          · have t3 : decide (K < 0) = false := by rw [← hK]; exact cmpN_pos hyx
            have HE : Hid (∃ S', Srtd pcl (U.take (k + 1)) S' ∧ Row wr g cap (P ++ (S' ++ (U.drop (k + 1) ++ Q)))) := Lib.hid (HK.out (S0 ++ [x]) S2 wr HSS.out (asc_last (by have := HS.out.1; rw [HSS.out] at this; exact (asc_app.1 this).1) (by omega)) HG.out HR2.out)
            clear hK hyx hT hT1 hpl hql hne hjl hNN l3 hS0
            go_wp2
            go_big_quiet (first | (go_at_call_of 55 y; exact Calls.quiet_of (HC.out _)))
            go_wp2
            go_roundw
            case rel =>
              obtain ⟨S', e1, e2⟩ := HE.out
              exact ⟨i + 1, k + 1, S', by go_num, Lib.hid (by have := Hik.out; omega), by omega, .inl (by omega), Lib.hid e1, Lib.hid (e2.drewN _), grown_drewN hg2 _⟩
            case measure => simp [intOf]; omega
        · have t2 : decide ((a : Int) < (j : Int)) = false := by simp; omega
          have t2' : decide (a < j) = false := by simpa using hj0
          have hS1 : S1 = [] := List.length_eq_zero_iff.1 (by omega)
          have HE : Hid (∃ S', Srtd pcl (U.take (k + 1)) S' ∧ Row wr g cap (P ++ (S' ++ (U.drop (k + 1) ++ Q)))) := Lib.hid (HK.out S1 S2 wr HSS.out (by rw [hS1]; simp) HG.out HR2.out)
          clear hS1 hj0 hjl
          go_wp2
          go_big_quiet (fail)
          go_wp2
          go_roundw
          case rel =>
            obtain ⟨S', e1, e2⟩ := HE.out
            exact ⟨i + 1, k + 1, S', by go_num, Lib.hid (by have := Hik.out; omega), by omega, .inl (by omega), Lib.hid e1, Lib.hid (e2.drewN _), grown_drewN hg2 _⟩
          case measure => simp [intOf]; omega
    · have HE : Hid (Srtd pcl U S ∧ Row wr g cap (P ++ (S ++ Q))) := Lib.hid (by
        have h3 := Hik.out
        have h1 := HS.out
        have h2 := HR.out
        rw [List.take_of_length_le (by rw [HUl.out]; omega)] at h1
        rw [List.drop_of_length_le (by rw [HUl.out]; omega)] at h2
        exact ⟨h1, h2⟩)
      go_wp2
      go_end0
      exact ⟨rfl, S, HE.out.1, HE.out.2, hg⟩

end Go.Proofs.YtpgaebdaakllaaaDoor
