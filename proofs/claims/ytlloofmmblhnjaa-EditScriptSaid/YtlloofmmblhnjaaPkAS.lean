/-
  The bodies of EditMetric, EditApply, EditLeast.
  Arguments that came in: slices of integers as lists, strings.
  An argument that is a slice of structs, as a list: given how one element reads.
  The bodies of EditDistance, EditText, EditMetric.
-/
import Derived.Test.YtlloofmmblhnjaaPkAR
import Derived.Test.YtlloofmmblhnjaaPkAD
import Derived.Test.YtlloofmmblhnjaaPkAP
import Derived.Lib.MinMax
import Derived.Test.YtlloofmmblhnjaaWords
import Derived.ProofKit
import Derived.OpenShut
import Derived.SliceStrings
import Derived.ChangeArms
import Derived.Deep.Slices
import Derived.Lib.SmallJoins
namespace Go.Proofs.Ytlloofmmblhnjaa
open Go.RowKit

theorem run_len : ∀ (l : List OpI) (a b : List Int), runE a l = some b → b.length ≤ a.length + l.length
  | [], [], b, h => by
    simp [runE] at h
    subst h
    simp
  | [], _ :: _, b, h => by simp [runE] at h
  | o :: l, a, b, h => by
    by_cases h4 : o.1 = 4
    · rw [run_ins a l h4] at h
      obtain ⟨d, hd, rfl⟩ := Option.map_eq_some_iff.1 h
      have := run_len l a d hd
      simp only [List.length_cons]
      omega
    · cases a with
      | nil => rw [run_none l h4] at h; cases h
      | cons x a =>
        rw [run_take x a l h4] at h
        split at h
        · obtain ⟨d, hd, rfl⟩ := Option.map_eq_some_iff.1 h
          have := run_len l a d hd
          simp only [List.length_cons]
          omega
        · split at h
          · obtain ⟨d, hd, rfl⟩ := Option.map_eq_some_iff.1 h
            have := run_len l a d hd
            simp only [List.length_cons]
            omega
          · have := run_len l a b h
            simp only [List.length_cons]
            omega
theorem apply_len (a : List Int) (l : List OpI) : (applyE a l).1.length ≤ a.length + l.length := by
  unfold applyE
  split
  · exact Nat.zero_le _
  · cases h : runE a l with
    | none => exact Nat.zero_le _
    | some b => exact run_len l a b h
theorem cost_len (l : List OpI) : costE l ≤ l.length := List.length_filter_le _ _

set_option maxRecDepth 20000 in
set_option maxHeartbeats 3200000 in
theorem editMetric_v (A A2 A3 : Option Addr) (n c m c2 p c3 : Nat) (a b x : List Int) (w : World) (h : Arr iv w w.heap.size (.slice A n c) a) (h2 : Arr iv w w.heap.size (.slice A2 m c2) b) (h3 : Arr iv w w.heap.size (.slice A3 p c3) x) :
    Calls Try.prog 7 #[.slice A n c, .slice A2 m c2, .slice A3 p c3] w fun e w' => e = .returned (.bool true) ∧ Below w.heap.size w w' := by
  have HAw := Lib.hid (awake11_any w)
  have HF := Lib.hid (fun W => few_of A A2 n c m c2 W)
  have HG := Lib.hid (fun W => few_of A3 none p c3 0 0 W)
  have HA := Lib.hid h
  have HB := Lib.hid h2
  have HC := Lib.hid h3
  clear h h2 h3
  by_cases hs : n ≤ 60 ∧ m ≤ 60
  · obtain ⟨hn, hm⟩ := hs
    rw [decide_eq_true hn, decide_eq_true hm] at HF
    by_cases hp : p ≤ 60
    · rw [decide_eq_true hp, decide_eq_true (show 0 ≤ 60 by omega)] at HG
      have L1 := HA.out.len
      have L2 := HB.out.len
      have L3 := HC.out.len
      have H1 := Lib.hid (fun W hA hB => prDistance_any A A2 n c m c2 a b W hA hB (by omega) (by omega))
      have H2 := Lib.hid (fun W hA hB => prDistance_any A2 A m c2 n c b a W hA hB (by omega) (by omega))
      have H3 := Lib.hid (fun W hA hB => prDistance_any A A3 n c p c3 a x W hA hB (by omega) (by omega))
      have H4 := Lib.hid (fun W hA hB => prDistance_any A3 A2 p c3 m c2 x b W hA hB (by omega) (by omega))
      have HS := Lib.hid (fun W hA hB => sameInts_any A A2 n c m c2 a b W hA hB (by omega) (by omega))
      rw [ed_comm b a] at H2
      have u1 := ed_high a x
      have u2 := ed_high x b
      have u3 := ed_tri a x b
      have u4 := ed_high a b
      have hz : (((edD a b : Nat) : Int) == 0) = decide (a = b) := by
        rw [Bool.eq_iff_iff, beq_iff_eq, decide_eq_true_eq, ← ed_zero]
        omega
      obtain ⟨D, hD⟩ : ∃ D, edD a b = D := ⟨_, rfl⟩
      obtain ⟨X, hX⟩ : ∃ D, edD a x = D := ⟨_, rfl⟩
      obtain ⟨Y, hY⟩ : ∃ D, edD x b = D := ⟨_, rfl⟩
      obtain ⟨E, hE⟩ : ∃ D, decide (a = b) = D := ⟨_, rfl⟩
      rw [hD] at H1 H2 hz u3 u4
      rw [hX] at H3 u1 u3
      rw [hY] at H4 u2 u3
      rw [hE] at HS hz
      have q1 : ((D : Int) == (D : Int)) = true := beq_self_eq_true _
      have q2 : (E == E) = true := beq_self_eq_true _
      have q3 : IntKind.i64.wrap ((X : Int) + (Y : Int)) = (X : Int) + (Y : Int) := wraps_i64 _ (by omega) (by omega)
      have q4 : decide ((D : Int) ≤ (X : Int) + (Y : Int)) = true := decide_eq_true (by omega)
      clear hn hm hp u1 u2 u3 u4 hD hX hY hE L1 L2 L3
      go_enter Try.func7, Try.ntmps7
      go_wp2_with fail
      refine HAw.out.mono ?_
      rintro e w1 ⟨rfl, k1⟩
      have b1 := k1
      go_wp2_with fail
      refine (HF.out _).mono ?_
      rintro e _ ⟨rfl, rfl⟩
      go_wp2_with fail
      refine (HG.out _).mono ?_
      rintro e _ ⟨rfl, rfl⟩
      go_wp2_with fail
      refine (H1.out _ (HA.out.up b1) (HB.out.up b1)).mono ?_
      rintro e w2 ⟨rfl, k2⟩
      have b2 := below_next b1 k2
      go_wp2_with fail
      refine (H2.out _ (HB.out.up b2) (HA.out.up b2)).mono ?_
      rintro e w3 ⟨rfl, k3⟩
      have b3 := below_next b2 k3
      go_wp2_with fail
      refine (HS.out _ (HA.out.up b3) (HB.out.up b3)).mono ?_
      rintro e w4 ⟨rfl, k4⟩
      have b4 := below_next b3 k4
      go_wp2_with fail
      refine (H3.out _ (HA.out.up b4) (HC.out.up b4)).mono ?_
      rintro e w5 ⟨rfl, k5⟩
      have b5 := below_next b4 k5
      go_wp2_with fail
      refine (H4.out _ (HC.out.up b5) (HB.out.up b5)).mono ?_
      rintro e w6 ⟨rfl, k6⟩
      have b6 := below_next b5 k6
      go_wp2
      go_ret
      exact ⟨rfl, b6⟩
    · rw [decide_eq_false hp] at HG
      clear hn hm hp
      go_enter Try.func7, Try.ntmps7
      go_wp2_with fail
      refine HAw.out.mono ?_
      rintro e w1 ⟨rfl, k1⟩
      go_wp2_with fail
      refine (HF.out _).mono ?_
      rintro e _ ⟨rfl, rfl⟩
      go_wp2_with fail
      refine (HG.out _).mono ?_
      rintro e _ ⟨rfl, rfl⟩
      go_wp2
      go_ret
      exact ⟨rfl, k1⟩
  · have hf : (decide (n ≤ 60) && decide (m ≤ 60)) = false := by simp; omega
    rw [hf] at HF
    clear hs hf
    go_enter Try.func7, Try.ntmps7
    go_wp2_with fail
    refine HAw.out.mono ?_
    rintro e w1 ⟨rfl, k1⟩
    go_wp2_with fail
    refine (HF.out _).mono ?_
    rintro e _ ⟨rfl, rfl⟩
    go_wp2
    go_ret
    exact ⟨rfl, k1⟩

set_option maxRecDepth 20000 in
set_option maxHeartbeats 3200000 in
theorem editApply_v (A A3 : Option Addr) (n c p c3 : Nat) (a : List Int) (l : List OpI) (w : World) (h : Arr iv w w.heap.size (.slice A n c) a) (h3 : SArr 2 ov w w.heap.size (.slice A3 p c3) l) :
    Calls Try.prog 6 #[.slice A n c, .slice A3 p c3] w fun e w' => e = .returned (.bool true) ∧ Below w.heap.size w w' := by
  have HAw := Lib.hid (awake11_any w)
  have HF := Lib.hid (fun W => few_of A none n c 0 0 W)
  have HA := Lib.hid h
  have HC := Lib.hid h3
  clear h h3
  by_cases hn : n ≤ 60
  · rw [decide_eq_true hn, decide_eq_true (show 0 ≤ 60 by omega)] at HF
    by_cases hp : 100 < p
    · have t1 : decide ((100 : Int) < (p : Int)) = true := decide_eq_true (by omega)
      have t1n : decide (100 < p) = true := decide_eq_true hp
      clear hn hp
      go_enter Try.func6, Try.ntmps6
      go_wp2_with fail
      refine HAw.out.mono ?_
      rintro e w1 ⟨rfl, k1⟩
      go_wp2_with fail
      refine (HF.out _).mono ?_
      rintro e _ ⟨rfl, rfl⟩
      go_wp2
      go_ret
      exact ⟨rfl, k1⟩
    · have t1 : decide ((100 : Int) < (p : Int)) = false := decide_eq_false (by omega)
      have t1n : decide (100 < p) = false := decide_eq_false hp
      have hlen := apply_len a l
      have L1 := HA.out.len
      have L3 := HC.out.len
      have HO := Lib.hid (fun W hA => own_any A3 p c3 l W hA (by omega))
      have H1 := Lib.hid (fun O d W hA hB => prApply_any A O n c p d a l W hA hB (by omega) (by omega))
      have H2 := Lib.hid (fun W hA hB => refApply11_any A A3 n c p c3 a l W hA hB (by omega) (by omega))
      have H3 := Lib.hid (fun O d W hA => prCost_any O p d l W hA (by omega))
      have H4 := Lib.hid (fun W hA => refCost11_any A3 p c3 l W hA (by omega))
      have HS := Lib.hid (fun R r g R' r' g' W hA hB h1 h2 => sameInts_any R R' r g r' g' (applyE a l).1 (applyE a l).1 W hA hB h1 h2)
      rw [decide_eq_true rfl] at HS
      obtain ⟨D, hD⟩ : ∃ D, (costE l : Int) = D := ⟨_, rfl⟩
      obtain ⟨X, hX⟩ : ∃ D, (applyE a l).1 = D := ⟨_, rfl⟩
      obtain ⟨Y, hY⟩ : ∃ D, (applyE a l).2 = D := ⟨_, rfl⟩
      rw [hD] at H3 H4
      rw [hX, hY] at H1 H2
      rw [hX] at HS hlen
      have HX : Hid (X.length ≤ 10000000) := Lib.hid (by omega)
      have q1 : (D == D) = true := beq_self_eq_true _
      have q2 : (Y == Y) = true := beq_self_eq_true _
      clear hn hp hlen hD hX hY L1 L3
      go_enter Try.func6, Try.ntmps6
      go_wp2_with fail
      refine HAw.out.mono ?_
      rintro e w1 ⟨rfl, k1⟩
      have b1 := k1
      go_wp2_with fail
      refine (HF.out _).mono ?_
      rintro e _ ⟨rfl, rfl⟩
      go_wp2_with fail
      refine (HO.out _ (HC.out.up b1)).mono ?_
      rintro e w2 ⟨O2, d2, rfl, hO2, k2⟩
      have b2 := below_next b1 k2
      have HO2 := Lib.hid hO2
      clear hO2
      go_wp2_with fail
      refine (H1.out _ _ _ (HA.out.up b2) HO2.out).mono ?_
      rintro e w3 ⟨R3, r3, g3, rfl, hR3, k3⟩
      have b3 := below_next b2 k3
      have HR3 := Lib.hid hR3
      clear hR3
      go_wp2_with fail
      refine (H2.out _ (HA.out.up b3) (HC.out.up b3)).mono ?_
      rintro e w4 ⟨R4, r4, g4, rfl, hR4, k4⟩
      have b4 := below_next b3 k4
      have HR4 := Lib.hid hR4
      clear hR4
      go_wp2_with fail
      refine (HS.out _ _ _ _ _ _ _ (HR3.out.up k4) HR4.out (by have := HR3.out.len; have := HX.out; omega) (by have := HR4.out.len; have := HX.out; omega)).mono ?_
      rintro e w5 ⟨rfl, k5⟩
      have b5 := below_next b4 k5
      go_wp2_with fail
      refine (HO.out _ (HC.out.up b5)).mono ?_
      rintro e w6 ⟨O6, d6, rfl, hO6, k6⟩
      have b6 := below_next b5 k6
      have HO6 := Lib.hid hO6
      clear hO6
      go_wp2_with fail
      refine (H3.out _ _ _ HO6.out).mono ?_
      rintro e w7 ⟨rfl, k7⟩
      have b7 := below_next b6 k7
      go_wp2_with fail
      refine (H4.out _ (HC.out.up b7)).mono ?_
      rintro e w8 ⟨rfl, k8⟩
      have b8 := below_next b7 k8
      go_wp2
      go_ret
      exact ⟨rfl, b8⟩
  · rw [decide_eq_false hn] at HF
    clear hn
    go_enter Try.func6, Try.ntmps6
    go_wp2_with fail
    refine HAw.out.mono ?_
    rintro e w1 ⟨rfl, k1⟩
    go_wp2_with fail
    refine (HF.out _).mono ?_
    rintro e _ ⟨rfl, rfl⟩
    go_wp2
    go_ret
    exact ⟨rfl, k1⟩

set_option maxRecDepth 20000 in
set_option maxHeartbeats 3200000 in
theorem editLeast_v (A A2 A3 : Option Addr) (n c m c2 p c3 : Nat) (a b : List Int) (l : List OpI) (w : World) (h : Arr iv w w.heap.size (.slice A n c) a) (h2 : Arr iv w w.heap.size (.slice A2 m c2) b) (h3 : SArr 2 ov w w.heap.size (.slice A3 p c3) l) :
    Calls Try.prog 9 #[.slice A n c, .slice A2 m c2, .slice A3 p c3] w fun e w' => e = .returned (.bool true) ∧ Below w.heap.size w w' := by
  have HAw := Lib.hid (awake11_any w)
  have HF := Lib.hid (fun W => few_of A A2 n c m c2 W)
  have HA := Lib.hid h
  have HB := Lib.hid h2
  have HC := Lib.hid h3
  clear h h2 h3
  by_cases hs : n ≤ 60 ∧ m ≤ 60
  · obtain ⟨hn, hm⟩ := hs
    rw [decide_eq_true hn, decide_eq_true hm] at HF
    by_cases hp : 60 < p
    · have t1 : decide ((60 : Int) < (p : Int)) = true := decide_eq_true (by omega)
      have t1n : decide (60 < p) = true := decide_eq_true hp
      clear hn hm hp
      go_enter Try.func9, Try.ntmps9
      go_wp2_with fail
      refine HAw.out.mono ?_
      rintro e w1 ⟨rfl, k1⟩
      go_wp2_with fail
      refine (HF.out _).mono ?_
      rintro e _ ⟨rfl, rfl⟩
      go_wp2
      go_ret
      exact ⟨rfl, k1⟩
    · have t1 : decide ((60 : Int) < (p : Int)) = false := decide_eq_false (by omega)
      have t1n : decide (60 < p) = false := decide_eq_false hp
      have hlen := apply_len a l
      have L1 := HA.out.len
      have L2 := HB.out.len
      have L3 := HC.out.len
      have hc1 := (scr_facts a b).2.2
      have hsl : (scrD a b).length ≤ 200 := by have := scr_len a b; omega
      have u4 := ed_high a b
      have HSc := Lib.hid (fun W hA hB => prScript_any A A2 n c m c2 a b W hA hB (by omega) (by omega))
      have HA1 := Lib.hid (fun O q d W hA hB (hq : q ≤ 1000000) => prApply_any A O n c q d a (scrD a b) W hA hB (by omega) hq)
      rw [apply_own] at HA1
      have HS := Lib.hid (fun R r g W hA hB (hq : r ≤ 1000) => sameInts_any R A2 r g m c2 b b W hA hB (by omega) (by omega))
      rw [decide_eq_true rfl] at HS
      have HC1 := Lib.hid (fun O q d W hA (hq : q ≤ 1000000) => prCost_any O q d (scrD a b) W hA hq)
      rw [hc1] at HC1
      have HD1 := Lib.hid (fun W hA hB => prDistance_any A A2 n c m c2 a b W hA hB (by omega) (by omega))
      have HO := Lib.hid (fun W hA => own_any A3 p c3 l W hA (by omega))
      have HA2 := Lib.hid (fun O q d W hA hB (hq : q ≤ 1000000) => prApply_any A O n c q d a l W hA hB (by omega) hq)
      have HD2 := Lib.hid (fun R r g W hA hB (hq : r ≤ 1000) => prDistance_any A R n c r g a (applyE a l).1 W hA hB (by omega) (by omega))
      have HC2 := Lib.hid (fun O q d W hA (hq : q ≤ 1000000) => prCost_any O q d l W hA hq)
      have hle : (applyE a l).2 = 0 → edD a (applyE a l).1 ≤ costE l := fun e => apply_least (by rw [← e])
      obtain ⟨D, hD⟩ : ∃ D, (edD a b : Int) = D := ⟨_, rfl⟩
      obtain ⟨S, hS⟩ : ∃ D, scrD a b = D := ⟨_, rfl⟩
      obtain ⟨X, hX⟩ : ∃ D, (applyE a l).1 = D := ⟨_, rfl⟩
      obtain ⟨Y, hY⟩ : ∃ D, (applyE a l).2 = D := ⟨_, rfl⟩
      obtain ⟨M, hM⟩ : ∃ D, edD a X = D := ⟨_, rfl⟩
      obtain ⟨K, hK⟩ : ∃ D, costE l = D := ⟨_, rfl⟩
      rw [hD] at HC1 HD1
      rw [hS] at HSc HA1 HC1 hsl
      rw [hX, hY] at HA2
      rw [hX] at HD2 hlen hle
      rw [hY] at hle
      rw [hM] at HD2 hle
      rw [hK] at HC2 hle
      have HX : Hid (X.length ≤ 200) := Lib.hid (by omega)
      have HL2 := Lib.hid L2
      have HL3 := Lib.hid L3
      have HSl := Lib.hid hsl
      have Hm := Lib.hid hm
      have Hp := Lib.hid hp
      have q1 : (D != D) = false := by simp
      have q0 : (((0 : Int)) != 0) = false := rfl
      clear hn hm hp hlen hD hX hY hS hM hK L1 L2 L3 u4 hc1 hsl
      by_cases hy : Y = 0
      · have q2 : (Y != 0) = false := by simp [hy]
        have hle2 := hle hy
        have q3 : decide ((M : Int) ≤ (K : Int)) = true := decide_eq_true (by omega)
        have q3n : decide (M ≤ K) = true := decide_eq_true (by omega)
        clear hle hy hle2
        go_enter Try.func9, Try.ntmps9
        go_wp2_with fail
        refine HAw.out.mono ?_
        rintro e w1 ⟨rfl, k1⟩
        have b1 := k1
        go_wp2_with fail
        refine (HF.out _).mono ?_
        rintro e _ ⟨rfl, rfl⟩
        go_wp2_with fail
        refine (HSc.out _ (HA.out.up b1) (HB.out.up b1)).mono ?_
        rintro e w2 ⟨O2, q2', d2, rfl, hO2, k2⟩
        have b2 := below_next b1 k2
        have HO2 := Lib.hid hO2
        clear hO2
        go_wp2_with fail
        refine (HA1.out _ _ _ _ (HA.out.up b2) HO2.out (by have := HO2.out.len; have := HSl.out; omega)).mono ?_
        rintro e w3 ⟨R3, r3, g3, rfl, hR3, k3⟩
        have b3 := below_next b2 k3
        have HR3 := Lib.hid hR3
        clear hR3
        go_wp2_with fail
        refine (HS.out _ _ _ _ HR3.out (HB.out.up b3) (by have := HR3.out.len; have := HL2.out; have := Hm.out; omega)).mono ?_
        rintro e w4 ⟨rfl, k4⟩
        have b4 := below_next b3 k4
        have k24 := below_next k3 k4
        go_wp2_with fail
        refine (HC1.out _ _ _ _ (HO2.out.up k24) (by have := HO2.out.len; have := HSl.out; omega)).mono ?_
        rintro e w5 ⟨rfl, k5⟩
        have b5 := below_next b4 k5
        go_wp2_with fail
        refine (HD1.out _ (HA.out.up b5) (HB.out.up b5)).mono ?_
        rintro e w6 ⟨rfl, k6⟩
        have b6 := below_next b5 k6
        go_wp2_with fail
        refine (HO.out _ (HC.out.up b6)).mono ?_
        rintro e w7 ⟨O7, d7, rfl, hO7, k7⟩
        have b7 := below_next b6 k7
        have HO7 := Lib.hid hO7
        clear hO7
        go_wp2_with fail
        refine (HA2.out _ _ _ _ (HA.out.up b7) HO7.out (by have := Hp.out; omega)).mono ?_
        rintro e w8 ⟨R8, r8, g8, rfl, hR8, k8⟩
        have b8 := below_next b7 k8
        have HR8 := Lib.hid hR8
        clear hR8
        go_wp2_with fail
        refine (HD2.out _ _ _ _ (HA.out.up b8) HR8.out (by have := HR8.out.len; have := HX.out; omega)).mono ?_
        rintro e w9 ⟨rfl, k9⟩
        have b9 := below_next b8 k9
        go_wp2_with fail
        refine (HO.out _ (HC.out.up b9)).mono ?_
        rintro e w10 ⟨O10, d10, rfl, hO10, k10⟩
        have b10 := below_next b9 k10
        have HO10 := Lib.hid hO10
        clear hO10
        go_wp2_with fail
        refine (HC2.out _ _ _ _ HO10.out (by have := Hp.out; omega)).mono ?_
        rintro e w11 ⟨rfl, k11⟩
        have b11 := below_next b10 k11
        go_wp2
        go_ret
        exact ⟨rfl, b11⟩
      · have q2 : (Y != 0) = true := by simp [hy]
        clear hle hy
        go_enter Try.func9, Try.ntmps9
        go_wp2_with fail
        refine HAw.out.mono ?_
        rintro e w1 ⟨rfl, k1⟩
        have b1 := k1
        go_wp2_with fail
        refine (HF.out _).mono ?_
        rintro e _ ⟨rfl, rfl⟩
        go_wp2_with fail
        refine (HSc.out _ (HA.out.up b1) (HB.out.up b1)).mono ?_
        rintro e w2 ⟨O2, q2', d2, rfl, hO2, k2⟩
        have b2 := below_next b1 k2
        have HO2 := Lib.hid hO2
        clear hO2
        go_wp2_with fail
        refine (HA1.out _ _ _ _ (HA.out.up b2) HO2.out (by have := HO2.out.len; have := HSl.out; omega)).mono ?_
        rintro e w3 ⟨R3, r3, g3, rfl, hR3, k3⟩
        have b3 := below_next b2 k3
        have HR3 := Lib.hid hR3
        clear hR3
        go_wp2_with fail
        refine (HS.out _ _ _ _ HR3.out (HB.out.up b3) (by have := HR3.out.len; have := HL2.out; have := Hm.out; omega)).mono ?_
        rintro e w4 ⟨rfl, k4⟩
        have b4 := below_next b3 k4
        have k24 := below_next k3 k4
        go_wp2_with fail
        refine (HC1.out _ _ _ _ (HO2.out.up k24) (by have := HO2.out.len; have := HSl.out; omega)).mono ?_
        rintro e w5 ⟨rfl, k5⟩
        have b5 := below_next b4 k5
        go_wp2_with fail
        refine (HD1.out _ (HA.out.up b5) (HB.out.up b5)).mono ?_
        rintro e w6 ⟨rfl, k6⟩
        have b6 := below_next b5 k6
        go_wp2_with fail
        refine (HO.out _ (HC.out.up b6)).mono ?_
        rintro e w7 ⟨O7, d7, rfl, hO7, k7⟩
        have b7 := below_next b6 k7
        have HO7 := Lib.hid hO7
        clear hO7
        go_wp2_with fail
        refine (HA2.out _ _ _ _ (HA.out.up b7) HO7.out (by have := Hp.out; omega)).mono ?_
        rintro e w8 ⟨R8, r8, g8, rfl, hR8, k8⟩
        have b8 := below_next b7 k8
        have HR8 := Lib.hid hR8
        clear hR8
        go_wp2
        go_ret
        exact ⟨rfl, b8⟩
  · have hf : (decide (n ≤ 60) && decide (m ≤ 60)) = false := by simp; omega
    rw [hf] at HF
    clear hs hf
    go_enter Try.func9, Try.ntmps9
    go_wp2_with fail
    refine HAw.out.mono ?_
    rintro e w1 ⟨rfl, k1⟩
    go_wp2_with fail
    refine (HF.out _).mono ?_
    rintro e _ ⟨rfl, rfl⟩
    go_wp2
    go_ret
    exact ⟨rfl, k1⟩

end Go.Proofs.Ytlloofmmblhnjaa

namespace Go.Proofs.Ytlloofmmblhnjaa
open Go.RowKit

theorem cell_block {W : World} {a : Addr} {v : Value} (h : W.cell? a = some v) : a.block < W.heap.size := World.block_lt_of_cell? W a h

theorem arr_of_ints {W : World} {x : Addr} {l c : Nat} {zs : List Int} (hl : l ≤ c) (hz : zs.length = c) (hcell : ∀ i, i < zs.length → W.cell? (x.add i) = some (.int .i64 (zs.getD i 0))) :
    ∃ xs, Arr iv W W.heap.size (.slice (some x) l c) xs ∧ xs.length = l := by
  have hlen : (zs.take l).length = l := by rw [List.length_take]; omega
  refine ⟨zs.take l, .inr ⟨x, c, by rw [hlen], by rw [hlen]; exact hl, fun h0 => ?_, fun i u hu => ?_⟩, hlen⟩
  · rw [hlen] at h0
    have := cell_block (hcell 0 (by omega))
    rwa [add_block] at this
  · have hi : i < l := by rw [← hlen]; exact (List.getElem?_eq_some_iff.1 hu).1
    rw [hcell i (by omega)]
    rw [List.getElem?_take, if_pos hi, List.getElem?_eq_getElem (show i < zs.length by omega)] at hu
    simp only [Option.some.injEq] at hu
    have hz' : zs.getD i 0 = zs[i]'(by omega) := by simp [List.getD, List.getElem?_eq_getElem (show i < zs.length by omega)]
    rw [hz', hu]
    rfl

theorem open_i {W : World} {x : Addr} {l c : Nat} {zs : List Int} (hl : l ≤ c) (hm : c ≤ maxLen) (hz : zs.length = c) (hcell : ∀ i, i < zs.length → W.cell? (x.add i) = some (.int .i64 (zs.getD i 0))) :
    ∃ xs, Arr iv W W.heap.size (.slice (some x) l c) xs ∧ xs.length = l ∧ l ≤ 9223372036854775807 := by
  obtain ⟨xs, h1, h2⟩ := arr_of_ints hl hz hcell
  unfold maxLen at hm
  exact ⟨xs, h1, h2, by omega⟩

theorem arr_of_texts {W : World} {x : Addr} {l c : Nat} {ss : List ByteArray} (hl : l ≤ c) (hz : l ≤ ss.length) (hcell : ∀ i, i < ss.length → W.cell? (x.add i) = some (.string (ss.getD i ByteArray.empty)))
    (hws : ∀ s ∈ ss, s.size ≤ maxLen) : ∃ xs, Arr sv W W.heap.size (.slice (some x) l c) xs ∧ xs.length = l ∧ ∀ s ∈ xs, s.length ≤ maxLen := by
  have hlen : ((ss.take l).map fun b => b.data.toList).length = l := by rw [List.length_map, List.length_take]; omega
  refine ⟨(ss.take l).map fun b => b.data.toList, .inr ⟨x, c, by rw [hlen], by rw [hlen]; exact hl, fun h0 => ?_, fun i u hu => ?_⟩, hlen, fun s hs => ?_⟩
  · rw [hlen] at h0
    have := cell_block (hcell 0 (by omega))
    rwa [add_block] at this
  · have hi : i < l := by rw [← hlen]; exact (List.getElem?_eq_some_iff.1 hu).1
    rw [hcell i (by omega)]
    rw [List.getElem?_map, List.getElem?_take, if_pos hi, List.getElem?_eq_getElem (show i < ss.length by omega)] at hu
    simp only [Option.map_some, Option.some.injEq] at hu
    have hz' : ss.getD i ByteArray.empty = ss[i]'(by omega) := by simp [List.getD, List.getElem?_eq_getElem (show i < ss.length by omega)]
    rw [hz', ← hu]
    unfold sv
    rw [str_data]
  · obtain ⟨b, hb, rfl⟩ := List.mem_map.1 hs
    have := hws b (List.mem_of_mem_take hb)
    exact this
theorem open_t {W : World} {x : Addr} {l c : Nat} {ss : List ByteArray} (hl : l ≤ c) (hm : c ≤ maxLen) (hz : l ≤ ss.length) (hcell : ∀ i, i < ss.length → W.cell? (x.add i) = some (.string (ss.getD i ByteArray.empty)))
    (hws : ∀ s ∈ ss, s.size ≤ maxLen) : ∃ xs, Arr sv W W.heap.size (.slice (some x) l c) xs ∧ xs.length = l ∧ l ≤ 9223372036854775807 ∧ ∀ s ∈ xs, s.length ≤ maxLen := by
  obtain ⟨bs, h1, h2, h3⟩ := arr_of_texts hl hz hcell hws
  unfold maxLen at hm
  exact ⟨bs, h1, h2, by omega, h3⟩

theorem open_b8 {W : World} {x : Addr} {l c : Nat} {zs : List Int} (hl : l ≤ c) (hm : c ≤ maxLen) (hz : zs.length = c) (hcell : ∀ i, i < zs.length → W.cell? (x.add i) = some (.int .u8 (zs.getD i 0)))
    (hwz : ∀ n ∈ zs, (Lit.int .u8 n).wf = true) : ∃ bs, Arr bv W W.heap.size (.slice (some x) l c) bs ∧ bs.length = l ∧ l ≤ 9223372036854775807 := by
  have hlen : ((zs.take l).map fun z => UInt8.ofNat z.toNat).length = l := by rw [List.length_map, List.length_take]; omega
  unfold maxLen at hm
  refine ⟨(zs.take l).map fun z => UInt8.ofNat z.toNat, .inr ⟨x, c, by rw [hlen], by rw [hlen]; exact hl, fun h0 => ?_, fun i u hu => ?_⟩, hlen, by omega⟩
  · rw [hlen] at h0
    have := cell_block (hcell 0 (by omega))
    rwa [add_block] at this
  · have hi : i < l := by rw [← hlen]; exact (List.getElem?_eq_some_iff.1 hu).1
    rw [hcell i (by omega)]
    rw [List.getElem?_map, List.getElem?_take, if_pos hi, List.getElem?_eq_getElem (show i < zs.length by omega)] at hu
    simp only [Option.map_some, Option.some.injEq] at hu
    have hz' : zs.getD i 0 = zs[i]'(by omega) := by simp [List.getD, List.getElem?_eq_getElem (show i < zs.length by omega)]
    rw [hz']
    have hb := Go.bounds_u8 (hwz _ (List.getElem_mem (show i < zs.length by omega)))
    subst hu
    unfold bv
    rw [UInt8.toNat_ofNat', Nat.mod_eq_of_lt (by omega), Int.toNat_of_nonneg hb.1]

end Go.Proofs.Ytlloofmmblhnjaa

namespace Go.Proofs.Ytlloofmmblhnjaa
open Go.RowKit Go.ChangeShapes Go.WideShapes Go.Deep Go.Joins

theorem sarr_open {H : Type} {enc : TypeId × Value → H} {P : Program} {W : World} {base : Nat} {spare : Nat → Bool} {held : Bool} {fuel : Nat} {cs : List Value} {x : DataW H × List MemPlace}
    {t e : TypeId} {sz : Nat} {α : Type} {val : α → List Value} (Good : α → Prop) (ht : P.underlying t = some (.slice e)) (hk : P.cellsOf e = sz) (hs : 0 < sz) (hv : ∀ u, (val u).length = sz)
    (helem : ∀ (n : Nat) (cs : List Value) (x : DataW H × List MemPlace), DataW.trod enc P W base spare held n e cs = some x → ∃ u, cs = val u ∧ Good u)
    (h : DataW.trod enc P W base spare held fuel t cs = some x) :
    ∃ A n c xs, cs = [.slice A n c] ∧ SArr sz val W W.heap.size (.slice A n c) xs ∧ xs.length = n ∧ n ≤ 9223372036854775807 ∧ ∀ u ∈ xs, Good u := by
  rcases open_slice ht h with ⟨rfl, _⟩ | ⟨a, len, cap, m, n, D, Pl, rfl, hb, hl, hm, hmm, _, hi⟩
  · exact ⟨none, 0, 0, [], rfl, .inl ⟨rfl, rfl⟩, rfl, by omega, by simp⟩
  · unfold maxLen at hm
    have hml : len ≤ m := by rw [hmm]; split <;> omega
    by_cases h0 : len = 0
    · subst h0
      exact ⟨some a, 0, cap, [], rfl, .inr ⟨a, cap, rfl, by simp, by simp, by simp⟩, rfl, by omega, by simp⟩
    · have hel : ∀ i, i < len → ∃ u : α, (∀ j v, (val u)[j]? = some v → W.cell? (a.add (i * sz + j)) = some v) ∧ Good u := by
        intro i hil
        obtain ⟨cs', hc, ht'⟩ := hi i (by omega)
        rw [hk] at hc
        obtain ⟨u, rfl, hg⟩ := helem n cs' _ ht'
        obtain ⟨_, hcl, hat⟩ := World.cells?_some hc
        refine ⟨u, fun j v hj => ?_, hg⟩
        have hjl : j < sz := by rw [← hv u]; exact (List.getElem?_eq_some_iff.1 hj).1
        have := hat j hjl
        rw [Go.Deep.add_add] at this
        rw [this, hj]
      obtain ⟨u0, _, _⟩ := hel 0 (by omega)
      have hel2 : ∀ i, ∃ u : α, i < len → (∀ j v, (val u)[j]? = some v → W.cell? (a.add (i * sz + j)) = some v) ∧ Good u := fun i => by
        by_cases hil : i < len
        · obtain ⟨u, h1, h2⟩ := hel i hil
          exact ⟨u, fun _ => ⟨h1, h2⟩⟩
        · exact ⟨u0, fun h => absurd h hil⟩
      obtain ⟨f, hf⟩ := Classical.skolem.1 hel2
      have hlen : ((List.range len).map f).length = len := by simp
      have hget : ∀ i u, ((List.range len).map f)[i]? = some u → i < len ∧ f i = u := by
        intro i u hu
        have hil : i < len := by rw [← hlen]; exact (List.getElem?_eq_some_iff.1 hu).1
        rw [List.getElem?_map, List.getElem?_range hil] at hu
        exact ⟨hil, by simpa using hu⟩
      refine ⟨some a, len, cap, (List.range len).map f, rfl, .inr ⟨a, cap, by rw [hlen], by rw [hlen]; exact hl, fun _ => ?_, fun i u hu j v hj => ?_⟩, hlen, by omega, fun u hu => ?_⟩
      · have h1 := (hf 0 (by omega)).1 0 _ (List.getElem?_eq_getElem (by rw [hv]; exact hs))
        have := cell_block h1
        rwa [add_block] at this
      · obtain ⟨hil, rfl⟩ := hget i u hu
        exact (hf i hil).1 j v hj
      · obtain ⟨i, hi'⟩ := List.getElem?_of_mem hu
        obtain ⟨hil, rfl⟩ := hget i u hi'
        exact (hf i hil).2

end Go.Proofs.Ytlloofmmblhnjaa

namespace Go.Proofs.Ytlloofmmblhnjaa
open Go.RowKit

set_option maxRecDepth 20000 in
set_option maxHeartbeats 3200000 in
theorem editDistance_v (A A' : Option Addr) (n c m c' : Nat) (a b : List Int) (k : Int) (w : World) (h : Arr iv w w.heap.size (.slice A n c) a) (h' : Arr iv w w.heap.size (.slice A' m c') b) (hk0 : -9223372036854775808 ≤ k) (hk1 : k < 9223372036854775808) :
    Calls Try.prog 3 #[.slice A n c, .slice A' m c', .int .i64 k] w fun e w' => e = .returned (.bool true) ∧ Below w.heap.size w w' := by
  have HAw := Lib.hid (awake11_any w)
  have HF := Lib.hid (fun W => few_of A A' n c m c' W)
  have HA := Lib.hid h
  have HB := Lib.hid h'
  clear h h'
  by_cases hs : n ≤ 60 ∧ m ≤ 60
  · obtain ⟨hn, hm⟩ := hs
    rw [decide_eq_true hn, decide_eq_true hm] at HF
    have H1 := Lib.hid (fun W hA hB => prWithin_any A A' n c m c' a b k W hA hB (by omega) (by omega) hk0 hk1)
    have H2 := Lib.hid (fun W hA hB => refWithin11_any A A' n c m c' a b k W hA hB (by omega) (by omega))
    have H3 := Lib.hid (fun W hA hB => prDistance_any A A' n c m c' a b W hA hB (by omega) (by omega))
    have H4 := Lib.hid (fun W hA hB => refDistance11_any A A' n c m c' a b W hA hB (by omega) (by omega))
    generalize ((withinE a b k).1 : Int) = X at H1 H2
    generalize (withinE a b k).2 = Y at H1 H2
    generalize (edD a b : Int) = D at H3 H4
    have q1 : (X == X) = true := beq_self_eq_true _
    have q2 : (Y == Y) = true := beq_self_eq_true _
    have q3 : (D == D) = true := beq_self_eq_true _
    clear hk0 hk1 hn hm
    go_enter Try.func3, Try.ntmps3
    go_wp2_with fail
    refine HAw.out.mono ?_
    rintro e w1 ⟨rfl, k1⟩
    go_wp2_with fail
    refine (HF.out _).mono ?_
    rintro e _ ⟨rfl, rfl⟩
    have HA1 := Lib.hid (HA.out.up k1)
    have HB1 := Lib.hid (HB.out.up k1)
    go_wp2_with fail
    refine (H1.out _ HA1.out HB1.out).mono ?_
    rintro e w2 ⟨rfl, k2⟩
    have b2 := below_next k1 k2
    have HA2 := Lib.hid (HA.out.up b2)
    have HB2 := Lib.hid (HB.out.up b2)
    go_wp2_with fail
    refine (H2.out _ HA2.out HB2.out).mono ?_
    rintro e w3 ⟨rfl, k3⟩
    have b3 := below_next b2 k3
    have HA3 := Lib.hid (HA.out.up b3)
    have HB3 := Lib.hid (HB.out.up b3)
    go_wp2_with fail
    refine (H3.out _ HA3.out HB3.out).mono ?_
    rintro e w4 ⟨rfl, k4⟩
    have b4 := below_next b3 k4
    have HA4 := Lib.hid (HA.out.up b4)
    have HB4 := Lib.hid (HB.out.up b4)
    go_wp2_with fail
    refine (H4.out _ HA4.out HB4.out).mono ?_
    rintro e w5 ⟨rfl, k5⟩
    have b5 := below_next b4 k5
    go_wp2
    go_ret
    exact ⟨rfl, b5⟩
  · have hf : (decide (n ≤ 60) && decide (m ≤ 60)) = false := by simp; omega
    rw [hf] at HF
    clear hs hf
    go_enter Try.func3, Try.ntmps3
    go_wp2_with fail
    refine HAw.out.mono ?_
    rintro e w1 ⟨rfl, k1⟩
    go_wp2_with fail
    refine (HF.out _).mono ?_
    rintro e _ ⟨rfl, rfl⟩
    go_wp2
    go_ret
    exact ⟨rfl, k1⟩

set_option maxRecDepth 20000 in
set_option maxHeartbeats 3200000 in
theorem editText_v (s t : List UInt8) (w : World) (h1 : s.length ≤ 9223372036854775807) (h2 : t.length ≤ 9223372036854775807) :
    Calls Try.prog 4 #[.string (str s), .string (str t)] w fun e w' => e = .returned (.bool true) ∧ Below w.heap.size w w' := by
  have HAw := Lib.hid (awake11_any w)
  have z1 : (str s).size = s.length := rfl
  have z2 : (str t).size = t.length := rfl
  by_cases g1 : 80 < s.length
  · have t1 : decide ((80 : Int) < (s.length : Int)) = true := decide_eq_true (by omega)
    have t1n : decide (80 < s.length) = true := decide_eq_true g1
    clear g1
    go_enter Try.func4, Try.ntmps4
    go_wp2_with fail
    refine HAw.out.mono ?_
    rintro e w1 ⟨rfl, k1⟩
    go_wp2
    go_ret
    exact ⟨rfl, k1⟩
  have t1 : decide ((80 : Int) < (s.length : Int)) = false := decide_eq_false (by omega)
  have t1n : decide (80 < s.length) = false := decide_eq_false g1
  by_cases g2 : 80 < t.length
  · have t2 : decide ((80 : Int) < (t.length : Int)) = true := decide_eq_true (by omega)
    have t2n : decide (80 < t.length) = true := decide_eq_true g2
    clear g1 g2
    go_enter Try.func4, Try.ntmps4
    go_wp2_with fail
    refine HAw.out.mono ?_
    rintro e w1 ⟨rfl, k1⟩
    go_wp2
    go_ret
    exact ⟨rfl, k1⟩
  have t2 : decide ((80 : Int) < (t.length : Int)) = false := decide_eq_false (by omega)
  have t2n : decide (80 < t.length) = false := decide_eq_false g2
  have C1 := Lib.hid (fun W => prChars_any s W (by omega))
  have C2 := Lib.hid (fun W => refChars11_any s W (by omega))
  have T1 := Lib.hid (fun W => prText_any s t W (by omega) (by omega))
  have T2 := Lib.hid (fun W => refText11_any s t W (by omega) (by omega))
  generalize (edD (charsE s) (charsE t) : Int) = D at T1 T2
  have q3 : (D == D) = true := beq_self_eq_true _
  have hcl := Lib.hid (chars_len s)
  have HG := Lib.hid g1
  clear g1 g2
  go_enter Try.func4, Try.ntmps4
  go_wp2_with fail
  refine HAw.out.mono ?_
  rintro e w1 ⟨rfl, k1⟩
  go_wp2_with fail
  refine (C1.out _).mono ?_
  rintro e w2 ⟨A1, n1, c1, rfl, hA1, k2⟩
  have b2 := below_next k1 k2
  have HA1 := Lib.hid hA1
  clear hA1
  go_wp2_with fail
  refine (C2.out _).mono ?_
  rintro e w3 ⟨A2, n2, c2, rfl, hA2, k3⟩
  have b3 := below_next b2 k3
  have HSm := Lib.hid (sameInts_any A1 A2 n1 c1 n2 c2 _ _ w3 (HA1.out.up k3) hA2 (by have := HA1.out.len; have := hcl.out; have := HG.out; omega) (by have := hA2.len; have := hcl.out; have := HG.out; omega))
  rw [decide_eq_true rfl] at HSm
  clear hA2
  go_wp2_with fail
  refine HSm.out.mono ?_
  rintro e w4 ⟨rfl, k4⟩
  have b4 := below_next b3 k4
  go_wp2_with fail
  refine (T1.out _).mono ?_
  rintro e w5 ⟨rfl, k5⟩
  have b5 := below_next b4 k5
  go_wp2_with fail
  refine (T2.out _).mono ?_
  rintro e w6 ⟨rfl, k6⟩
  have b6 := below_next b5 k6
  go_wp2
  go_ret
  exact ⟨rfl, b6⟩

end Go.Proofs.Ytlloofmmblhnjaa
