/-
  The body of the statement RepertoireScripts.
-/
import Derived.Test.YtidbkllhlllnnaaDoorInverseLaw
namespace Go.Proofs.YtidbkllhlllnnaaDoor
open Go.RowKit

theorem clsN_le (c : Int) : (clsN c).1 ≤ 3 := by
  unfold clsN
  repeat' split
  all_goals decide
theorem cls_le (c : Int) : (clsR c).1 ≤ 3 := by
  unfold clsR
  split
  · exact clsN_le _
  · exact clsN_le _
theorem scr_app : ∀ (l m : List Nat) (o : Nat), o ≠ 4 → scrF o (l ++ m) = if scrF o l = 4 then 4 else scrF (scrF o l) m
  | [], m, o, ho => by
    show scrF o m = if o = 4 then 4 else scrF o m
    rw [if_neg ho]
  | c :: l, m, o, ho => by
    have hle := cls_le (c : Int)
    rw [List.cons_append]
    by_cases h0 : (clsR (c : Int)).1 = 0
    · rw [scr_none h0, scr_none h0, scr_app l m o ho]
    · by_cases h1 : o ≠ 0 ∧ (clsR (c : Int)).1 ≠ o
      · rw [scr_mixed h0 h1.1 h1.2, scr_mixed h0 h1.1 h1.2, if_pos rfl]
      · have h2 : o = 0 ∨ (clsR (c : Int)).1 = o := by
          by_cases h3 : o = 0
          · exact .inl h3
          · exact .inr (Classical.byContradiction fun h4 => h1 ⟨h3, h4⟩)
        rw [scr_next h0 h2, scr_next h0 h2, scr_app l m _ (by omega)]
theorem scr_from : ∀ (l : List Nat) (o : Nat), o ≠ 0 → o ≤ 3 → scrF o l = if scrF 0 l = 0 then o else if scrF 0 l = o then o else 4
  | [], o, _, _ => by show o = if (0 : Nat) = 0 then o else _; rw [if_pos rfl]
  | c :: l, o, ho, h3 => by
    have hle := cls_le (c : Int)
    by_cases h0 : (clsR (c : Int)).1 = 0
    · rw [scr_none h0, scr_none h0, scr_from l o ho h3]
    · rw [scr_next (o := 0) h0 (.inl rfl)]
      have hI := scr_from l (clsR (c : Int)).1 h0 hle
      have hne : scrF (clsR (c : Int)).1 l ≠ 0 := by
        rw [hI]
        split
        · exact h0
        · split
          · exact h0
          · decide
      rw [if_neg hne]
      by_cases h1 : (clsR (c : Int)).1 = o
      · rw [scr_next h0 (.inr h1), h1]
        have hO := scr_from l o ho h3
        rw [h1] at hI
        by_cases h4 : scrF o l = o
        · rw [if_pos h4]; exact h4
        · rw [if_neg h4]
          rw [hO] at h4 ⊢
          split
          · rename_i h5; rw [if_pos h5] at h4; exact absurd rfl h4
          · rename_i h5
            rw [if_neg h5] at h4
            split
            · rename_i h6; rw [if_pos h6] at h4; exact absurd rfl h4
            · rfl
      · rw [scr_mixed h0 ho h1]
        have h5 : scrF (clsR (c : Int)).1 l = (clsR (c : Int)).1 ∨ scrF (clsR (c : Int)).1 l = 4 := by
          rw [hI]
          split
          · exact .inl rfl
          · split
            · exact .inl rfl
            · exact .inr rfl
        rw [if_neg]
        rcases h5 with h5 | h5
        · rw [h5]; exact h1
        · rw [h5]; omega
theorem scr_le (l : List Nat) : scrF 0 l ≤ 4 := by
  induction l with
  | nil => decide
  | cons c l ih =>
    have hle := cls_le (c : Int)
    by_cases h0 : (clsR (c : Int)).1 = 0
    · rw [scr_none h0]; exact ih
    · rw [scr_next h0 (.inl rfl), scr_from l _ h0 hle]
      split
      · omega
      · split <;> omega
theorem scr_both (l m : List Nat) : (scrF 0 l = 0 → scrF 0 (l ++ m) = scrF 0 m) ∧ (scrF 0 m = 0 ∨ scrF 0 l = scrF 0 m → scrF 0 (l ++ m) = scrF 0 l) ∧
    (scrF 0 l ≠ 0 → scrF 0 m ≠ 0 → scrF 0 l ≠ scrF 0 m → scrF 0 (l ++ m) = 4) := by
  have h := scr_app l m 0 (by decide)
  have h1 := scr_le l
  by_cases h4 : scrF 0 l = 4
  · rw [if_pos h4] at h
    rw [h, h4]
    exact ⟨fun h => absurd h (by decide), fun _ => rfl, fun _ _ _ => rfl⟩
  · rw [if_neg h4] at h
    by_cases h0 : scrF 0 l = 0
    · rw [h0] at h ⊢
      exact ⟨fun _ => h, fun hh => by rw [h]; omega, fun hh => absurd rfl hh⟩
    · rw [h, scr_from m _ h0 (by omega)]
      refine ⟨fun hh => absurd hh h0, fun hh => ?_, fun _ h5 h6 => ?_⟩
      · rcases hh with hh | hh
        · rw [if_pos hh]
        · rw [← hh, if_neg h0, if_pos rfl]
      · rw [if_neg h5, if_neg (fun e => h6 e.symm)]

set_option maxRecDepth 20000 in
set_option maxHeartbeats 3200000 in
theorem repScripts_v (s t : List UInt8) (w : World) (hS : Spans w) (hlen : s.length ≤ 9223372036854775807) (hlen2 : t.length ≤ 9223372036854775807) :
    Calls Tryd.prog 9 #[.string (str s), .string (str t)] w fun e w' => e = .returned (.bool true) ∧ Below w.heap.size w w' := by
  have hsz : (str s).size = s.length := rfl
  have hsz2 : (str t).size = t.length := rfl
  by_cases h5 : 100 < s.length
  · have t1 : decide (100 < (s.length : Int)) = true := by simp; omega
    go_enter Tryd.func9, Tryd.ntmps9
    go_wp2_with fail
    refine (awake_any _ hS).mono ?_
    rintro e w1 ⟨rfl, n1⟩
    have k1 := n1
    go_wp2
    go_ret
    exact ⟨rfl, k1⟩
  have t1 : decide (100 < (s.length : Int)) = false := by simp; omega
  by_cases h6 : 100 < t.length
  · have t2 : decide (100 < (t.length : Int)) = true := by simp; omega
    go_enter Tryd.func9, Tryd.ntmps9
    go_wp2_with fail
    refine (awake_any _ hS).mono ?_
    rintro e w1 ⟨rfl, n1⟩
    have k1 := n1
    go_wp2
    go_ret
    exact ⟨rfl, k1⟩
  have t2 : decide (100 < (t.length : Int)) = false := by simp; omega
  have hs2 : s.length ≤ 10000 := by omega
  have ht2 : t.length ≤ 10000 := by omega
  cases hr : decR s with
  | none =>
    have HS := Lib.hid hr
    obtain ⟨r2, HT⟩ : ∃ r, Hid (decR t = r) := ⟨_, Lib.hid rfl⟩
    clear hr
    go_enter Tryd.func9, Tryd.ntmps9
    go_wp2_with fail
    refine (awake_any _ hS).mono ?_
    rintro e w1 ⟨rfl, n1⟩
    have k1 := n1
    go_wp2_with fail
    refine (prDecode_at w hS s _ _ k1 hs2 HS.out).mono ?_
    rintro e w2 ⟨u1, rfl, h_u1, k2, n2⟩
    go_wp2_with fail
    refine (prDecode_at w hS t _ _ k2 ht2 HT.out).mono ?_
    rintro e w3 ⟨u2, rfl, h_u2, k3, n3⟩
    go_wp2
    go_ret
    exact ⟨rfl, k3⟩
  | some l =>
    have HS := Lib.hid hr
    cases hr2 : decR t with
    | none =>
      have HT := Lib.hid hr2
      clear hr hr2
      go_enter Tryd.func9, Tryd.ntmps9
      go_wp2_with fail
      refine (awake_any _ hS).mono ?_
      rintro e w1 ⟨rfl, n1⟩
      have k1 := n1
      go_wp2_with fail
      refine (prDecode_at w hS s _ _ k1 hs2 HS.out).mono ?_
      rintro e w2 ⟨u1, rfl, h_u1, k2, n2⟩
      go_wp2_with fail
      refine (prDecode_at w hS t _ _ k2 ht2 HT.out).mono ?_
      rintro e w3 ⟨u2, rfl, h_u2, k3, n3⟩
      go_wp2
      go_ret
      exact ⟨rfl, k3⟩
    | some m =>
      have HT := Lib.hid hr2
      have e1 : scriptR s = scrF 0 l := by unfold scriptR; rw [hr]
      have e2 : scriptR t = scrF 0 m := by unfold scriptR; rw [hr2]
      have e3 : scriptR (s ++ t) = scrF 0 (l ++ m) := by
        unfold scriptR
        rw [dec_both hr hr2]
        rfl
      have hb := scr_both l m
      rw [← e1, ← e2, ← e3] at hb
      obtain ⟨a, ha⟩ : ∃ a, scriptR s = a := ⟨_, rfl⟩
      obtain ⟨b, hb'⟩ : ∃ a, scriptR t = a := ⟨_, rfl⟩
      obtain ⟨c, hc⟩ : ∃ a, scriptR (s ++ t) = a := ⟨_, rfl⟩
      rw [ha, hb', hc] at hb
      have HA := Lib.hid ha
      have HB := Lib.hid hb'
      have HC := Lib.hid hc
      have HF := Lib.hid hb
      clear hr hr2 e1 e2 e3 ha hb' hc hb
      go_enter Tryd.func9, Tryd.ntmps9
      go_wp2_with fail
      refine (awake_any _ hS).mono ?_
      rintro e w1 ⟨rfl, n1⟩
      have k1 := n1
      go_wp2_with fail
      refine (prDecode_at w hS s _ _ k1 hs2 HS.out).mono ?_
      rintro e w2 ⟨u1, rfl, h_u1, k2, n2⟩
      go_wp2_with fail
      refine (prDecode_at w hS t _ _ k2 ht2 HT.out).mono ?_
      rintro e w3 ⟨u2, rfl, h_u2, k3, n3⟩
      go_wp2_with fail
      refine (prScript_at w hS s a _ k3 HA.out).mono ?_
      rintro e w4 ⟨rfl, k4, n4⟩
      go_wp2_with fail
      refine (prScript_at w hS t b _ k4 HB.out).mono ?_
      rintro e w5 ⟨rfl, k5, n5⟩
      have hadd := add_str (P := Tryd.prog) (w := w5) s t (by omega)
      go_wp2_with fail
      refine (prScript_at w hS (s ++ t) c _ k5 HC.out).mono ?_
      rintro e w6 ⟨rfl, k6, n6⟩
      obtain ⟨f1, f2, f3⟩ := HF.out
      have HF1 := Lib.hid f1
      have HF2 := Lib.hid f2
      have HF3 := Lib.hid f3
      clear f1 f2 f3
      by_cases ha : a = 0
      · have j1 : ((a : Int) == 0) = true := eqb_true (by omega)
        have j2 : ((c : Int) == (b : Int)) = true := eqb_true (by have := HF1.out ha; omega)
        clear ha
        go_wp2
        go_ret
        exact ⟨rfl, k6⟩
      · have j1 : ((a : Int) == 0) = false := eqb_false (by omega)
        by_cases hb : b = 0
        · have j2 : ((b : Int) == 0) = true := eqb_true (by omega)
          have j3 : ((c : Int) == (a : Int)) = true := eqb_true (by have := HF2.out (.inl hb); omega)
          clear ha hb
          go_wp2
          go_ret
          exact ⟨rfl, k6⟩
        · have j2 : ((b : Int) == 0) = false := eqb_false (by omega)
          by_cases hab : a = b
          · have j3 : ((a : Int) == (b : Int)) = true := eqb_true (by omega)
            have j4 : ((c : Int) == (a : Int)) = true := eqb_true (by have := HF2.out (.inr hab); omega)
            clear ha hb hab
            go_wp2
            go_ret
            exact ⟨rfl, k6⟩
          · have j3 : ((a : Int) == (b : Int)) = false := eqb_false (by omega)
            have j4 : ((c : Int) == 4) = true := eqb_true (by have := HF3.out ha hb hab; omega)
            clear ha hb hab
            go_wp2
            go_ret
            exact ⟨rfl, k6⟩

end Go.Proofs.YtidbkllhlllnnaaDoor
