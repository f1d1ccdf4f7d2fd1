/-
  The reference's at.
-/
import Derived.Test.YtpgaebdaakllaaaDoorChars
import Derived.Test.YtpgaebdaakllaaaDoorInts
namespace Go.Proofs.YtpgaebdaakllaaaDoor
open Go.RowKit

def two (a b : Nat) : Value := .tuple #[.int .i64 (a : Int), .int .i64 (b : Int)]
theorem ret_two {a b : Int} {x y : Nat} (h1 : a = x) (h2 : b = y) : Ending.returned (.tuple #[.int .i64 a, .int .i64 b]) = .returned (two x y) := by rw [h1, h2]; rfl

theorem drop_at {s : List UInt8} {k : Nat} (h : k < (str s).size) : s.drop k = (str s)[k] :: s.drop (k + 1) := List.drop_eq_getElem_cons h
theorem drop_end {s : List UInt8} {k : Nat} (h : ¬ k < (str s).size) : s.drop k = [] := List.drop_of_length_le (Nat.le_of_not_lt h)
theorem at_none_of {s : List UInt8} {k : Nat} (hk : k < (str s).size) (hA : ¬ (str s)[k].toNat < 128) (h2 : ∀ h : k + 1 < (str s).size, is2 (str s)[k].toNat (str s)[k + 1].toNat = false)
    (h3 : ∀ (h : k + 1 < (str s).size) (h' : k + 1 + 1 < (str s).size), is3 (str s)[k].toNat (str s)[k + 1].toNat (str s)[k + 1 + 1].toNat = false) : atR (s.drop k) = (0, 0) := by
  rw [drop_at hk]
  by_cases hk1 : k + 1 < (str s).size
  · rw [drop_at hk1]
    by_cases hk2 : k + 1 + 1 < (str s).size
    · rw [drop_at hk2]; exact at_none3 hA (h2 hk1) (h3 hk1 hk2)
    · rw [drop_end hk2]; exact at_none2 hA (h2 hk1)
  · rw [drop_end hk1]; exact at_none1 hA
theorem is2_false {b c : Nat} (h : ¬ (194 ≤ b ∧ b < 224 ∧ c / 64 = 2)) : is2 b c = false := decide_eq_false h
theorem is3_false {b c d : Nat} (h : ¬ (224 ≤ b ∧ b < 240 ∧ c / 64 = 2 ∧ d / 64 = 2 ∧ 2048 ≤ v3 b c d)) : is3 b c d = false := decide_eq_false h
theorem eqb_true {a b : Int} (h : a = b) : (a == b) = true := by simp [h]
theorem eqb_false {a b : Int} (h : a ≠ b) : (a == b) = false := by simp [h]

set_option maxRecDepth 20000 in
set_option maxHeartbeats 1600000 in
theorem at_any (s : List UInt8) (k : Nat) (w : World) (hk : k < s.length) (hlen : s.length ≤ 1000000000000) :
    Calls Tryd.prog 37 #[.string (str s), .int .i64 (k : Int)] w fun e w' => e = .returned (two (atR (s.drop k)).1 (atR (s.drop k)).2) ∧ ∃ q, w' = w.drewN q := by
  have hsz : (str s).size = s.length := rfl
  have hk0 : k < (str s).size := hk
  obtain ⟨R, hR⟩ : ∃ R, R = atR (s.drop k) := ⟨_, rfl⟩
  rw [← hR]
  have HR := Lib.hid hR
  clear hR
  by_cases hA : (str s)[k].toNat < 128
  · have t0 : decide (((str s)[k].toNat : Int) < 128) = true := by simp; omega
    have HE : Hid (R = ((str s)[k].toNat, 1)) := Lib.hid (by rw [HR.out, drop_at hk0, at_ascii hA])
    go_enter Tryd.func37, Tryd.ntmps37
    go_wp2
    go_ret2
    rw [HE.out]
    exact ⟨ret_two rfl rfl, 0, rfl⟩
  have t0 : decide (((str s)[k].toNat : Int) < 128) = false := by simp; omega
  by_cases h1 : (str s)[k].toNat < 194
  · have t1 : decide (194 ≤ ((str s)[k].toNat : Int)) = false := by simp; omega
    have t2 : decide (224 ≤ ((str s)[k].toNat : Int)) = false := by simp; omega
    have HE : Hid (R = (0, 0)) := Lib.hid (by rw [HR.out, at_none_of hk0 hA (fun _ => is2_false (by omega)) (fun _ _ => is3_false (by omega))])
    go_enter Tryd.func37, Tryd.ntmps37
    go_wp2
    go_ret2
    rw [HE.out]
    exact ⟨ret_two rfl rfl, 0, rfl⟩
  have t1 : decide (194 ≤ ((str s)[k].toNat : Int)) = true := by simp; omega
  by_cases h2 : (str s)[k].toNat < 224
  · have t2 : decide (((str s)[k].toNat : Int) < 224) = true := by simp; omega
    have t20 : decide (224 ≤ ((str s)[k].toNat : Int)) = false := by simp; omega
    by_cases h3 : k + 1 < s.length
    · have h30 : k + 1 < (str s).size := h3
      have t3 : decide ((k : Int) + 1 < (s.length : Int)) = true := by simp; omega
      by_cases h4 : (str s)[k + 1].toNat / 64 = 2
      · have t4 : (((str s)[k + 1].toNat : Int) / 64 == 2) = true := eqb_true (by omega)
        have HE : Hid (R = (v2 (str s)[k].toNat (str s)[k + 1].toNat, 2)) := Lib.hid (by rw [HR.out, drop_at hk0, drop_at h30, at_two hA (is2_mk (by omega) h2 h4)])
        go_enter Tryd.func37, Tryd.ntmps37
        go_wp2
        go_ret2
        rw [HE.out]
        exact ⟨ret_two (by show _ = ((v2 _ _ : Nat) : Int); unfold v2; omega) rfl, 0, rfl⟩
      · have t4 : (((str s)[k + 1].toNat : Int) / 64 == 2) = false := eqb_false (by omega)
        have HE : Hid (R = (0, 0)) := Lib.hid (by rw [HR.out, at_none_of hk0 hA (fun _ => is2_false (by omega)) (fun _ _ => is3_false (by omega))])
        go_enter Tryd.func37, Tryd.ntmps37
        go_wp2
        go_ret2
        rw [HE.out]
        exact ⟨ret_two rfl rfl, 0, rfl⟩
    · have t3 : decide ((k : Int) + 1 < (s.length : Int)) = false := by simp; omega
      have HE : Hid (R = (0, 0)) := Lib.hid (by rw [HR.out, at_none_of hk0 hA (fun h => absurd h h3) (fun h _ => absurd h h3)])
      go_enter Tryd.func37, Tryd.ntmps37
      go_wp2
      go_ret2
      rw [HE.out]
      exact ⟨ret_two rfl rfl, 0, rfl⟩
  have t2 : decide (((str s)[k].toNat : Int) < 224) = false := by simp; omega
  have t20 : decide (224 ≤ ((str s)[k].toNat : Int)) = true := by simp; omega
  by_cases h3 : (str s)[k].toNat < 240
  · have t3 : decide (((str s)[k].toNat : Int) < 240) = true := by simp; omega
    by_cases h4 : k + 2 < s.length
    · have t4 : decide ((k : Int) + 2 < (s.length : Int)) = true := by simp; omega
      have h30 : k + 1 < (str s).size := by omega
      have h40 : k + 2 < (str s).size := h4
      by_cases h5 : (str s)[k + 1].toNat / 64 = 2
      · have t5 : (((str s)[k + 1].toNat : Int) / 64 == 2) = true := eqb_true (by omega)
        by_cases h6 : (str s)[k + 2].toNat / 64 = 2
        · have t6 : (((str s)[k + 2].toNat : Int) / 64 == 2) = true := eqb_true (by omega)
          have hb1 : (str s)[k + 1].toNat < 256 := (str s)[k + 1].toNat_lt
          have hb2 : (str s)[k + 2].toNat < 256 := (str s)[k + 2].toNat_lt
          obtain ⟨V, hV⟩ : ∃ V, V = v3 (str s)[k].toNat (str s)[k + 1].toNat (str s)[k + 2].toNat := ⟨_, rfl⟩
          have hVe : (((str s)[k].toNat : Int) - 224) * 4096 + (((str s)[k + 1].toNat : Int) - 128) * 64 + (((str s)[k + 2].toNat : Int) - 128) = (V : Int) := by rw [hV]; unfold v3; omega
          by_cases h7 : 2048 ≤ V
          · have t7 : decide (2048 ≤ (((str s)[k].toNat : Int) - 224) * 4096 + (((str s)[k + 1].toNat : Int) - 128) * 64 + (((str s)[k + 2].toNat : Int) - 128)) = true := by rw [hVe]; simp; omega
            have HE : Hid (R = (V, 3)) := Lib.hid (by rw [HR.out, drop_at hk0, drop_at h30, drop_at h40, at_three hA (is2_no (by omega)) (is3_mk (by omega) h3 h5 h6 (by rw [← hV]; exact h7)), ← hV])
            have HV := Lib.hid hVe
            clear hV hVe
            go_enter Tryd.func37, Tryd.ntmps37
            go_wp2
            go_quiet (fail)
            go_wp2
            go_ret2
            rw [HE.out]
            exact ⟨ret_two HV.out rfl, _, rfl⟩
          · have t7 : decide (2048 ≤ (((str s)[k].toNat : Int) - 224) * 4096 + (((str s)[k + 1].toNat : Int) - 128) * 64 + (((str s)[k + 2].toNat : Int) - 128)) = false := by rw [hVe]; simp; omega
            have HE : Hid (R = (0, 0)) := Lib.hid (by rw [HR.out, at_none_of hk0 hA (fun _ => is2_no (by omega)) (fun _ _ => is3_false (by show ¬ (_ ∧ _ ∧ _ ∧ _ ∧ 2048 ≤ v3 (str s)[k].toNat (str s)[k + 1].toNat (str s)[k + 2].toNat); rw [← hV]; omega))])
            clear hV hVe
            go_enter Tryd.func37, Tryd.ntmps37
            go_wp2
            go_quiet (fail)
            go_wp2
            go_ret2
            rw [HE.out]
            exact ⟨ret_two rfl rfl, _, rfl⟩
        · have t6 : (((str s)[k + 2].toNat : Int) / 64 == 2) = false := eqb_false (by omega)
          have HE : Hid (R = (0, 0)) := Lib.hid (by rw [HR.out, at_none_of hk0 hA (fun _ => is2_no (by omega)) (fun _ _ => is3_false (fun h => h6 h.2.2.2.1))])
          go_enter Tryd.func37, Tryd.ntmps37
          go_wp2
          go_ret2
          rw [HE.out]
          exact ⟨ret_two rfl rfl, 0, rfl⟩
      · have t5 : (((str s)[k + 1].toNat : Int) / 64 == 2) = false := eqb_false (by omega)
        have HE : Hid (R = (0, 0)) := Lib.hid (by rw [HR.out, at_none_of hk0 hA (fun _ => is2_no (by omega)) (fun _ _ => is3_false (fun h => h5 h.2.2.1))])
        go_enter Tryd.func37, Tryd.ntmps37
        go_wp2
        go_ret2
        rw [HE.out]
        exact ⟨ret_two rfl rfl, 0, rfl⟩
    · have t4 : decide ((k : Int) + 2 < (s.length : Int)) = false := by simp; omega
      have HE : Hid (R = (0, 0)) := Lib.hid (by rw [HR.out, at_none_of hk0 hA (fun _ => is2_no (by omega)) (fun _ h => absurd h h4)])
      go_enter Tryd.func37, Tryd.ntmps37
      go_wp2
      go_ret2
      rw [HE.out]
      exact ⟨ret_two rfl rfl, 0, rfl⟩
  · have t3 : decide (((str s)[k].toNat : Int) < 240) = false := by simp; omega
    have hb0 : (str s)[k].toNat < 256 := (str s)[k].toNat_lt
    have HE : Hid (R = (0, 0)) := Lib.hid (by rw [HR.out, at_none_of hk0 hA (fun _ => is2_no (by omega)) (fun _ _ => is3_false (by omega))])
    go_enter Tryd.func37, Tryd.ntmps37
    go_wp2
    go_ret2
    rw [HE.out]
    exact ⟨ret_two rfl rfl, 0, rfl⟩

end Go.Proofs.YtpgaebdaakllaaaDoor
