/-
  The body of ArticleRest.
-/
import Derived.Test.YtmgofhbdaopapaaGreatDoorPkAZ
import Derived.Test.YtmgofhbdaopapaaGreatDoorPkBA
namespace Go.Proofs.YtmgofhbdaopapaaGreatDoor
open Go.RowKit

theorem strip_zero9 {lang s : List UInt8} (h : skipN lang s = 0) : stripN lang s = s ∧ invN lang s = s := by
  refine ⟨by unfold stripN; rw [h]; rfl, ?_⟩
  have h0' : (beginN lang s).2 = 0 := h
  unfold invN
  rw [if_pos h0']
theorem trimR9_any (a : List UInt8) (w : World) (ha : a.length ≤ 1000) :
    Calls Tryz.prog 20 #[.string (str a), .string ⟨#[32]⟩] w fun e w' => e = .returned (.string (str (trimB a))) ∧ Below w.heap.size w w' := by
  have h1 := Go.Proofs.Any.strings_TrimRight_one trimrLays (str a) 32 (by decide) w (by rw [str_size]; omega)
  have e1 : (str a).data.toList = a := by simp [str]
  rw [e1] at h1
  refine Calls.mono (show Calls Tryz.prog 20 #[.string (str a), .string ⟨#[32]⟩] w _ from h1) ?_
  rintro e w' ⟨rfl, rfl⟩
  exact ⟨rfl, Below.refl _ _⟩
theorem hasPre9_any (x t : List UInt8) (w : World) :
    Calls Tryz.prog 22 #[.string (str (x ++ [44, 32] ++ t)), .string (str x ++ ⟨#[44, 32]⟩)] w fun e w' => e = .returned (.bool true) ∧ Below w.heap.size w w' := by
  have h1 := Go.Proofs.Any.strings_HasPrefix hasPreLays (str (x ++ [44, 32] ++ t)) (str x ++ ⟨#[44, 32]⟩) w
  have e0 : str x ++ (⟨#[44, 32]⟩ : ByteArray) = str (x ++ [44, 32]) := by
    have h9 : (⟨#[44, 32]⟩ : ByteArray) = str [44, 32] := rfl
    rw [h9, str_append]
  rw [e0] at h1 ⊢
  have e1 : ∀ a : List UInt8, (str a).data.toList = a := fun a => by simp [str]
  rw [e1, e1] at h1
  have e2 : Lib.hasPrefix (x ++ [44, 32] ++ t) (x ++ [44, 32]) = true := by
    unfold Lib.hasPrefix
    rw [List.isPrefixOf_iff_prefix]
    exact List.prefix_append _ _
  rw [e2] at h1
  refine Calls.mono (show Calls Tryz.prog 22 #[.string (str (x ++ [44, 32] ++ t)), .string (str (x ++ [44, 32]))] w _ from h1) ?_
  rintro e w' ⟨rfl, rfl⟩
  exact ⟨rfl, Below.refl _ _⟩
theorem trimB_len (s : List UInt8) : (trimB s).length ≤ s.length := by
  unfold trimB
  rw [List.length_reverse]
  have h := (List.dropWhile_suffix (l := s.reverse) (· == 32)).length_le
  rwa [List.length_reverse] at h

set_option maxRecDepth 20000 in
set_option maxHeartbeats 6400000 in
theorem articleRest_v (a : Nat) (s : List UInt8) (w : World) (hS : Ready9 w) (h1 : s.length ≤ 9223372036854775807) (ha : a < 256) :
    Calls Tryz.prog 5 #[.int .u8 (a : Int), .string (str s)] w fun e w' => e = .returned (.bool true) ∧ Below w.heap.size w w' := by
  have HAw := Lib.hid (awake9_any w hS)
  have z1 : (str s).size = s.length := rfl
  by_cases g1 : 80 < s.length
  · have t1 : decide ((80 : Int) < (s.length : Int)) = true := decide_eq_true (by omega)
    have t1n : decide (80 < s.length) = true := decide_eq_true g1
    clear g1
    go_enter Tryz.func5, Tryz.ntmps5
    go_wp2_with fail
    refine HAw.out.mono ?_
    rintro e w1 ⟨rfl, k1⟩
    go_wp2
    go_ret
    exact ⟨rfl, k1⟩
  have t1 : decide ((80 : Int) < (s.length : Int)) = false := decide_eq_false (by omega)
  have t1n : decide (80 < s.length) = false := decide_eq_false g1
  obtain ⟨k, hk⟩ : ∃ k, a % 10 = k := ⟨_, rfl⟩
  have hk10 : k < 10 := by omega
  have hmod : (a : Int) % 10 = (k : Int) := by omega
  have kz : (k : Int) < 10 := by omega
  have kz0 : (0 : Int) ≤ (k : Int) := by omega
  obtain ⟨lang, hlang⟩ : ∃ x, langT[k]? = some x := ⟨_, List.getElem?_eq_getElem (by have h9 : langT.length = 10 := rfl; omega)⟩
  have hl3 := lang3 hlang
  have RL := Lib.hid (fun W => refLanguages_any W)
  have P1 := Lib.hid (fun W (hW : Below w.heap.size w W) => prSkip9_any lang s W (hS.below hW) (by omega) (by omega))
  have P2 := Lib.hid (fun W (hW : Below w.heap.size w W) => prStrip9_any lang s W (hS.below hW) (by omega) (by omega))
  have P3 := Lib.hid (fun W (hW : Below w.heap.size w W) => prInvert9_any lang s W (hS.below hW) (by omega) (by omega))
  have HLg := Lib.hid hlang
  clear hlang
  by_cases h0 : skipN lang s = 0
  · obtain ⟨e2, e3⟩ := strip_zero9 h0
    rw [h0] at P1
    rw [e2] at P2
    rw [e3] at P3
    have q1 : ((str s).toList == (str s).toList) = true := beq_self_eq_true _
    clear g1 h0 e2 e3 hk hS
    go_enter Tryz.func5, Tryz.ntmps5
    go_wp2_with fail
    refine HAw.out.mono ?_
    rintro e w1 ⟨rfl, k1⟩
    go_wp2_with fail
    refine (RL.out _).mono ?_
    rintro e w2 ⟨A2, rfl, hA2, k2⟩
    have b2 := below_next k1 k2
    obtain ⟨b0, o0, rfl, hB0, hc0⟩ := hA2.some_ (by omega)
    have d0 : w2.cell? ⟨b0, o0 + k, none⟩ = some (.string (str lang)) := hc0 k lang HLg.out
    clear hc0 hA2
    go_wp2_with fail
    refine (P1.out _ b2).mono ?_
    rintro e w3 ⟨rfl, k3⟩
    have b3 := below_next b2 k3
    go_wp2_with fail
    refine (P2.out _ b3).mono ?_
    rintro e w4 ⟨rfl, k4⟩
    have b4 := below_next b3 k4
    go_wp2_with fail
    refine (P3.out _ b4).mono ?_
    rintro e w5 ⟨rfl, k5⟩
    go_wp2
    go_ret
    exact ⟨rfl, below_next b4 k5⟩
  obtain ⟨hlt, h32, hmem, t, hinv⟩ := art_rest h0
  have hle : skipN lang s ≤ s.length := by omega
  have hsl1 := fun W => str_pre (P := Tryz.prog) 9 Tryz.underlying9 s (skipN lang s) hle W
  have hsl2 := fun W => str_suf (P := Tryz.prog) 9 Tryz.underlying9 s (skipN lang s) hle W
  have HTr := Lib.hid (fun W => trimR9_any (s.take (skipN lang s)) W (by rw [List.length_take]; omega))
  have HFo := Lib.hid (fun W => refFold_any (trimB (s.take (skipN lang s))) W (by have h9 := trimB_len (s.take (skipN lang s)); rw [List.length_take] at h9; omega))
  have RA := Lib.hid (fun W => refArticles_any lang W)
  have hfew := arts_few lang
  have hPre := fun W => hasPre9_any (s.drop (skipN lang s)) t W
  rw [← hinv] at hPre
  have hst : stripN lang s = s.drop (skipN lang s) := rfl
  rw [hst] at P2
  clear hst hinv
  have hdl : (s.drop (skipN lang s)).length ≤ 80 := by rw [List.length_drop]; omega
  obtain ⟨F, hF⟩ : ∃ F, nFold (trimB (s.take (skipN lang s))) = F := ⟨_, rfl⟩
  rw [hF] at HFo hmem
  obtain ⟨l, hl9⟩ : ∃ l, artsOf lang = l := ⟨_, rfl⟩
  rw [hl9] at RA hfew hmem
  obtain ⟨Y, hY⟩ : ∃ Y, invN lang s = Y := ⟨_, rfl⟩
  rw [hY] at P3 hPre
  obtain ⟨at_, hat⟩ : ∃ C, skipN lang s = C := ⟨_, rfl⟩
  simp only [hat] at P1 P2 HTr hsl1 hsl2 hPre hdl hlt hle h0 h32
  obtain ⟨b, hb32⟩ : ∃ b, s[at_]? = some b := ⟨_, List.getElem?_eq_getElem hlt⟩
  have hbne : b ≠ 32 := fun e => h32 (by rw [hb32, e])
  have hkl : at_ < (str s).size := hlt
  have hbb : (str s)[at_] = b := by
    have h9 := str_at s _ hkl
    rw [hb32] at h9
    exact (Option.some.inj h9).symm
  have tb : (((str s)[at_].toNat : Int) == 32) = false := eqb_false (fun e => hbne (by rw [← hbb]; exact UInt8.toNat_inj.1 (by simpa using Int.ofNat.inj e)))
  clear hb32 hbb hbne h32
  obtain ⟨X, hX⟩ : ∃ X, s.drop at_ = X := ⟨_, rfl⟩
  rw [hX] at P2 hsl2 hPre hdl
  obtain ⟨Tk, hTk⟩ : ∃ X, s.take at_ = X := ⟨_, rfl⟩
  rw [hat, hTk] at HFo
  rw [hTk] at HTr hsl1
  obtain ⟨Tr, hTr⟩ : ∃ X, trimB Tk = X := ⟨_, rfl⟩
  rw [hTr] at HFo HTr
  have u0 : ((at_ : Int) == 0) = false := eqb_false (by omega)
  have u1 : decide ((at_ : Int) < 0) = false := decide_eq_false (by omega)
  have u2 : decide ((s.length : Int) ≤ (at_ : Int)) = false := decide_eq_false (by omega)
  have u2n : decide (s.length ≤ at_) = false := decide_eq_false (by omega)
  have u3 : (at_ : Int) < (s.length : Int) := by omega
  have qX : ((str X).toList == (str X).toList) = true := beq_self_eq_true _
  have cX : ¬ 9223372036854775807 < (str X).size + 2 := by
    have e1 : (str X).size = X.length := rfl
    omega
  have HQ := Lib.hid (fun (a b : List UInt8) => strs_beq a b)
  have HMem := Lib.hid hmem
  clear g1 hF hl9 hY hat hX hTk hTr hk hmem hS h0 hdl hlt hle
  go_enter Tryz.func5, Tryz.ntmps5
  go_wp2_with fail
  refine HAw.out.mono ?_
  rintro e w1 ⟨rfl, k1⟩
  go_wp2_with fail
  refine (RL.out _).mono ?_
  rintro e w2 ⟨A2, rfl, hA2, k2⟩
  have b2 := below_next k1 k2
  obtain ⟨b0, o0, rfl, hB0, hc0⟩ := hA2.some_ (by omega)
  have d0 : w2.cell? ⟨b0, o0 + k, none⟩ = some (.string (str lang)) := hc0 k lang HLg.out
  clear hc0 hA2
  go_wp2_with fail
  refine (P1.out _ b2).mono ?_
  rintro e w3 ⟨rfl, k3⟩
  have b3 := below_next b2 k3
  go_wp2_with fail
  refine (HTr.out _).mono ?_
  rintro e w4 ⟨rfl, k4⟩
  have b4 := below_next b3 k4
  go_wp2_with fail
  refine (HFo.out _).mono ?_
  rintro e w5 ⟨rfl, k5⟩
  have b5 := below_next b4 k5
  go_wp2_with fail
  refine (RA.out _).mono ?_
  rintro e w6 ⟨A6, n6, c6, rfl, hA6, k6⟩
  have b6 := below_next b5 k6
  have HLn := Lib.hid hA6.len
  have hn6 : n6 ≤ 20 := by have := HLn.out; omega
  go_wp2
  go_loopw [8, 61] (fun f i wr => ∃ (j : Nat) (K : Bool), j ≤ n6 ∧ f = .bool K ∧ i = .int .i64 (j : Int) ∧ Hid (((l.take j).any fun x => x == F) = K) ∧ Below w6.heap.size w6 wr) (fun _ i _ => n6 - (intOf i).toNat)
  case atStart => exact ⟨0, false, by omega, rfl, rfl, Lib.hid rfl, Below.refl _ _⟩
  case round =>
    obtain ⟨j, K, hj, rfl, rfl, HK, hb⟩ := hrel
    have b7 := below_next b6 hb
    by_cases hlt : j < n6
    · have i1 : decide ((j : Int) < (n6 : Int)) = true := decide_eq_true (by omega)
      have i1n : decide (j < n6) = true := decide_eq_true hlt
      have jz : (j : Int) < (n6 : Int) := by omega
      obtain ⟨b8, o8, rfl, hB8, hc8⟩ := hA6.some_ (by omega)
      obtain ⟨x, hx⟩ : ∃ a, l[j]? = some a := ⟨_, List.getElem?_eq_getElem (by have := HLn.out; omega)⟩
      have d8 : wr.cell? ⟨b8, o8 + j, none⟩ = some (.string (str x)) := (hb.cell (p := ⟨b8, o8 + j, none⟩) hB8).trans (hc8 j x hx)
      have hq := HQ.out x F
      have HK2 : Hid (((l.take (j + 1)).any fun x => x == F) = (K || (x == F))) := Lib.hid (by rw [take_next hx, List.any_append, HK.out]; simp)
      have hqq : (x == F) = decide (x = F) := by
        by_cases h : x = F
        · rw [decide_eq_true h]; simpa using h
        · rw [decide_eq_false h]; simpa using h
      rw [hqq] at HK2
      obtain ⟨q, hqv⟩ : ∃ q, decide (x = F) = q := ⟨_, rfl⟩
      rw [hqv] at hq HK2
      clear hc8 hx hqq hqv
      cases K with
      | true =>
        go_wp2
        go_roundw
        case rel => exact ⟨j + 1, true, by omega, rfl, by go_num, HK2, hb⟩
        case measure => simp [intOf]; omega
      | false =>
        rw [Bool.false_or] at HK2
        go_wp2
        go_roundw
        case rel => exact ⟨j + 1, q, by omega, rfl, by go_num, HK2, hb⟩
        case measure => simp [intOf]; omega
    · obtain rfl : j = n6 := by omega
      have i1 : decide ((j : Int) < (j : Int)) = false := by simp
      have i1n : decide (j < j) = false := by simp
      obtain ⟨w7, hw7⟩ : ∃ y : World, y = wr := ⟨_, rfl⟩
      subst hw7
      have hKK : K = true := by
        have h9 := HK.out
        rw [List.take_of_length_le (by rw [HLn.out]; exact Nat.le_refl _)] at h9
        rw [← h9, List.any_eq_true]
        exact ⟨F, HMem.out, beq_self_eq_true _⟩
      subst hKK
      have HP2 := Lib.hid (fun W (hW : Below w7.heap.size w7 W) => P2.out W (below_next b7 hW))
      have HP3 := Lib.hid (fun W (hW : Below w7.heap.size w7 W) => P3.out W (below_next b7 hW))
      clear hA6 HK
      go_wp2
      refine wp_region_reach (by kernel_rfl) (by kernel_rfl) ?_
      repeat (quiet_step (first
        | (go_at_call 11; with_reducible exact calls_reach (HP2.out _ (below_reach _ _)))
        | (go_at_call 13; with_reducible exact calls_reach (HP3.out _ (below_reach _ _)))
        | (go_at_call 22; with_reducible exact calls_reach (hPre _))))
      refine wpQuiet_nil ?_
      intro _ hw'
      obtain ⟨p1, hw''⟩ := hw'
      subst hw''
      have k8 := below_reach w7 p1
      go_wp2
      go_ret
      exact ⟨rfl, below_next b7 k8⟩

end Go.Proofs.YtmgofhbdaopapaaGreatDoor
