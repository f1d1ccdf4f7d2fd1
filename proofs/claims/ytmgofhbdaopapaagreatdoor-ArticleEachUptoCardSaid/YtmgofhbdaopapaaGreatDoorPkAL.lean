/-
  The reference's begin.
  The reference's Skip, Strip, Invert, Sort.
-/
import Derived.Test.YtmgofhbdaopapaaGreatDoorPkAK
import Derived.BigQuiet
namespace Go.Proofs.YtmgofhbdaopapaaGreatDoor
open Go.RowKit

theorem arts_ne {lang a : List UInt8} (ha : a ∈ artsOf lang) : a ≠ [] ∧ a.length ≤ 10 := by
  have hall : (artT.all fun l => l.all fun a => !(a == []) && Nat.ble a.length 10) = true := by decide +kernel
  unfold artsOf at ha
  cases hf : (langT.zip artT).find? fun p => p.1 == lang with
  | none => rw [hf] at ha; cases ha
  | some p =>
    rw [hf] at ha
    have hp := (List.of_mem_zip (List.mem_of_find?_eq_some hf)).2
    have h1 := List.all_eq_true.1 (List.all_eq_true.1 hall _ hp) a ha
    rw [Bool.and_eq_true] at h1
    refine ⟨fun e => ?_, Nat.le_of_ble_eq_true h1.2⟩
    rw [e] at h1
    cases h1.1
theorem arts_few (lang : List UInt8) : (artsOf lang).length ≤ 20 := by
  have hall : (artT.all fun l => Nat.ble l.length 20) = true := by decide +kernel
  unfold artsOf
  cases hf : (langT.zip artT).find? fun p => p.1 == lang with
  | none => exact Nat.zero_le _
  | some p =>
    have hp := (List.of_mem_zip (List.mem_of_find?_eq_some hf)).2
    exact Nat.le_of_ble_eq_true (List.all_eq_true.1 hall _ hp)

set_option maxRecDepth 20000 in
set_option maxHeartbeats 6400000 in
theorem refBegin_any (lang s : List UInt8) (w : World) (hs : s.length ≤ 60000) :
    Calls Tryz.prog 30 #[.string (str lang), .string (str s)] w fun e w' => e = .returned (.tuple #[.int .i64 ((beginN lang s).1 : Int), .int .i64 ((beginN lang s).2 : Int)]) ∧ Below w.heap.size w w' := by
  have HD := Lib.hid (fun W => refDecode_any s W (by omega))
  cases hd : decR s with
  | none =>
    rw [hd] at HD
    have hB : beginN lang s = (0, 0) := by unfold beginN; rw [hd]; rfl
    rw [hB]
    clear hd hB
    go_enter Tryz.func30, Tryz.ntmps30
    go_wp2_with fail
    refine (HD.out _).mono ?_
    rintro e w1 ⟨hde, k1⟩
    obtain rfl := show e = _ from hde
    go_wp2
    go_ret2
    exact ⟨rfl, k1⟩
  | some L =>
    rw [hd] at HD
    have hB : beginN lang s = hitsN s (artsOf lang) := by unfold beginN; rw [hd]; rfl
    rw [hB]
    have hcl : (cutR s 2).length ≤ s.length := by
      rw [cutR_some hd (by decide)]
      obtain ⟨e1, _⟩ := enc_dec hd
      rw [← e1]
      conv => rhs; rw [← List.take_append_drop 2 L, encL_app, List.length_append]
      exact Nat.le_add_right _ _
    obtain ⟨-, -, -, -, hwl⟩ := word_split s
    have HCu := Lib.hid (fun W => refCut_any s 2 W (by omega))
    have HAr := Lib.hid (fun W => refArticles_any lang W)
    have HSp := Lib.hid (fun W => refSpaces_any s (wordN s) W hwl (by omega))
    have HFt := Lib.hid (fun W => refFold_any (s.take (cutR s 2).length) W (by rw [List.length_take]; omega))
    have HFw := Lib.hid (fun W => refFold_any (s.take (wordN s)) W (by rw [List.length_take]; omega))
    have hsl1 := fun W => str_pre (P := Tryz.prog) 9 Tryz.underlying9 s (cutR s 2).length hcl W
    have hsl2 := fun W => str_pre (P := Tryz.prog) 9 Tryz.underlying9 s (wordN s) hwl W
    have HNe : Hid (∀ a ∈ artsOf lang, a ≠ [] ∧ a.length ≤ 10) := Lib.hid (fun a ha => arts_ne ha)
    have hfew := arts_few lang
    have hsp := (spN_le s (wordN s) hwl).2
    obtain ⟨l, hl⟩ : ∃ l, artsOf lang = l := ⟨_, rfl⟩
    rw [hl] at HAr HNe hfew ⊢
    have HStep : Hid (∀ k a, l[k]? = some a → (l.take k).findSome? (artHit s (wordN s) (cutR s 2).length) = none →
      (∀ v, artHit s (wordN s) (cutR s 2).length a = some v → hitsN s l = v) ∧ (artHit s (wordN s) (cutR s 2).length a = none → (l.take (k + 1)).findSome? (artHit s (wordN s) (cutR s 2).length) = none)) := Lib.hid (fun k a h hp => hits_step s l k h hp)
    have HEnd : Hid (l.findSome? (artHit s (wordN s) (cutR s 2).length) = none → hitsN s l = (0, 0)) := Lib.hid hits_none
    have HHit : Hid (∀ a, artHit s (wordN s) (cutR s 2).length a = if apoB a = true then (if nFold (s.take (cutR s 2).length) = a ∧ (cutR s 2).length < s.length ∧ s[(cutR s 2).length]? ≠ some 32 then some ((cutR s 2).length, (cutR s 2).length) else none)
      else (if nFold (s.take (wordN s)) = a ∧ spN s (wordN s) < s.length then some (wordN s, spN s (wordN s)) else none)) := Lib.hid (fun a => rfl)
    have HWd : Hid (0 + wordN (s.drop 0) = wordN s) := Lib.hid (by rw [Nat.zero_add]; rfl)
    obtain ⟨Cu, hCu⟩ : ∃ C, cutR s 2 = C := ⟨_, rfl⟩
    rw [hCu] at HCu HFt hsl1 hcl HStep HEnd HHit
    have hCz : (str Cu).size = Cu.length := rfl
    obtain ⟨T, hT⟩ : ∃ T, Cu.length = T := ⟨_, rfl⟩
    rw [hT] at HFt hsl1 hcl HStep HEnd HHit hCz
    obtain ⟨Wd, hWd⟩ : ∃ W, wordN s = W := ⟨_, rfl⟩
    rw [hWd] at HSp HFw hsl2 hwl HStep HEnd HHit hsp HWd
    obtain ⟨Sp, hSp⟩ : ∃ S, spN s Wd = S := ⟨_, rfl⟩
    rw [hSp] at HSp HHit hsp
    obtain ⟨Ft, hFt⟩ : ∃ F, nFold (s.take T) = F := ⟨_, rfl⟩
    rw [hFt] at HFt HHit
    obtain ⟨Fw, hFw⟩ : ∃ F, nFold (s.take Wd) = F := ⟨_, rfl⟩
    rw [hFw] at HFw HHit
    obtain ⟨N, hN⟩ : ∃ N, hitsN s l = N := ⟨_, rfl⟩
    rw [hN] at HStep HEnd ⊢
    have HQ := Lib.hid (fun (a b : List UInt8) => str_beq a b)
    have hsz : (str s).size = s.length := rfl
    clear hd hB hl hCu hWd hSp hFt hFw hN
    go_enter Tryz.func30, Tryz.ntmps30
    go_wp2_with fail
    refine (HD.out _).mono ?_
    rintro e w1 ⟨hde, k1⟩
    obtain ⟨v1, rfl, -⟩ := show ∃ v, e = _ ∧ _ from hde
    clear hde
    go_wp2
    go_loopw [8] (fun i wr => ∃ j : Nat, j ≤ s.length ∧ i = .int .i64 (j : Int) ∧ Hid (j + wordN (s.drop j) = Wd) ∧ Below w.heap.size w wr) (fun i _ => s.length - (intOf i).toNat)
    case atStart => exact ⟨0, by omega, rfl, HWd, k1⟩
    case round =>
      obtain ⟨j, hj, rfl, HJ, hb⟩ := hrel
      by_cases hgo : ∃ b, s[j]? = some b ∧ b ≠ 32
      · obtain ⟨b, hat, h32⟩ := hgo
        have hlt : j < s.length := (List.getElem?_eq_some_iff.1 hat).1
        have i1 : decide ((j : Int) < (s.length : Int)) = true := decide_eq_true (by omega)
        have i1n : decide (j < s.length) = true := decide_eq_true hlt
        have iz : (j : Int) < (s.length : Int) := by omega
        have hkl : j < (str s).size := hlt
        have hbb : (str s)[j] = b := by
          have h9 := str_at s j hkl
          rw [hat] at h9
          exact (Option.some.inj h9).symm
        have t1 : (((str s)[j].toNat : Int) != 32) = true := by
          have : (((str s)[j].toNat : Int) == 32) = false := eqb_false (fun e => h32 (by rw [← hbb]; exact UInt8.toNat_inj.1 (by simpa using Int.ofNat.inj e)))
          rw [bne, this]; rfl
        have HJ2 : Hid ((j + 1) + wordN (s.drop (j + 1)) = Wd) := Lib.hid (by rw [wd_yes hat h32]; exact HJ.out)
        clear hat hbb h32
        go_wp2
        go_roundw
        case rel => exact ⟨j + 1, by omega, by go_num, HJ2, hb⟩
        case measure => simp [intOf]; omega
      · have hjW : j = Wd := by
          have h9 := HJ.out
          by_cases hlt : j < s.length
          · have h32 : s[j]? = some 32 := by
              have h8 := List.getElem?_eq_getElem hlt
              by_cases h7 : s[j] = 32
              · rw [h8, h7]
              · exact absurd ⟨s[j], h8, h7⟩ hgo
            rw [wd_no h32] at h9
            exact h9
          · rw [wd_end (by omega)] at h9
            exact h9
        subst hjW
        have hcase : (j < s.length ∧ s[j]? = some 32) ∨ j = s.length := by
          by_cases hlt : j < s.length
          · left
            refine ⟨hlt, ?_⟩
            have h8 := List.getElem?_eq_getElem hlt
            by_cases h7 : s[j] = 32
            · rw [h8, h7]
            · exact absurd ⟨s[j], h8, h7⟩ hgo
          · right; omega
        obtain ⟨w2, hw2⟩ : ∃ x : World, x = wr := ⟨_, rfl⟩
        subst hw2
        clear hgo HJ HWd
        rcases hcase with ⟨hlt, h32⟩ | hlt
        · have i1 : decide ((j : Int) < (s.length : Int)) = true := decide_eq_true (by omega)
          have i1n : decide (j < s.length) = true := decide_eq_true hlt
          have iz : (j : Int) < (s.length : Int) := by omega
          have hkl : j < (str s).size := hlt
          have t1 : (((str s)[j].toNat : Int) != 32) = false := by
            have h9 := str_at s j hkl
            rw [h32] at h9
            rw [← Option.some.inj h9]
            rfl
          clear h32
          go_wp2_with fail
          refine (HCu.out _).mono ?_
          rintro e w3 ⟨rfl, k3⟩
          have b3 := below_next hb k3
          go_wp2_with fail
          refine (HAr.out _).mono ?_
          rintro e w4 ⟨A4, n4, c4, rfl, hA4, k4⟩
          have b4 := below_next b3 k4
          have HLn := Lib.hid hA4.len
          have hn4 : n4 ≤ 20 := by have := HLn.out; omega
          go_wp2
          go_loopw [11] (fun iv_ wr => ∃ i : Nat, i ≤ n4 ∧ iv_ = .int .i64 (i : Int) ∧ Hid ((l.take i).findSome? (artHit s j T) = none) ∧ Below w4.heap.size w4 wr) (fun iv_ _ => n4 - (intOf iv_).toNat)
          case atStart => exact ⟨0, by omega, rfl, Lib.hid rfl, Below.refl _ _⟩
          case round =>
            obtain ⟨i, hi, rfl, HI, hbi⟩ := hrel
            have b5 := below_next b4 hbi
            by_cases hin : i < n4
            · have u1 : decide ((i : Int) < (n4 : Int)) = true := decide_eq_true (by omega)
              have u1n : decide (i < n4) = true := decide_eq_true hin
              have uz : (i : Int) < (n4 : Int) := by omega
              obtain ⟨ba, oa, rfl, hBa, hca⟩ := hA4.some_ (by omega)
              obtain ⟨a, ha⟩ : ∃ a, l[i]? = some a := ⟨_, List.getElem?_eq_getElem (by have := HLn.out; omega)⟩
              have da : wr.cell? ⟨ba, oa + i, none⟩ = some (.string (str a)) := (hbi.cell (p := ⟨ba, oa + i, none⟩) hBa).trans (hca i a ha)
              obtain ⟨hane, hal⟩ := HNe.out a (List.mem_of_getElem? ha)
              obtain ⟨S1, S2⟩ := HStep.out i a ha HI.out
              have hhit := HHit.out a
              obtain ⟨m, hm⟩ : ∃ m, a.length = m + 1 := ⟨a.length - 1, by have := List.length_pos_iff.2 hane; omega⟩
              have hasz : (str a).size = a.length := rfl
              have ea : (a.length : Int) - 1 = (m : Int) := by omega
              have em : IntKind.i64.wrap (m : Int) = (m : Int) := wraps_i64 _ (by omega) (by omega)
              have hkm : m < (str a).size := by omega
              have mz : (m : Int) < (a.length : Int) := by omega
              have hlast : a.getLast? = some ((str a)[m]) := by
                rw [List.getLast?_eq_getElem?, hm]
                exact str_at a m hkm
              have q39 : (((str a)[m].toNat : Int) == 39) = apoB a := by
                unfold apoB
                rw [hlast]
                by_cases e : (str a)[m] = 39
                · rw [e]; rfl
                · have h1 : (((str a)[m].toNat : Int) == 39) = false := eqb_false (fun e2 => e (UInt8.toNat_inj.1 (by simpa using Int.ofNat.inj e2)))
                  rw [h1]
                  simpa using e
              have hQt := HQ.out Ft a
              have hQw := HQ.out Fw a
              clear hca ha hane hm hlast
              cases hap : apoB a with
              | true =>
                rw [hap] at q39 hhit
                simp only [if_true] at hhit
                go_wp2_with fail
                refine (HFt.out _).mono ?_
                rintro e w6 ⟨rfl, k6⟩
                have b6 := below_next b5 k6
                have bi6 := below_next hbi k6
                by_cases g1 : Ft = a
                · have q1 : ((str Ft).toList == (str a).toList) = true := by rw [hQt]; exact decide_eq_true g1
                  by_cases g2 : T < s.length
                  · have q2 : decide ((T : Int) < (s.length : Int)) = true := decide_eq_true (by omega)
                    have q2n : decide (T < s.length) = true := decide_eq_true g2
                    have q2z : (T : Int) < (s.length : Int) := by omega
                    have hkT : T < (str s).size := g2
                    have hTT := str_at s T hkT
                    by_cases g3 : (str s)[T] = 32
                    · have q3 : (((str s)[T].toNat : Int) != 32) = false := by rw [g3]; rfl
                      have HN2 := Lib.hid (S2 (by rw [hhit, if_neg]; rintro ⟨-, -, h9⟩; exact h9 (by rw [hTT, g3])))
                      clear S1 S2 hhit g1 g3 hQt hQw hTT
                      go_wp2
                      go_roundw
                      case rel => exact ⟨i + 1, by omega, by go_num, HN2, bi6⟩
                      case measure => simp [intOf]; omega
                    · have q3 : (((str s)[T].toNat : Int) != 32) = true := by
                        have h1 : (((str s)[T].toNat : Int) == 32) = false := eqb_false (fun e2 => g3 (UInt8.toNat_inj.1 (by simpa using Int.ofNat.inj e2)))
                        rw [bne, h1]; rfl
                      have HE := Lib.hid (S1 (T, T) (by rw [hhit, if_pos ⟨g1, g2, by rw [hTT]; simpa using g3⟩]))
                      clear S1 S2 hhit g1 g3 hQt hQw hTT
                      go_wp2
                      go_ret2
                      rw [HE.out]
                      exact ⟨rfl, b6⟩
                  · have q2 : decide ((T : Int) < (s.length : Int)) = false := decide_eq_false (by omega)
                    have q2n : decide (T < s.length) = false := decide_eq_false g2
                    have HN2 := Lib.hid (S2 (by rw [hhit, if_neg]; rintro ⟨-, h9, -⟩; exact g2 h9))
                    clear S1 S2 hhit g1 hQt hQw
                    go_wp2
                    go_roundw
                    case rel => exact ⟨i + 1, by omega, by go_num, HN2, bi6⟩
                    case measure => simp [intOf]; omega
                · have q1 : ((str Ft).toList == (str a).toList) = false := by rw [hQt]; exact decide_eq_false g1
                  have HN2 := Lib.hid (S2 (by rw [hhit, if_neg]; rintro ⟨h9, -⟩; exact g1 h9))
                  clear S1 S2 hhit g1 hQt hQw
                  go_wp2
                  go_roundw
                  case rel => exact ⟨i + 1, by omega, by go_num, HN2, bi6⟩
                  case measure => simp [intOf]; omega
              | false =>
                rw [hap] at q39 hhit
                simp only [Bool.false_eq_true, if_false] at hhit
                go_wp2_with fail
                refine (HSp.out _).mono ?_
                rintro e w6 ⟨rfl, k6⟩
                go_wp2_with fail
                refine (HFw.out _).mono ?_
                rintro e w7 ⟨rfl, k7⟩
                have b7 := below_next (below_next b5 k6) k7
                have bi7 := below_next (below_next hbi k6) k7
                by_cases g1 : Fw = a
                · have q1 : ((str Fw).toList == (str a).toList) = true := by rw [hQw]; exact decide_eq_true g1
                  by_cases g2 : Sp < s.length
                  · have q2 : decide ((Sp : Int) < (s.length : Int)) = true := decide_eq_true (by omega)
                    have q2n : decide (Sp < s.length) = true := decide_eq_true g2
                    have HE := Lib.hid (S1 (j, Sp) (by rw [hhit, if_pos ⟨g1, g2⟩]))
                    clear S1 S2 hhit g1 hQt hQw
                    go_wp2
                    go_ret2
                    rw [HE.out]
                    exact ⟨rfl, b7⟩
                  · have q2 : decide ((Sp : Int) < (s.length : Int)) = false := decide_eq_false (by omega)
                    have q2n : decide (Sp < s.length) = false := decide_eq_false g2
                    have HN2 := Lib.hid (S2 (by rw [hhit, if_neg]; rintro ⟨-, h9⟩; exact g2 h9))
                    clear S1 S2 hhit g1 hQt hQw
                    go_wp2
                    go_roundw
                    case rel => exact ⟨i + 1, by omega, by go_num, HN2, bi7⟩
                    case measure => simp [intOf]; omega
                · have q1 : ((str Fw).toList == (str a).toList) = false := by rw [hQw]; exact decide_eq_false g1
                  have HN2 := Lib.hid (S2 (by rw [hhit, if_neg]; rintro ⟨h9, -⟩; exact g1 h9))
                  clear S1 S2 hhit g1 hQt hQw
                  go_wp2
                  go_roundw
                  case rel => exact ⟨i + 1, by omega, by go_num, HN2, bi7⟩
                  case measure => simp [intOf]; omega
            · obtain rfl : i = n4 := by omega
              have u1 : decide ((i : Int) < (i : Int)) = false := by simp
              have u1n : decide (i < i) = false := by simp
              have HE := Lib.hid (HEnd.out (by have h9 := HI.out; rwa [List.take_of_length_le (by rw [HLn.out]; exact Nat.le_refl _)] at h9))
              go_wp2
              go_ret2
              rw [HE.out]
              exact ⟨rfl, b5⟩
        · have i1 : decide ((j : Int) < (s.length : Int)) = false := decide_eq_false (by omega)
          have i1n : decide (j < s.length) = false := decide_eq_false (by omega)
          clear hlt
          go_wp2_with fail
          refine (HCu.out _).mono ?_
          rintro e w3 ⟨rfl, k3⟩
          have b3 := below_next hb k3
          go_wp2_with fail
          refine (HAr.out _).mono ?_
          rintro e w4 ⟨A4, n4, c4, rfl, hA4, k4⟩
          have b4 := below_next b3 k4
          have HLn := Lib.hid hA4.len
          have hn4 : n4 ≤ 20 := by have := HLn.out; omega
          go_wp2
          go_loopw [11] (fun iv_ wr => ∃ i : Nat, i ≤ n4 ∧ iv_ = .int .i64 (i : Int) ∧ Hid ((l.take i).findSome? (artHit s j T) = none) ∧ Below w4.heap.size w4 wr) (fun iv_ _ => n4 - (intOf iv_).toNat)
          case atStart => exact ⟨0, by omega, rfl, Lib.hid rfl, Below.refl _ _⟩
          case round =>
            obtain ⟨i, hi, rfl, HI, hbi⟩ := hrel
            have b5 := below_next b4 hbi
            by_cases hin : i < n4
            · have u1 : decide ((i : Int) < (n4 : Int)) = true := decide_eq_true (by omega)
              have u1n : decide (i < n4) = true := decide_eq_true hin
              have uz : (i : Int) < (n4 : Int) := by omega
              obtain ⟨ba, oa, rfl, hBa, hca⟩ := hA4.some_ (by omega)
              obtain ⟨a, ha⟩ : ∃ a, l[i]? = some a := ⟨_, List.getElem?_eq_getElem (by have := HLn.out; omega)⟩
              have da : wr.cell? ⟨ba, oa + i, none⟩ = some (.string (str a)) := (hbi.cell (p := ⟨ba, oa + i, none⟩) hBa).trans (hca i a ha)
              obtain ⟨hane, hal⟩ := HNe.out a (List.mem_of_getElem? ha)
              obtain ⟨S1, S2⟩ := HStep.out i a ha HI.out
              have hhit := HHit.out a
              obtain ⟨m, hm⟩ : ∃ m, a.length = m + 1 := ⟨a.length - 1, by have := List.length_pos_iff.2 hane; omega⟩
              have hasz : (str a).size = a.length := rfl
              have ea : (a.length : Int) - 1 = (m : Int) := by omega
              have em : IntKind.i64.wrap (m : Int) = (m : Int) := wraps_i64 _ (by omega) (by omega)
              have hkm : m < (str a).size := by omega
              have mz : (m : Int) < (a.length : Int) := by omega
              have hlast : a.getLast? = some ((str a)[m]) := by
                rw [List.getLast?_eq_getElem?, hm]
                exact str_at a m hkm
              have q39 : (((str a)[m].toNat : Int) == 39) = apoB a := by
                unfold apoB
                rw [hlast]
                by_cases e : (str a)[m] = 39
                · rw [e]; rfl
                · have h1 : (((str a)[m].toNat : Int) == 39) = false := eqb_false (fun e2 => e (UInt8.toNat_inj.1 (by simpa using Int.ofNat.inj e2)))
                  rw [h1]
                  simpa using e
              have hQt := HQ.out Ft a
              have hQw := HQ.out Fw a
              clear hca ha hane hm hlast
              cases hap : apoB a with
              | true =>
                rw [hap] at q39 hhit
                simp only [if_true] at hhit
                go_wp2_with fail
                refine (HFt.out _).mono ?_
                rintro e w6 ⟨rfl, k6⟩
                have b6 := below_next b5 k6
                have bi6 := below_next hbi k6
                by_cases g1 : Ft = a
                · have q1 : ((str Ft).toList == (str a).toList) = true := by rw [hQt]; exact decide_eq_true g1
                  by_cases g2 : T < s.length
                  · have q2 : decide ((T : Int) < (s.length : Int)) = true := decide_eq_true (by omega)
                    have q2n : decide (T < s.length) = true := decide_eq_true g2
                    have q2z : (T : Int) < (s.length : Int) := by omega
                    have hkT : T < (str s).size := g2
                    have hTT := str_at s T hkT
                    by_cases g3 : (str s)[T] = 32
                    · have q3 : (((str s)[T].toNat : Int) != 32) = false := by rw [g3]; rfl
                      have HN2 := Lib.hid (S2 (by rw [hhit, if_neg]; rintro ⟨-, -, h9⟩; exact h9 (by rw [hTT, g3])))
                      clear S1 S2 hhit g1 g3 hQt hQw hTT
                      go_wp2
                      go_roundw
                      case rel => exact ⟨i + 1, by omega, by go_num, HN2, bi6⟩
                      case measure => simp [intOf]; omega
                    · have q3 : (((str s)[T].toNat : Int) != 32) = true := by
                        have h1 : (((str s)[T].toNat : Int) == 32) = false := eqb_false (fun e2 => g3 (UInt8.toNat_inj.1 (by simpa using Int.ofNat.inj e2)))
                        rw [bne, h1]; rfl
                      have HE := Lib.hid (S1 (T, T) (by rw [hhit, if_pos ⟨g1, g2, by rw [hTT]; simpa using g3⟩]))
                      clear S1 S2 hhit g1 g3 hQt hQw hTT
                      go_wp2
                      go_ret2
                      rw [HE.out]
                      exact ⟨rfl, b6⟩
                  · have q2 : decide ((T : Int) < (s.length : Int)) = false := decide_eq_false (by omega)
                    have q2n : decide (T < s.length) = false := decide_eq_false g2
                    have HN2 := Lib.hid (S2 (by rw [hhit, if_neg]; rintro ⟨-, h9, -⟩; exact g2 h9))
                    clear S1 S2 hhit g1 hQt hQw
                    go_wp2
                    go_roundw
                    case rel => exact ⟨i + 1, by omega, by go_num, HN2, bi6⟩
                    case measure => simp [intOf]; omega
                · have q1 : ((str Ft).toList == (str a).toList) = false := by rw [hQt]; exact decide_eq_false g1
                  have HN2 := Lib.hid (S2 (by rw [hhit, if_neg]; rintro ⟨h9, -⟩; exact g1 h9))
                  clear S1 S2 hhit g1 hQt hQw
                  go_wp2
                  go_roundw
                  case rel => exact ⟨i + 1, by omega, by go_num, HN2, bi6⟩
                  case measure => simp [intOf]; omega
              | false =>
                rw [hap] at q39 hhit
                simp only [Bool.false_eq_true, if_false] at hhit
                go_wp2_with fail
                refine (HSp.out _).mono ?_
                rintro e w6 ⟨rfl, k6⟩
                go_wp2_with fail
                refine (HFw.out _).mono ?_
                rintro e w7 ⟨rfl, k7⟩
                have b7 := below_next (below_next b5 k6) k7
                have bi7 := below_next (below_next hbi k6) k7
                by_cases g1 : Fw = a
                · have q1 : ((str Fw).toList == (str a).toList) = true := by rw [hQw]; exact decide_eq_true g1
                  by_cases g2 : Sp < s.length
                  · have q2 : decide ((Sp : Int) < (s.length : Int)) = true := decide_eq_true (by omega)
                    have q2n : decide (Sp < s.length) = true := decide_eq_true g2
                    have HE := Lib.hid (S1 (j, Sp) (by rw [hhit, if_pos ⟨g1, g2⟩]))
                    clear S1 S2 hhit g1 hQt hQw
                    go_wp2
                    go_ret2
                    rw [HE.out]
                    exact ⟨rfl, b7⟩
                  · have q2 : decide ((Sp : Int) < (s.length : Int)) = false := decide_eq_false (by omega)
                    have q2n : decide (Sp < s.length) = false := decide_eq_false g2
                    have HN2 := Lib.hid (S2 (by rw [hhit, if_neg]; rintro ⟨-, h9⟩; exact g2 h9))
                    clear S1 S2 hhit g1 hQt hQw
                    go_wp2
                    go_roundw
                    case rel => exact ⟨i + 1, by omega, by go_num, HN2, bi7⟩
                    case measure => simp [intOf]; omega
                · have q1 : ((str Fw).toList == (str a).toList) = false := by rw [hQw]; exact decide_eq_false g1
                  have HN2 := Lib.hid (S2 (by rw [hhit, if_neg]; rintro ⟨h9, -⟩; exact g1 h9))
                  clear S1 S2 hhit g1 hQt hQw
                  go_wp2
                  go_roundw
                  case rel => exact ⟨i + 1, by omega, by go_num, HN2, bi7⟩
                  case measure => simp [intOf]; omega
            · obtain rfl : i = n4 := by omega
              have u1 : decide ((i : Int) < (i : Int)) = false := by simp
              have u1n : decide (i < i) = false := by simp
              have HE := Lib.hid (HEnd.out (by have h9 := HI.out; rwa [List.take_of_length_le (by rw [HLn.out]; exact Nat.le_refl _)] at h9))
              go_wp2
              go_ret2
              rw [HE.out]
              exact ⟨rfl, b5⟩

end Go.Proofs.YtmgofhbdaopapaaGreatDoor

namespace Go.Proofs.YtmgofhbdaopapaaGreatDoor
open Go.RowKit

theorem begin_le (lang s : List UInt8) : (beginN lang s).1 ≤ s.length ∧ (beginN lang s).2 ≤ s.length := by
  by_cases h : (beginN lang s).2 = 0
  · refine ⟨?_, by omega⟩
    unfold beginN at h ⊢
    split
    · rename_i hd
      rw [if_pos hd] at h
      unfold hitsN at h ⊢
      cases hf : (artsOf lang).findSome? (artHit s (wordN s) (cutR s 2).length) with
      | none => exact Nat.zero_le _
      | some v =>
        rw [hf] at h
        obtain ⟨a, _, h1⟩ := List.exists_of_findSome?_eq_some hf
        unfold artHit at h1
        show v.1 ≤ s.length
        split at h1
        · split at h1
          · rename_i hc
            injection h1 with h1
            rw [← h1]
            exact Nat.le_of_lt hc.2.1
          · cases h1
        · split at h1
          · injection h1 with h1
            rw [← h1]
            obtain ⟨-, -, -, -, hwl⟩ := word_split s
            exact hwl
          · cases h1
    · exact Nat.zero_le _
  · obtain ⟨p, m, a, h1, h2, h3, h4, h5, h6, h7, h8, hc⟩ := skip_split (lang := lang) (s := s) h
    have hl : skipN lang s ≤ s.length := by rw [← h4, h2, List.length_append]; omega
    refine ⟨?_, hl⟩
    rcases hc with ⟨_, _, e⟩ | ⟨q, k, e1, _, _, _, e2⟩
    · rw [e]; exact hl
    · rw [e2]
      refine Nat.le_trans ?_ hl
      rw [← h4, e1, encL_app, List.length_append]
      omega

set_option maxRecDepth 20000 in
set_option maxHeartbeats 3200000 in
theorem refSkip9_any (lang s : List UInt8) (w : World) (hs : s.length ≤ 60000) :
    Calls Tryz.prog 10 #[.string (str lang), .string (str s)] w fun e w' => e = .returned (.int .i64 (skipN lang s : Int)) ∧ Below w.heap.size w w' := by
  have HB := Lib.hid (refBegin_any lang s w hs)
  unfold skipN
  obtain ⟨N, hN⟩ : ∃ N, beginN lang s = N := ⟨_, rfl⟩
  rw [hN] at HB ⊢
  clear hN
  go_enter Tryz.func10, Tryz.ntmps10
  go_wp2_with fail
  refine HB.out.mono ?_
  rintro e w1 ⟨rfl, k1⟩
  go_wp2
  go_ret
  exact ⟨rfl, k1⟩

set_option maxRecDepth 20000 in
set_option maxHeartbeats 3200000 in
theorem refStrip9_any (lang s : List UInt8) (w : World) (hs : s.length ≤ 60000) :
    Calls Tryz.prog 12 #[.string (str lang), .string (str s)] w fun e w' => e = .returned (.string (str (stripN lang s))) ∧ Below w.heap.size w w' := by
  have HB := Lib.hid (refSkip9_any lang s w hs)
  have hle := (begin_le lang s).2
  have hsl := fun W => str_suf (P := Tryz.prog) 9 Tryz.underlying9 s (skipN lang s) hle W
  unfold stripN
  obtain ⟨N, hN⟩ : ∃ N, skipN lang s = N := ⟨_, rfl⟩
  rw [hN] at HB hsl ⊢
  clear hN hle
  go_enter Tryz.func12, Tryz.ntmps12
  go_wp2_with fail
  refine HB.out.mono ?_
  rintro e w1 ⟨rfl, k1⟩
  go_wp2
  go_ret
  exact ⟨rfl, k1⟩

set_option maxRecDepth 20000 in
set_option maxHeartbeats 3200000 in
theorem refInvert9_any (lang s : List UInt8) (w : World) (hs : s.length ≤ 60000) :
    Calls Tryz.prog 14 #[.string (str lang), .string (str s)] w fun e w' => e = .returned (.string (str (invN lang s))) ∧ Below w.heap.size w w' := by
  have HB := Lib.hid (refBegin_any lang s w hs)
  obtain ⟨hl1, hl2⟩ := begin_le lang s
  have hsl1 := fun W => str_pre (P := Tryz.prog) 9 Tryz.underlying9 s (beginN lang s).1 hl1 W
  have hsl2 := fun W => str_suf (P := Tryz.prog) 9 Tryz.underlying9 s (beginN lang s).2 hl2 W
  unfold invN
  obtain ⟨N, hN⟩ : ∃ N, beginN lang s = N := ⟨_, rfl⟩
  rw [hN] at HB hsl1 hsl2 hl1 hl2 ⊢
  obtain ⟨a, b⟩ := N
  simp only at HB hsl1 hsl2 hl1 hl2 ⊢
  have hA : (s.drop b).length ≤ 60000 := by rw [List.length_drop]; omega
  have hB : (s.take a).length ≤ 60000 := by rw [List.length_take]; omega
  obtain ⟨X, hX⟩ : ∃ X, s.drop b = X := ⟨_, rfl⟩
  obtain ⟨Y, hY⟩ : ∃ Y, s.take a = Y := ⟨_, rfl⟩
  rw [hX] at hsl2 hA ⊢
  rw [hY] at hsl1 hB ⊢
  have HR : Hid (str X ++ (⟨#[44, 32]⟩ : ByteArray) ++ str Y = str (X ++ [44, 32] ++ Y)) := Lib.hid (by
    have h1 : (⟨#[44, 32]⟩ : ByteArray) = str [44, 32] := rfl
    rw [h1, str_append, str_append])
  have c1 : ¬ 9223372036854775807 < (str X).size + 2 := by
    have e1 : (str X).size = X.length := rfl
    omega
  have c2 : ¬ 9223372036854775807 < (str X).size + 2 + (str Y).size := by
    have e1 : (str X).size = X.length := rfl
    have e2 : (str Y).size = Y.length := rfl
    omega
  have c3 : ¬ 9223372036854775807 < (str X ++ (⟨#[44, 32]⟩ : ByteArray)).size + (str Y).size := by
    have e1 : (str X ++ (⟨#[44, 32]⟩ : ByteArray)).size = X.length + 2 := by
      have h1 : (⟨#[44, 32]⟩ : ByteArray) = str [44, 32] := rfl
      rw [h1, str_append, str_size, List.length_append]
      rfl
    have e2 : (str Y).size = Y.length := rfl
    omega
  clear hN hX hY
  by_cases h0 : b = 0
  · subst h0
    rw [if_pos rfl]
    go_enter Tryz.func14, Tryz.ntmps14
    go_wp2_with fail
    refine HB.out.mono ?_
    rintro e w1 ⟨rfl, k1⟩
    go_wp2
    go_ret
    exact ⟨rfl, k1⟩
  · rw [if_neg h0]
    have t0 : ((b : Int) == 0) = false := eqb_false (by omega)
    clear h0
    go_enter Tryz.func14, Tryz.ntmps14
    go_wp2_with fail
    refine HB.out.mono ?_
    rintro e w1 ⟨rfl, k1⟩
    go_wp2
    go_big_quiet (fail)
    go_wp2
    rw [HR.out]
    go_ret
    exact ⟨rfl, by first | exact below_drewN k1 _ | exact k1⟩

set_option maxRecDepth 20000 in
set_option maxHeartbeats 3200000 in
theorem refSort9_any (s : List UInt8) (k : Int) (w : World) (hs : s.length ≤ 60000) :
    Calls Tryz.prog 16 #[.string (str s), .int .i64 k] w fun e w' => e = .returned (.string (str (sortA s k))) ∧ Below w.heap.size w w' := by
  have HD := Lib.hid (fun W => refDecode_any s W (by omega))
  cases hd : decR s with
  | none =>
    rw [hd] at HD
    have hB : sortA s k = s := by unfold sortA; rw [hd]
    rw [hB]
    clear hd hB
    go_enter Tryz.func16, Tryz.ntmps16
    go_wp2_with fail
    refine (HD.out _).mono ?_
    rintro e w1 ⟨hde, k1⟩
    obtain rfl := show e = _ from hde
    go_wp2
    go_ret
    exact ⟨rfl, k1⟩
  | some l =>
    rw [hd] at HD
    have hS : sortA s k = if k < 1 ∨ 9 < k ∨ (l.length : Int) ≤ k then s else if s.length ≤ spN s (cutR s k).length then s else s.drop (spN s (cutR s k).length) := by unfold sortA; rw [hd]
    rw [hS]
    have hll := dec_len hd
    by_cases g1 : k < 1
    · rw [if_pos (.inl g1)]
      have t1 : decide (k < 1) = true := decide_eq_true g1
      clear hd hS
      go_enter Tryz.func16, Tryz.ntmps16
      go_wp2_with fail
      refine (HD.out _).mono ?_
      rintro e w1 ⟨hde, k1⟩
      obtain ⟨v1, rfl, -⟩ := show ∃ v, e = _ ∧ _ from hde
      clear hde
      go_wp2
      go_ret
      exact ⟨rfl, k1⟩
    have t1 : decide (k < 1) = false := decide_eq_false g1
    by_cases g2 : 9 < k
    · rw [if_pos (.inr (.inl g2))]
      have t2 : decide (9 < k) = true := decide_eq_true g2
      clear hd hS
      go_enter Tryz.func16, Tryz.ntmps16
      go_wp2_with fail
      refine (HD.out _).mono ?_
      rintro e w1 ⟨hde, k1⟩
      obtain ⟨v1, rfl, -⟩ := show ∃ v, e = _ ∧ _ from hde
      clear hde
      go_wp2
      go_ret
      exact ⟨rfl, k1⟩
    have t2 : decide (9 < k) = false := decide_eq_false g2
    by_cases g3 : (l.length : Int) ≤ k
    · rw [if_pos (.inr (.inr g3))]
      have t3 : decide ((l.length : Int) ≤ k) = true := decide_eq_true g3
      clear hd hS g3
      go_enter Tryz.func16, Tryz.ntmps16
      go_wp2_with fail
      refine (HD.out _).mono ?_
      rintro e w1 ⟨hde, k1⟩
      obtain ⟨A1, n1, c1, b1, rfl, hc⟩ := hde.form
      rcases hc with ⟨rfl, l2, e2, rfl, -, -⟩ | ⟨_, e2, -⟩
      · obtain rfl := Option.some.inj e2
        clear hde e2
        go_wp2
        go_ret
        exact ⟨rfl, k1⟩
      · cases e2
    · rw [if_neg (by omega)]
      have t3 : decide ((l.length : Int) ≤ k) = false := decide_eq_false g3
      have hcl : (cutR s k).length ≤ s.length := by
        rw [cutR_some hd (by omega)]
        obtain ⟨e1, _⟩ := enc_dec hd
        rw [← e1]
        conv => rhs; rw [← List.take_append_drop k.toNat l, encL_app, List.length_append]
        exact Nat.le_add_right _ _
      have HCu := Lib.hid (fun W => refCut_any s k W (by omega))
      have HSp := Lib.hid (fun W => refSpaces_any s (cutR s k).length W hcl (by omega))
      have hsp := (spN_le s _ hcl).2
      have hsl := fun W => str_suf (P := Tryz.prog) 9 Tryz.underlying9 s (spN s (cutR s k).length) hsp W
      obtain ⟨Cu, hCu⟩ : ∃ C, cutR s k = C := ⟨_, rfl⟩
      rw [hCu] at HCu HSp hsl hsp ⊢
      have hCz : (str Cu).size = Cu.length := rfl
      obtain ⟨Sp, hSp⟩ : ∃ S, spN s Cu.length = S := ⟨_, rfl⟩
      rw [hSp] at HSp hsl hsp ⊢
      clear hd hS g3 hCu hSp hcl
      by_cases g4 : s.length ≤ Sp
      · rw [if_pos g4]
        have t4 : decide ((s.length : Int) ≤ (Sp : Int)) = true := decide_eq_true (by omega)
        have t4n : decide (s.length ≤ Sp) = true := decide_eq_true g4
        go_enter Tryz.func16, Tryz.ntmps16
        go_wp2_with fail
        refine (HD.out _).mono ?_
        rintro e w1 ⟨hde, k1⟩
        obtain ⟨A1, n1, c1, b1, rfl, hc⟩ := hde.form
        rcases hc with ⟨rfl, l2, e2, rfl, -, -⟩ | ⟨_, e2, -⟩
        · obtain rfl := Option.some.inj e2
          clear hde e2
          go_wp2_with fail
          refine (HCu.out _).mono ?_
          rintro e w2 ⟨rfl, k2⟩
          go_wp2_with fail
          refine (HSp.out _).mono ?_
          rintro e w3 ⟨rfl, k3⟩
          go_wp2
          go_ret
          exact ⟨rfl, below_next (below_next k1 k2) k3⟩
        · cases e2
      · rw [if_neg g4]
        have t4 : decide ((s.length : Int) ≤ (Sp : Int)) = false := decide_eq_false (by omega)
        have t4n : decide (s.length ≤ Sp) = false := decide_eq_false g4
        go_enter Tryz.func16, Tryz.ntmps16
        go_wp2_with fail
        refine (HD.out _).mono ?_
        rintro e w1 ⟨hde, k1⟩
        obtain ⟨A1, n1, c1, b1, rfl, hc⟩ := hde.form
        rcases hc with ⟨rfl, l2, e2, rfl, -, -⟩ | ⟨_, e2, -⟩
        · obtain rfl := Option.some.inj e2
          clear hde e2
          go_wp2_with fail
          refine (HCu.out _).mono ?_
          rintro e w2 ⟨rfl, k2⟩
          go_wp2_with fail
          refine (HSp.out _).mono ?_
          rintro e w3 ⟨rfl, k3⟩
          go_wp2
          go_ret
          exact ⟨rfl, below_next (below_next k1 k2) k3⟩
        · cases e2

end Go.Proofs.YtmgofhbdaopapaaGreatDoor
