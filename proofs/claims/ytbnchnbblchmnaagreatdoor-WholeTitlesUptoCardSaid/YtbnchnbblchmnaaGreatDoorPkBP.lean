/-
  The body of WholeTitles.
  WholeTitles at arguments as the model holds them.
  An argument of two bytes.
-/
import Derived.Test.YtbnchnbblchmnaaGreatDoorPkBG
import Derived.Test.YtbnchnbblchmnaaGreatDoorPkBD
import Derived.Test.YtbnchnbblchmnaaGreatDoorPkBJ
import Derived.Test.YtbnchnbblchmnaaGreatDoorPkBO
import Derived.Test.YtbnchnbblchmnaaGreatDoorPkAW
import Derived.Deep.RegionHeld3
import Derived.Test.YtbnchnbblchmnaaGreatDoorProg
namespace Go.Proofs.YtbnchnbblchmnaaGreatDoor
open Go.RowKit

theorem arts_allT (k : Nat) (hk : k < 10) : ∃ lang all, langT[k]? = some lang ∧ artsOf lang = all ∧ (lang, all) ∈ langT.zip artT ∧ all ≠ [] := by
  have h1 : ((langT.zip artT).all fun p => artsOf p.1 == p.2 && !(p.2 == [])) = true := by decide +kernel
  have hl : k < (langT.zip artT).length := hk
  obtain ⟨p, hp⟩ : ∃ p, (langT.zip artT)[k]? = some p := ⟨_, List.getElem?_eq_getElem hl⟩
  have hm := List.mem_of_getElem? hp
  have h2 := List.all_eq_true.1 h1 p hm
  rw [Bool.and_eq_true] at h2
  refine ⟨p.1, p.2, ?_, by simpa using h2.1, hm, by simpa using h2.2⟩
  have h3 := (List.getElem?_zip_eq_some (l₁ := langT) (l₂ := artT)).1 hp
  exact h3.1
theorem lang3T {k : Nat} {x : List UInt8} (h : langT[k]? = some x) : x.length = 3 := by
  have h1 : (langT.all fun x => x.length == 3) = true := by decide +kernel
  have := List.all_eq_true.1 h1 x (List.mem_of_getElem? h)
  simpa using this
theorem same_primT {A A' : Option Addr} {n n' c c' : Nat} {P : List Nat} {B : Nat} {w : World} (h : Arr nv w B (.slice A n c) P) (h' : Arr nv w B (.slice A' n' c') P) (hn : n ≤ 1000000) (hn' : n' ≤ 1000000) :
    Calls Tryz.prog 10 #[.slice A n c, .slice A' n' c'] w fun e w' => e = .returned (.bool true) ∧ Below w.heap.size w w' := by
  refine (same_any A A' n n' c c' _ _ B w h.int h'.int (by omega) (by omega)).mono ?_
  rintro e w' ⟨rfl, k, rfl⟩
  exact ⟨by rw [decide_eq_true rfl], below_drewN (Below.refl _ _) _⟩
theorem elems_lenT {T : List LetL} : ∀ (f : Nat) (l : List Nat), (∀ c ∈ l, Asked c) → (elemsF f T l).length ≤ 3 * l.length
  | 0, l, _ => by simp [elemsF]
  | f + 1, [], _ => by simp [elemsF]
  | f + 1, c :: l, h => by
    rw [elemsF]
    cases hb : bestC T (c :: l) with
    | none =>
      simp only
      have h1 := (ok_col (h c (by simp)).has (h c (by simp)).whole).few
      have h2 := elems_lenT (T := T) f l fun x hx => h x (by simp [hx])
      rw [List.length_append, List.length_cons]
      omega
    | some b =>
      simp only
      obtain ⟨_, _, _, h0, _, hl⟩ := best_some hb
      have h2 := elems_lenT (T := T) f ((c :: l).drop b.2) fun x hx => h x (List.mem_of_mem_drop hx)
      rw [List.length_drop] at h2
      rw [List.length_cons]
      omega
theorem prim_smallT (t : List RuleL) (s : List UInt8) (hs : s.length ≤ 500) : (nPrim t s).length ≤ 1000000 := by
  unfold nPrim
  split
  · have h1 := List.length_filter_le (fun p => !Nat.beq p 0) ((elsT t s).map fun x => x.1)
    have h2 : (elsT t s).length ≤ 3 * (dcF (nL s)).length := elems_lenT _ _ fun c hc => ⟨(dc_facts s c hc).1, (dc_facts s c hc).2⟩
    have h3 := dcF_len (nL s)
    have h4 := nL_len s
    rw [List.length_map] at h1
    show (List.filter (fun p => !Nat.beq p 0) ((elsT t s).map fun x => x.1)).length ≤ _
    omega
  · simp

/-! Folding lengthens no decomposed character. -/
theorem chars_lowlen : (charL.all fun c => Nat.ble (encL (low1 c)).length (encL [c]).length) = true := by kernel_rfl
theorem low1_enc {c : Nat} (hc : hasN c = true) : (encL (low1 c)).length ≤ (encL [c]).length := Nat.le_of_ble_eq_true (List.all_eq_true.1 chars_lowlen c ((char_mem c).2 hc))
theorem foldL_enc : ∀ d : List Nat, (∀ c ∈ d, hasN c = true) → (encL (foldL d)).length ≤ (encL d).length
  | [], _ => by simp [foldL, encL]
  | c :: d, h => by
    have h1 := low1_enc (h c List.mem_cons_self)
    have h2 := foldL_enc d fun x hx => h x (List.mem_cons_of_mem _ hx)
    have e : foldL (c :: d) = low1 c ++ foldL d := List.flatMap_cons
    have e2 : encL (c :: d) = encL [c] ++ encL d := encL_app [c] d
    rw [e, encL_app, e2, List.length_append, List.length_append]
    omega
theorem nFold_len6 (s : List UInt8) : (nFold s).length ≤ 6 * s.length := by
  have h1 : (encL (foldL (dcF (nL s)))).length ≤ (encL (dcF (nL s))).length := foldL_enc _ fun c hc => (dc_facts s c hc).1
  have h2 : (encL (dcF (nL s))).length ≤ 6 * s.length := nD_len s
  have h3 : nFold s = encL (foldL (dcF (nL s))) := rfl
  rw [h3]
  omega

theorem awT1 : stripN [101, 110, 103] [84, 104, 101, 32, 69, 110, 100] = [69, 110, 100] := by kernel_rfl
theorem awT2 : castW (wordsP [97, 32, 98]) = [([97], 0), ([98], 1)] := by kernel_rfl
theorem awT3 : (nPrim [] [97]).length = 1 := by kernel_rfl

set_option maxRecDepth 20000 in
set_option maxHeartbeats 12800000 in
theorem wholeTitles_v (x y : Nat) (r : List UInt8) (w : World) (hT : Ready10 w) (hx : x < 256) (hy : y < 256) (h1 : r.length ≤ 100000000000) :
    Calls Tryz.prog 4 #[.agg #[.int .u8 (x : Int), .int .u8 (y : Int)], .string (str r)] w fun e w' => e = .returned (.bool true) ∧ Below w.heap.size w w' := by
  obtain ⟨V, hV⟩ : ∃ V, w.alloc (.cells #[.int .u8 (x : Int), .int .u8 (y : Int)] 33) = V := ⟨_, rfl⟩
  have hbV : Below w.heap.size w V := by rw [← hV]; exact (Below.refl _ _).alloc (Nat.le_refl _) _
  have hVs : w.heap.size < V.heap.size := by rw [← hV]; simp
  have hBox : Box V w.heap.size 33 #[.int .u8 (x : Int), .int .u8 (y : Int)] := by rw [← hV]; exact Box.made w _ _
  have hTV := hT.below hbV
  have hSV : Spans V := hTV.spans
  obtain ⟨E1, hE1⟩ : ∃ E, stripN [101, 110, 103] [84, 104, 101, 32, 69, 110, 100] = E := ⟨_, rfl⟩
  have qE2 : (str E1).toList = [69, 110, 100] := by rw [← hE1, awT1]; exact str_toList _
  have qE : ((str E1).toList == [69, 110, 100]) = true := by rw [qE2]; rfl
  have A1 : Hid (∀ W : World, Below V.heap.size V W → Calls Tryz.prog 12 #[.string ⟨#[101, 110, 103]⟩, .string ⟨#[84, 104, 101, 32, 69, 110, 100]⟩] W fun e w' => e = .returned (.string (str E1)) ∧ Below W.heap.size W w') := Lib.hid (fun W hW => hE1 ▸ prStrip9_any [101, 110, 103] [84, 104, 101, 32, 69, 110, 100] W (hSV.below hW) (by decide) (by decide))
  clear hE1
  have A2 : Hid (∀ W : World, Below V.heap.size V W → Calls Tryz.prog 13 #[.string ⟨#[97, 32, 98]⟩] W fun e w' => ∃ A n c, e = .returned (.slice A n c) ∧ SArr 2 wv w' w'.heap.size (.slice A n c) [([97], 0), ([98], 1)] ∧ Below W.heap.size W w') := Lib.hid (fun W hW => awT2 ▸ prWords_any [97, 32, 98] W (hTV.below hW) (by decide))
  have A3 : Hid (∀ W : World, Below V.heap.size V W → Calls Tryz.prog 14 #[.slice none 0 0, .string ⟨#[97]⟩] W fun e w' => ∃ A' n' c', e = .returned (.slice A' n' c') ∧ Arr nv w' w'.heap.size (.slice A' n' c') (nPrim [] [97]) ∧ Below W.heap.size W w') := Lib.hid (fun W hW => prPrimary_any none 0 0 [] [97] W (hSV.below hW) (Tab8.nil_ W) (by decide))
  have HL1 := Lib.hid awT3
  obtain ⟨E3, hE3⟩ : ∃ E, nPrim [] [97] = E := ⟨_, rfl⟩
  rw [hE3] at A3 HL1
  clear hE3
  have HCe : Hid (∀ W : World, Below V.heap.size V W → W.cell? ⟨w.heap.size, 0, none⟩ = some (.int .u8 (x : Int)) ∧ W.cell? ⟨w.heap.size, 1, none⟩ = some (.int .u8 (y : Int))) := Lib.hid (fun W hW =>
    ⟨(hW.cell (p := ⟨w.heap.size, 0, none⟩) hVs).trans (hBox.cell 0), (hW.cell (p := ⟨w.heap.size, 1, none⟩) hVs).trans (hBox.cell 1)⟩)
  have HD := Lib.hid (fun W => refDecode_any r W (by omega))
  have hsz : (str r).size = r.length := rfl
  clear hBox hT
  cases hd : decR r with
  | none =>
    rw [hd] at HD
    clear hd hSV hTV
    go_enter Tryz.func4, Tryz.ntmps4
    go_wp2_with fail
    clear hV
    refine (A1.out _ (Below.refl _ _)).mono ?_
    rintro e w1 ⟨rfl, k1⟩
    go_wp2_with fail
    refine (A2.out _ k1).mono ?_
    rintro e w2 ⟨B2, n2, c2, rfl, hB2, k2⟩
    obtain rfl : n2 = 2 := hB2.len.symm
    have b2 := below_next k1 k2
    clear hB2
    go_wp2_with fail
    refine (A3.out _ b2).mono ?_
    rintro e w3 ⟨B3, n3, c3, rfl, hB3, k3⟩
    obtain rfl : n3 = 1 := hB3.len.symm.trans HL1.out
    have b3 := below_next b2 k3
    clear hB3
    go_wp2_with fail
    refine (HD.out _).mono ?_
    rintro e w4 ⟨hde, k4⟩
    obtain rfl := show e = _ from hde
    have b4 := below_next b3 k4
    go_wp2
    go_ret
    exact ⟨rfl, hbV.trans (b4.mono hbV.size)⟩
  | some L0 =>
    rw [hd] at HD
    have hrd : (decR r).isSome = true := by rw [hd]; rfl
    clear hd
    by_cases g0 : r = []
    · subst g0
      have z0 : (str ([] : List UInt8)).toList = [] := str_toList []
      have z1 : ((str ([] : List UInt8)).toList == []) = true := by rw [z0]; rfl
      clear hSV hTV hrd
      go_enter Tryz.func4, Tryz.ntmps4
      go_wp2_with fail
      clear hV
      refine (A1.out _ (Below.refl _ _)).mono ?_
      rintro e w1 ⟨rfl, k1⟩
      go_wp2_with fail
      refine (A2.out _ k1).mono ?_
      rintro e w2 ⟨B2, n2, c2, rfl, hB2, k2⟩
      obtain rfl : n2 = 2 := hB2.len.symm
      have b2 := below_next k1 k2
      clear hB2
      go_wp2_with fail
      refine (A3.out _ b2).mono ?_
      rintro e w3 ⟨B3, n3, c3, rfl, hB3, k3⟩
      obtain rfl : n3 = 1 := hB3.len.symm.trans HL1.out
      have b3 := below_next b2 k3
      clear hB3
      go_wp2_with fail
      refine (HD.out _).mono ?_
      rintro e w4 ⟨hde, k4⟩
      obtain ⟨v1, rfl, -⟩ := show ∃ v, e = _ ∧ _ from hde
      clear hde
      have b4 := below_next b3 k4
      go_wp2
      go_ret
      exact ⟨rfl, hbV.trans (b4.mono hbV.size)⟩
    have hr0 := g0
    have z0 : ¬ (str r).toList = [] := by rw [str_toList]; exact g0
    have z1 := strs_ne g0
    have z2 := strs_some g0
    have hpos := List.length_pos_iff.2 g0
    have hk0 : 0 < (str r).size := hpos
    have h0z : (0 : Int) < (r.length : Int) := by omega
    have hat := str_at r 0 hk0
    by_cases g1 : (str r)[0] = 32
    · have t1 : (((str r)[0].toNat : Int) == 32) = true := by rw [g1]; rfl
      clear hSV hTV hrd hr0 g0 g1 hat
      go_enter Tryz.func4, Tryz.ntmps4
      go_wp2_with fail
      clear hV
      refine (A1.out _ (Below.refl _ _)).mono ?_
      rintro e w1 ⟨rfl, k1⟩
      go_wp2_with fail
      refine (A2.out _ k1).mono ?_
      rintro e w2 ⟨B2, n2, c2, rfl, hB2, k2⟩
      obtain rfl : n2 = 2 := hB2.len.symm
      have b2 := below_next k1 k2
      clear hB2
      go_wp2_with fail
      refine (A3.out _ b2).mono ?_
      rintro e w3 ⟨B3, n3, c3, rfl, hB3, k3⟩
      obtain rfl : n3 = 1 := hB3.len.symm.trans HL1.out
      have b3 := below_next b2 k3
      clear hB3
      go_wp2_with fail
      refine (HD.out _).mono ?_
      rintro e w4 ⟨hde, k4⟩
      obtain ⟨v1, rfl, -⟩ := show ∃ v, e = _ ∧ _ from hde
      clear hde
      have b4 := below_next b3 k4
      go_wp2
      go_ret
      exact ⟨rfl, hbV.trans (b4.mono hbV.size)⟩
    have t1 : (((str r)[0].toNat : Int) == 32) = false := eqb_false (fun e => g1 (UInt8.toNat_inj.1 (by simpa using Int.ofNat.inj e)))
    have hr32 : r.head? ≠ some 32 := by
      rw [List.head?_eq_getElem?, hat]
      simpa using g1
    by_cases g2 : 60 < r.length
    · have t2 : decide ((60 : Int) < (r.length : Int)) = true := decide_eq_true (by omega)
      have t2n : decide (60 < r.length) = true := decide_eq_true g2
      clear hSV hTV hrd hr0 g0 g1 hat hr32
      go_enter Tryz.func4, Tryz.ntmps4
      go_wp2_with fail
      clear hV
      refine (A1.out _ (Below.refl _ _)).mono ?_
      rintro e w1 ⟨rfl, k1⟩
      go_wp2_with fail
      refine (A2.out _ k1).mono ?_
      rintro e w2 ⟨B2, n2, c2, rfl, hB2, k2⟩
      obtain rfl : n2 = 2 := hB2.len.symm
      have b2 := below_next k1 k2
      clear hB2
      go_wp2_with fail
      refine (A3.out _ b2).mono ?_
      rintro e w3 ⟨B3, n3, c3, rfl, hB3, k3⟩
      obtain rfl : n3 = 1 := hB3.len.symm.trans HL1.out
      have b3 := below_next b2 k3
      clear hB3
      go_wp2_with fail
      refine (HD.out _).mono ?_
      rintro e w4 ⟨hde, k4⟩
      obtain ⟨v1, rfl, -⟩ := show ∃ v, e = _ ∧ _ from hde
      clear hde
      have b4 := below_next b3 k4
      go_wp2
      go_ret
      exact ⟨rfl, hbV.trans (b4.mono hbV.size)⟩
    have t2 : decide ((60 : Int) < (r.length : Int)) = false := decide_eq_false (by omega)
    have t2n : decide (60 < r.length) = false := decide_eq_false g2
    obtain ⟨kl, hkl⟩ : ∃ k, x % 10 = k := ⟨_, rfl⟩
    have hk10 : kl < 10 := by omega
    have hmod0 : (x : Int) % 10 = (kl : Int) := by omega
    have kz : (kl : Int) < 10 := by omega
    have hwx : IntKind.i64.wrap (x : Int) = (x : Int) := wraps_i64 _ (by omega) (by omega)
    have hmt : (x : Int).tmod 10 = (kl : Int) := by rw [Int.tmod_eq_emod_of_nonneg (by omega)]; exact hmod0
    have hmt2 : (IntKind.i64.wrap (x : Int)).tmod 10 = (kl : Int) := by rw [hwx]; exact hmt
    have kz0 : (0 : Int) ≤ (kl : Int) := by omega
    obtain ⟨lang, all, hlang, hall, hmem, hne⟩ := arts_allT kl hk10
    have hl3 := lang3T hlang
    have HLg := Lib.hid hlang
    have RL := Lib.hid (fun W => refLanguages_any W)
    have RA := Lib.hid (fun W => refArticles_any lang W)
    rw [hall] at RA
    have hfew := arts_few lang
    rw [hall] at hfew
    obtain ⟨N, hN⟩ : ∃ N, all.length = N := ⟨_, rfl⟩
    have hN0 : 0 < N := by have := List.length_pos_iff.2 hne; omega
    obtain ⟨j, hj⟩ : ∃ j, y % N = j := ⟨_, rfl⟩
    have hjN : j < N := by rw [← hj]; exact Nat.mod_lt _ hN0
    have hmod1 : (y : Int) % (N : Int) = (j : Int) := by rw [← hj]; simp
    have hwy : IntKind.i64.wrap (y : Int) = (y : Int) := wraps_i64 _ (by omega) (by omega)
    have hdz : ¬ ((N : Int) = 0) := by omega
    have jz : (j : Int) < (N : Int) := by omega
    have jz0 : (0 : Int) ≤ (j : Int) := by omega
    obtain ⟨a, ha⟩ : ∃ a, all[j]? = some a := ⟨_, List.getElem?_eq_getElem (by omega)⟩
    have HaJ := Lib.hid ha
    have ham := List.mem_of_getElem? ha
    obtain ⟨hne0, hal0⟩ := arts_ne (lang := lang) (a := a) (by rw [hall]; exact ham)
    have hapos := List.length_pos_iff.2 hne0
    have hka0 : 0 < (str a).size := hapos
    have h0a : (0 : Int) < (a.length : Int) := by omega
    have hasz : (str a).size = a.length := rfl
    have hv2 : ∀ {W : World}, Below V.heap.size V W → w.heap.size < W.heap.size := fun hW => by have := hW.size; omega
    obtain ⟨m, hm⟩ : ∃ m, a.length = m + 1 := ⟨a.length - 1, by omega⟩
    have ea : (a.length : Int) - 1 = (m : Int) := by omega
    have em : IntKind.i64.wrap (m : Int) = (m : Int) := wraps_i64 _ (by omega) (by omega)
    have hkm : m < (str a).size := by omega
    have mz : (m : Int) < (a.length : Int) := by omega
    have hlast : a.getLast? = some ((str a)[m]) := by
      rw [List.getLast?_eq_getElem?, hm]
      exact str_at a m hkm
    have q39 : (((str a)[m].toNat : Int) == 39) = apoB a := by
      unfold apoB
      rw [hlast]
      by_cases e : (str a)[m] = 39
      · rw [e]; rfl
      · have h1 : (((str a)[m].toNat : Int) == 39) = false := eqb_false (fun e2 => e (UInt8.toNat_inj.1 (by simpa using Int.ofNat.inj e2)))
        rw [h1]
        simpa using e
    have s2 : (str a ++ (⟨#[32]⟩ : ByteArray)).size = a.length + 1 := by
      rw [show (⟨#[32]⟩ : ByteArray) = str [32] from rfl, str_append, str_size, List.length_append]
      rfl
    have c1 : ¬ 9223372036854775807 < (str a).size + 1 := by omega
    have c2 : ¬ 9223372036854775807 < (str a ++ (⟨#[32]⟩ : ByteArray)).size + (str r).size := by omega
    have c3 : ¬ 9223372036854775807 < (str a).size + (str r).size := by omega
    have c4 : ¬ 9223372036854775807 < (str a).size + 1 + (str r).size := by omega
    have hfl := nFold_len6 r
    obtain ⟨wt1, wt2⟩ := whole_titles hrd
    have hrest := title_rest hmem ham hrd hr0 hr32
    have P3 := Lib.hid (fun W (hW : Below V.heap.size V W) => prFold_s r W (hSV.below hW) (by omega))
    have P4 := Lib.hid (fun W (hW : Below V.heap.size V W) => prWords_any r W (hTV.below hW) (by omega))
    have P5 := fun W (hW : Below V.heap.size V W) => prWords_any (nFold r) W (hTV.below hW) (by omega)
    have P6 := Lib.hid (fun W (hW : Below V.heap.size V W) => prPrimary_any none 0 0 [] r W (hSV.below hW) (Tab8.nil_ W) (by omega))
    have P7 := fun W (hW : Below V.heap.size V W) => prPrimary_any none 0 0 [] (nFold r) W (hSV.below hW) (Tab8.nil_ W) (by omega)
    rw [wt1] at P5
    rw [wt2] at P7
    have P5 := Lib.hid P5
    have P7 := Lib.hid P7
    have HLn : Hid ((castW (wordsP r)).length ≤ 10000) := Lib.hid (by rw [wordsT_len]; have := texts_len r; omega)
    have HPn : Hid ((nPrim [] r).length ≤ 1000000) := Lib.hid (prim_smallT [] r (by omega))
    obtain ⟨L, hL⟩ : ∃ L, castW (wordsP r) = L := ⟨_, rfl⟩
    obtain ⟨Pm, hPm⟩ : ∃ L, nPrim [] r = L := ⟨_, rfl⟩
    obtain ⟨Fo, hFo⟩ : ∃ L, nFold r = L := ⟨_, rfl⟩
    rw [hL] at P4 P5 HLn
    rw [hPm] at P6 P7 HPn
    rw [hFo] at P3 P5 P7
    clear hkl hne hj ha hlang g0 g1 hat h1 wt1 wt2 hL hPm hFo hfl
    rcases (show apoB a = true ∨ apoB a = false by cases apoB a <;> simp) with hap | hap
    · rw [hap] at q39
      rw [if_pos hap] at hrest
      have eT : str a ++ str r = str (a ++ r) := str_append _ _
      have P2 := Lib.hid (fun W (hW : Below V.heap.size V W) => prStrip9_any lang (a ++ r) W (hSV.below hW) (by omega) (by rw [List.length_append]; omega))
      rw [hrest, ← eT] at P2
      clear hrest eT hap hm hlast s2 hrd hr0 hr32 hmem ham hal0 hne0 hSV hTV hall
      go_enter Tryz.func4, Tryz.ntmps4
      go_wp2_with fail
      clear hV
      refine (A1.out _ (Below.refl _ _)).mono ?_
      rintro e w1 ⟨rfl, k1⟩
      go_wp2_with fail
      refine (A2.out _ k1).mono ?_
      rintro e w2 ⟨B2, n2, c2, rfl, hB2, k2⟩
      obtain rfl : n2 = 2 := hB2.len.symm
      have b2 := below_next k1 k2
      clear hB2
      go_wp2_with fail
      refine (A3.out _ b2).mono ?_
      rintro e w3 ⟨B3, n3, c3, rfl, hB3, k3⟩
      obtain rfl : n3 = 1 := hB3.len.symm.trans HL1.out
      have b3 := below_next b2 k3
      clear hB3
      go_wp2_with fail
      refine (HD.out _).mono ?_
      rintro e w4 ⟨hde, k4⟩
      obtain ⟨v1, rfl, -⟩ := show ∃ v, e = _ ∧ _ from hde
      clear hde
      have b4 := below_next b3 k4
      have f0 := (HCe.out _ b4).1
      have hv2 := hv2 b4
      go_wp2
      go_region_with (first | (go_at_call 16; (with_reducible refine (RL.out _).mono ?_); rintro e w5 ⟨A5, rfl, hA5, k5⟩; obtain ⟨b5, o5, rfl, hB5, hc5⟩ := hA5.some_ (by omega); have d5 : w5.cell? ⟨b5, o5 + kl, none⟩ = some (.string (str lang)) := hc5 kl lang HLg.out; have f0b := (k5.cell (p := ⟨w.heap.size, 0, none⟩) hv2).trans f0))
      all_goals
        have b5_ := below_next b4 (below_next (Below.refl w4.heap.size w4).drew k5)
        clear hc5 hA5 d5 f0b
        go_wp2_with fail
        refine (RA.out _).mono ?_
        rintro e w7 ⟨A7, n7, c7_, rfl, hA7, k7⟩
        obtain rfl : N = n7 := by rw [← hN]; exact hA7.len
        have b7 := below_next b5_ k7
        obtain ⟨b9_, o9, rfl, hB9, hc9⟩ := hA7.some_ (by omega)
        have d9 : w7.cell? ⟨b9_, o9 + j, none⟩ = some (.string (str a)) := hc9 j a HaJ.out
        have f1 := (HCe.out _ b7).2
        clear hc9 hA7
        go_wp2_with fail
        refine (P2.out _ b7).mono ?_
        rintro e w8 ⟨rfl, k8⟩
        have b8 := below_next b7 k8
        go_wp2_with fail
        refine (P3.out _ b8).mono ?_
        rintro e w9 ⟨rfl, k9⟩
        have b9 := below_next b8 k9
        go_wp2_with fail
        refine (P4.out _ b9).mono ?_
        rintro e w10 ⟨A10, n10, c10, rfl, hA10, k10⟩
        have b10 := below_next b9 k10
        have HA10 := Lib.hid hA10
        clear hA10
        go_wp2_with fail
        refine (P5.out _ b10).mono ?_
        rintro e w11 ⟨A11, n11, c11, rfl, hA11, k11⟩
        have b11 := below_next b10 k11
        have HS1 := Lib.hid (refSame10_any A10 A11 n10 c10 n11 c11 L L w11 (HA10.out.up k11) hA11 (by have := HA10.out.len; have := HLn.out; omega) (by have := hA11.len; have := HLn.out; omega))
        rw [decide_eq_true rfl] at HS1
        clear hA11
        go_wp2_with fail
        refine HS1.out.mono ?_
        rintro e w12 ⟨rfl, k12⟩
        have b12 := below_next b11 k12
        go_wp2_with fail
        refine (P6.out _ b12).mono ?_
        rintro e w13 ⟨A13, n13, c13, rfl, hA13, k13⟩
        have b13 := below_next b12 k13
        have HA13 := Lib.hid hA13
        clear hA13
        go_wp2_with fail
        refine (P7.out _ b13).mono ?_
        rintro e w14 ⟨A14, n14, c14, rfl, hA14, k14⟩
        have b14 := below_next b13 k14
        have HS2 := Lib.hid (same_primT (A := A13) (A' := A14) (c := c13) (c' := c14) (HA13.out.up k14) hA14 (by have := HA13.out.len; have := HPn.out; omega) (by have := hA14.len; have := HPn.out; omega))
        clear hA14
        go_wp2_with fail
        refine HS2.out.mono ?_
        rintro e w15 ⟨rfl, k15⟩
        go_wp2_with fail
        go_ret
        exact ⟨rfl, hbV.trans ((below_next b14 k15).mono hbV.size)⟩
    · rw [hap] at q39
      rw [if_neg (by rw [hap]; decide)] at hrest
      have eT : str a ++ (⟨#[32]⟩ : ByteArray) ++ str r = str (a ++ 32 :: r) := by
        rw [show (⟨#[32]⟩ : ByteArray) = str [32] from rfl, str_append, str_append, List.append_assoc]
        rfl
      have P2 := Lib.hid (fun W (hW : Below V.heap.size V W) => prStrip9_any lang (a ++ 32 :: r) W (hSV.below hW) (by omega) (by rw [List.length_append, List.length_cons]; omega))
      rw [hrest, ← eT] at P2
      clear hrest eT hap hm hlast s2 hrd hr0 hr32 hmem ham hal0 hne0 hSV hTV hall
      go_enter Tryz.func4, Tryz.ntmps4
      go_wp2_with fail
      clear hV
      refine (A1.out _ (Below.refl _ _)).mono ?_
      rintro e w1 ⟨rfl, k1⟩
      go_wp2_with fail
      refine (A2.out _ k1).mono ?_
      rintro e w2 ⟨B2, n2, c2, rfl, hB2, k2⟩
      obtain rfl : n2 = 2 := hB2.len.symm
      have b2 := below_next k1 k2
      clear hB2
      go_wp2_with fail
      refine (A3.out _ b2).mono ?_
      rintro e w3 ⟨B3, n3, c3, rfl, hB3, k3⟩
      obtain rfl : n3 = 1 := hB3.len.symm.trans HL1.out
      have b3 := below_next b2 k3
      clear hB3
      go_wp2_with fail
      refine (HD.out _).mono ?_
      rintro e w4 ⟨hde, k4⟩
      obtain ⟨v1, rfl, -⟩ := show ∃ v, e = _ ∧ _ from hde
      clear hde
      have b4 := below_next b3 k4
      have f0 := (HCe.out _ b4).1
      have hv2 := hv2 b4
      go_wp2
      go_region_with (first | (go_at_call 16; (with_reducible refine (RL.out _).mono ?_); rintro e w5 ⟨A5, rfl, hA5, k5⟩; obtain ⟨b5, o5, rfl, hB5, hc5⟩ := hA5.some_ (by omega); have d5 : w5.cell? ⟨b5, o5 + kl, none⟩ = some (.string (str lang)) := hc5 kl lang HLg.out; have f0b := (k5.cell (p := ⟨w.heap.size, 0, none⟩) hv2).trans f0))
      all_goals
        have b5_ := below_next b4 (below_next (Below.refl w4.heap.size w4).drew k5)
        clear hc5 hA5 d5 f0b
        go_wp2_with fail
        refine (RA.out _).mono ?_
        rintro e w7 ⟨A7, n7, c7_, rfl, hA7, k7⟩
        obtain rfl : N = n7 := by rw [← hN]; exact hA7.len
        have b7 := below_next b5_ k7
        obtain ⟨b9_, o9, rfl, hB9, hc9⟩ := hA7.some_ (by omega)
        have d9 : w7.cell? ⟨b9_, o9 + j, none⟩ = some (.string (str a)) := hc9 j a HaJ.out
        have f1 := (HCe.out _ b7).2
        clear hc9 hA7
        go_wp2_with fail
        refine (P2.out _ b7).mono ?_
        rintro e w8 ⟨rfl, k8⟩
        have b8 := below_next b7 k8
        go_wp2_with fail
        refine (P3.out _ b8).mono ?_
        rintro e w9 ⟨rfl, k9⟩
        have b9 := below_next b8 k9
        go_wp2_with fail
        refine (P4.out _ b9).mono ?_
        rintro e w10 ⟨A10, n10, c10, rfl, hA10, k10⟩
        have b10 := below_next b9 k10
        have HA10 := Lib.hid hA10
        clear hA10
        go_wp2_with fail
        refine (P5.out _ b10).mono ?_
        rintro e w11 ⟨A11, n11, c11, rfl, hA11, k11⟩
        have b11 := below_next b10 k11
        have HS1 := Lib.hid (refSame10_any A10 A11 n10 c10 n11 c11 L L w11 (HA10.out.up k11) hA11 (by have := HA10.out.len; have := HLn.out; omega) (by have := hA11.len; have := HLn.out; omega))
        rw [decide_eq_true rfl] at HS1
        clear hA11
        go_wp2_with fail
        refine HS1.out.mono ?_
        rintro e w12 ⟨rfl, k12⟩
        have b12 := below_next b11 k12
        go_wp2_with fail
        refine (P6.out _ b12).mono ?_
        rintro e w13 ⟨A13, n13, c13, rfl, hA13, k13⟩
        have b13 := below_next b12 k13
        have HA13 := Lib.hid hA13
        clear hA13
        go_wp2_with fail
        refine (P7.out _ b13).mono ?_
        rintro e w14 ⟨A14, n14, c14, rfl, hA14, k14⟩
        have b14 := below_next b13 k14
        have HS2 := Lib.hid (same_primT (A := A13) (A' := A14) (c := c13) (c' := c14) (HA13.out.up k14) hA14 (by have := HA13.out.len; have := HPn.out; omega) (by have := hA14.len; have := HPn.out; omega))
        clear hA14
        go_wp2_with fail
        refine HS2.out.mono ?_
        rintro e w15 ⟨rfl, k15⟩
        go_wp2_with fail
        go_ret
        exact ⟨rfl, hbV.trans ((below_next b14 k15).mono hbV.size)⟩

end Go.Proofs.YtbnchnbblchmnaaGreatDoor

namespace Go.Proofs.YtbnchnbblchmnaaGreatDoor
open Go.RowKit

theorem wholeTitles_u (x y : Int) (b : ByteArray) (w : World) (hS : Ready10 w) (hx : 0 ≤ x ∧ x ≤ 255) (hy : 0 ≤ y ∧ y ≤ 255) (h : b.size ≤ 1048576) :
    Calls Tryz.prog 4 #[.agg #[.int .u8 x, .int .u8 y], .string b] w fun e w' => e = .returned (.bool true) ∧ Below w.heap.size w w' := by
  obtain ⟨k, rfl⟩ : ∃ m : Nat, x = (m : Int) := ⟨x.toNat, by omega⟩
  obtain ⟨l, rfl⟩ : ∃ m : Nat, y = (m : Int) := ⟨y.toNat, by omega⟩
  have e1 : b.data.toList.length = b.size := rfl
  rw [← str_data b]
  exact wholeTitles_v k l b.data.toList w hS (by omega) (by omega) (by omega)

end Go.Proofs.YtbnchnbblchmnaaGreatDoor

namespace Go.Proofs.YtbnchnbblchmnaaGreatDoor
open Go.RowKit Go.ChangeShapes Go.WideShapes

theorem cells_two8 : Tryz.prog.cellsOf 33 = 2 := by kernel_rfl
theorem cells_u8T : Tryz.prog.cellsOf 5 = 1 := by kernel_rfl
set_option maxRecDepth 100000 in
theorem open_two8 {H : Type} {enc : TypeId × Value → H} {W : World} {r : Go.Reach} {b0 base : Nat} {spare : Nat → Bool} {held : Bool} {v : Value} {d : DataW H} {ps : List MemPlace}
    (hv : Value.okWide Tryz.prog W r b0 33 v) (hd : DataW.Trod enc Tryz.prog W base spare held 33 v d ps) :
    ∃ a b : Int, v = .agg #[.int .u8 a, .int .u8 b] ∧ (0 ≤ a ∧ a ≤ 255) ∧ (0 ≤ b ∧ b ≤ 255) := by
  simp only [Value.okWide, Tryz.underlying33] at hv
  obtain ⟨cs, rfl, hsz, _⟩ := hv
  rw [cells_two8] at hsz
  obtain ⟨c0, c1, rfl⟩ : ∃ c0 c1, cs = #[c0, c1] := by
    obtain ⟨l⟩ := cs
    match l, hsz with
    | [c0, c1], _ => exact ⟨c0, c1, rfl⟩
  obtain ⟨fuel, hf⟩ := hd
  obtain ⟨xs, m, _, _, _, hlen, hi⟩ := Go.DataW.trod_array Tryz.underlying33 hf
  have h0 := hi 0 (by omega)
  have h1 := hi 1 (by omega)
  rw [cells_u8T] at h0 h1
  rw [List.getElem?_eq_getElem (by omega)] at h0 h1
  simp [Value.cells] at h0 h1
  obtain ⟨x0, e0, _, w0⟩ := Go.DataW.trod_int Tryz.underlying5 h0
  obtain ⟨x1, e1, _, w1⟩ := Go.DataW.trod_int Tryz.underlying5 h1
  simp at e0 e1
  subst e0 e1
  exact ⟨x0, x1, rfl, bounds_u8 w0, bounds_u8 w1⟩

end Go.Proofs.YtbnchnbblchmnaaGreatDoor
