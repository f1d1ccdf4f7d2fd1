/-
  The body of ArticleEach.
-/
import Derived.Test.YtmgofhbdaopapaaGreatDoorALawE
import Derived.Deep.RegionHeld3
namespace Go.Proofs.YtmgofhbdaopapaaGreatDoor
open Go.RowKit

theorem arts_all (k : Nat) (hk : k < 10) : ∃ lang all, langT[k]? = some lang ∧ artsOf lang = all ∧ (lang, all) ∈ langT.zip artT ∧ all ≠ [] := by
  have h1 : ((langT.zip artT).all fun p => artsOf p.1 == p.2 && !(p.2 == [])) = true := by decide +kernel
  have hl : k < (langT.zip artT).length := hk
  obtain ⟨p, hp⟩ : ∃ p, (langT.zip artT)[k]? = some p := ⟨_, List.getElem?_eq_getElem hl⟩
  have hm := List.mem_of_getElem? hp
  have h2 := List.all_eq_true.1 h1 p hm
  rw [Bool.and_eq_true] at h2
  refine ⟨p.1, p.2, ?_, by simpa using h2.1, hm, by simpa using h2.2⟩
  have h3 := (List.getElem?_zip_eq_some (l₁ := langT) (l₂ := artT)).1 hp
  exact h3.1
theorem upper_same (b : UInt8) : Lib.upperB b = upB b := by
  have h : ∀ n : Fin 256, Lib.upperB (UInt8.ofNat n.val) = upB (UInt8.ofNat n.val) := by decide +kernel
  have h1 := h ⟨b.toNat, b.toNat_lt⟩
  simpa using h1
theorem cap_parts {a : List UInt8} {b : UInt8} {t : List UInt8} (h : a = b :: t) (hb : b < 128) : Lib.toUpperA (a.take 1) ++ a.drop 1 = capB a := by
  subst h
  show _ = if b < 128 then upB b :: t else b :: t
  rw [if_pos hb]
  simp [Lib.toUpperA, upper_same]
theorem capB_len (a : List UInt8) : (capB a).length = a.length := by
  cases a with
  | nil => rfl
  | cons b t =>
    show (if b < 128 then upB b :: t else b :: t).length = _
    split <;> rfl
theorem capB_ne {a : List UInt8} (h : a ≠ []) : capB a ≠ [] := by
  intro e
  have h1 := capB_len a
  rw [e] at h1
  exact h (List.length_eq_zero_iff.1 h1.symm)
theorem upper9_any (a : List UInt8) (w : World) (ha : a.length ≤ 100) (hb : ∀ b ∈ a, b < 128) :
    Calls Tryz.prog 24 #[.string (str a)] w fun e w' => e = .returned (.string (str (Lib.toUpperA a))) ∧ Below w.heap.size w w' := by
  have e1 : (str a).data.toList = a := by simp [str]
  have h1 := Go.Proofs.Any.strings_ToUpper_ascii upperLays buildExtra9 (str a) w (by rw [str_size]; omega) (by
    rw [e1]
    intro j b hj
    have := hb b (List.mem_of_getElem? hj)
    exact this)
  rw [e1] at h1
  exact h1
theorem repeat_rep (q : Nat) : Lib.repeatL [32] q = List.replicate q (32 : UInt8) := by
  induction q with
  | zero => rfl
  | succ q ih => rw [Lib.repeatL, ih, List.replicate_succ]; rfl
theorem repeat9_any (q : Nat) (w : World) (hq : q ≤ 100) :
    Calls Tryz.prog 25 #[.string ⟨#[32]⟩, .int .i64 (q : Int)] w fun e w' => e = .returned (.string (str (List.replicate q 32))) ∧ Below w.heap.size w w' := by
  have h1 := Go.Proofs.Any.strings_Repeat repeatLays buildExtra9 ⟨#[32]⟩ q w (by omega) (by
    have : (⟨#[32]⟩ : ByteArray).size = 1 := rfl
    rw [this]; omega)
  rw [show (⟨#[32]⟩ : ByteArray).data.toList = [32] from rfl, repeat_rep] at h1
  exact h1

set_option maxRecDepth 20000 in
set_option maxHeartbeats 12800000 in
theorem articleEach_v (x y z : Nat) (r : List UInt8) (w : World) (hS : Ready9 w) (hx : x < 256) (hy : y < 256) (hz : z < 256) (h1 : r.length ≤ 100000000000) :
    Calls Tryz.prog 6 #[.agg #[.int .u8 (x : Int), .int .u8 (y : Int), .int .u8 (z : Int)], .string (str r)] w fun e w' => e = .returned (.bool true) ∧ Below w.heap.size w w' := by
  obtain ⟨V, hV⟩ : ∃ V, w.alloc (.cells #[.int .u8 (x : Int), .int .u8 (y : Int), .int .u8 (z : Int)] 34) = V := ⟨_, rfl⟩
  have hbV : Below w.heap.size w V := by rw [← hV]; exact (Below.refl _ _).alloc (Nat.le_refl _) _
  have hVs : w.heap.size < V.heap.size := by rw [← hV]; simp
  have hBox : Box V w.heap.size 34 #[.int .u8 (x : Int), .int .u8 (y : Int), .int .u8 (z : Int)] := by rw [← hV]; exact Box.made w _ _
  have hSV := hS.below hbV
  have HAw := Lib.hid (awake9_any V hSV)
  have HCe : Hid (∀ W : World, Below V.heap.size V W → W.cell? ⟨w.heap.size, 0, none⟩ = some (.int .u8 (x : Int)) ∧ W.cell? ⟨w.heap.size, 1, none⟩ = some (.int .u8 (y : Int)) ∧ W.cell? ⟨w.heap.size, 2, none⟩ = some (.int .u8 (z : Int))) := Lib.hid (fun W hW =>
    ⟨(hW.cell (p := ⟨w.heap.size, 0, none⟩) hVs).trans (hBox.cell 0), (hW.cell (p := ⟨w.heap.size, 1, none⟩) hVs).trans (hBox.cell 1), (hW.cell (p := ⟨w.heap.size, 2, none⟩) hVs).trans (hBox.cell 2)⟩)
  have HD := Lib.hid (fun W => refDecode_any r W (by omega))
  have hsz : (str r).size = r.length := rfl
  clear hBox hS
  cases hd : decR r with
  | none =>
    rw [hd] at HD
    clear hd hSV
    go_enter Tryz.func6, Tryz.ntmps6
    go_wp2_with fail
    clear hV
    refine HAw.out.mono ?_
    rintro e w1 ⟨rfl, k1⟩
    go_wp2_with fail
    refine (HD.out _).mono ?_
    rintro e w2 ⟨hde, k2⟩
    obtain rfl := show e = _ from hde
    have b2 := below_next k1 k2
    go_wp2
    go_ret
    exact ⟨rfl, hbV.trans (b2.mono hbV.size)⟩
  | some L =>
    rw [hd] at HD
    have hrd : (decR r).isSome = true := by rw [hd]; rfl
    clear hd
    by_cases g0 : r = []
    · subst g0
      have z0 : (str ([] : List UInt8)).toList = [] := str_toList []
      have z1 : ((str ([] : List UInt8)).toList == []) = true := by rw [z0]; rfl
      clear hSV hrd
      go_enter Tryz.func6, Tryz.ntmps6
      go_wp2_with fail
      clear hV
      refine HAw.out.mono ?_
      rintro e w1 ⟨rfl, k1⟩
      go_wp2_with fail
      refine (HD.out _).mono ?_
      rintro e w2 ⟨hde, k2⟩
      obtain ⟨v1, rfl, -⟩ := show ∃ v, e = _ ∧ _ from hde
      clear hde
      have b2 := below_next k1 k2
      go_wp2
      go_ret
      exact ⟨rfl, hbV.trans (b2.mono hbV.size)⟩
    have hr0 := g0
    have z0 : ¬ (str r).toList = [] := by rw [str_toList]; exact g0
    have z1 := strs_ne g0
    have z2 := strs_some g0
    have hpos := List.length_pos_iff.2 g0
    have hk0 : 0 < (str r).size := hpos
    have h0z : (0 : Int) < (r.length : Int) := by omega
    have hat := str_at r 0 hk0
    by_cases g1 : (str r)[0] = 32
    · have t1 : (((str r)[0].toNat : Int) == 32) = true := by rw [g1]; rfl
      clear hSV hrd hr0 g0 g1 hat
      go_enter Tryz.func6, Tryz.ntmps6
      go_wp2_with fail
      clear hV
      refine HAw.out.mono ?_
      rintro e w1 ⟨rfl, k1⟩
      go_wp2_with fail
      refine (HD.out _).mono ?_
      rintro e w2 ⟨hde, k2⟩
      obtain ⟨v1, rfl, -⟩ := show ∃ v, e = _ ∧ _ from hde
      clear hde
      have b2 := below_next k1 k2
      go_wp2
      go_ret
      exact ⟨rfl, hbV.trans (b2.mono hbV.size)⟩
    have t1 : (((str r)[0].toNat : Int) == 32) = false := eqb_false (fun e => g1 (UInt8.toNat_inj.1 (by simpa using Int.ofNat.inj e)))
    have hr32 : r.head? ≠ some 32 := by
      rw [List.head?_eq_getElem?, hat]
      simpa using g1
    by_cases g2 : 60 < r.length
    · have t2 : decide ((60 : Int) < (r.length : Int)) = true := decide_eq_true (by omega)
      have t2n : decide (60 < r.length) = true := decide_eq_true g2
      clear hSV hrd hr0 g0 g1 hat hr32
      go_enter Tryz.func6, Tryz.ntmps6
      go_wp2_with fail
      clear hV
      refine HAw.out.mono ?_
      rintro e w1 ⟨rfl, k1⟩
      go_wp2_with fail
      refine (HD.out _).mono ?_
      rintro e w2 ⟨hde, k2⟩
      obtain ⟨v1, rfl, -⟩ := show ∃ v, e = _ ∧ _ from hde
      clear hde
      have b2 := below_next k1 k2
      go_wp2
      go_ret
      exact ⟨rfl, hbV.trans (b2.mono hbV.size)⟩
    have t2 : decide ((60 : Int) < (r.length : Int)) = false := decide_eq_false (by omega)
    have t2n : decide (60 < r.length) = false := decide_eq_false g2
    obtain ⟨kl, hkl⟩ : ∃ k, x % 10 = k := ⟨_, rfl⟩
    have hk10 : kl < 10 := by omega
    have hmod0 : (x : Int) % 10 = (kl : Int) := by omega
    have kz : (kl : Int) < 10 := by omega
    have hwx : IntKind.i64.wrap (x : Int) = (x : Int) := wraps_i64 _ (by omega) (by omega)
    have hmt : (x : Int).tmod 10 = (kl : Int) := by rw [Int.tmod_eq_emod_of_nonneg (by omega)]; exact hmod0
    have hmt2 : (IntKind.i64.wrap (x : Int)).tmod 10 = (kl : Int) := by rw [hwx]; exact hmt
    have kz0 : (0 : Int) ≤ (kl : Int) := by omega
    obtain ⟨lang, all, hlang, hall, hmem, hne⟩ := arts_all kl hk10
    have hl3 := lang3 hlang
    have HLg := Lib.hid hlang
    have RL := Lib.hid (fun W => refLanguages_any W)
    have RA := Lib.hid (fun W => refArticles_any lang W)
    rw [hall] at RA
    have hfew := arts_few lang
    rw [hall] at hfew
    obtain ⟨N, hN⟩ : ∃ N, all.length = N := ⟨_, rfl⟩
    have hN0 : 0 < N := by have := List.length_pos_iff.2 hne; omega
    obtain ⟨j, hj⟩ : ∃ j, y % N = j := ⟨_, rfl⟩
    have hjN : j < N := by rw [← hj]; exact Nat.mod_lt _ hN0
    have hmod1 : (y : Int) % (N : Int) = (j : Int) := by rw [← hj]; simp
    have hwy : IntKind.i64.wrap (y : Int) = (y : Int) := wraps_i64 _ (by omega) (by omega)
    have hdz : ¬ ((N : Int) = 0) := by omega
    have jz : (j : Int) < (N : Int) := by omega
    have jz0 : (0 : Int) ≤ (j : Int) := by omega
    obtain ⟨a, ha⟩ : ∃ a, all[j]? = some a := ⟨_, List.getElem?_eq_getElem (by omega)⟩
    have HaJ := Lib.hid ha
    have ham := List.mem_of_getElem? ha
    obtain ⟨hne0, hal0⟩ := arts_ne (lang := lang) (a := a) (by rw [hall]; exact ham)
    obtain ⟨b, tl, hab⟩ : ∃ b t, a = b :: t := by
      cases a with
      | nil => exact absurd rfl hne0
      | cons b t => exact ⟨b, t, rfl⟩
    have hapos := List.length_pos_iff.2 hne0
    have hka0 : 0 < (str a).size := hapos
    have h0a : (0 : Int) < (a.length : Int) := by omega
    have hasz0 : (str a).size = a.length := rfl
    have hb0 : (str a)[0] = b := by
      have h9 := str_at a 0 hka0
      have h8 : a[0]? = some b := by rw [hab]; rfl
      rw [h8] at h9
      exact (Option.some.inj h9).symm
    obtain ⟨q, hq⟩ : ∃ q, 1 + z % 3 = q := ⟨_, rfl⟩
    have hq0 : 0 < q := by omega
    have hq3 : q ≤ 3 := by omega
    obtain ⟨z3, hz3⟩ : ∃ k, z % 3 = k := ⟨_, rfl⟩
    have hmod3 : (z : Int) % 3 = (z3 : Int) := by omega
    have hadd3 : (1 : Int) + (z3 : Int) = (q : Int) := by omega
    have hwq : IntKind.i64.wrap (q : Int) = (q : Int) := wraps_i64 _ (by omega) (by omega)
    have HRep := Lib.hid (fun W => repeat9_any q W (by omega))
    obtain ⟨z2_, hz2⟩ : ∃ k, z % 2 = k := ⟨_, rfl⟩
    have hmod2 : (z : Int) % 2 = (z2_ : Int) := by omega
    have hv2 : ∀ {W : World}, Below V.heap.size V W → w.heap.size < W.heap.size := fun hW => by have := hW.size; omega
    clear hkl hne hj ha hlang g0 g1 hat hq hz3 h1
    by_cases g3 : z2_ = 1
    · have tz : ((z2_ : Int) == 1) = true := eqb_true (by omega)
      by_cases g4 : b < 128
      · have tb : decide (((str a)[0].toNat : Int) < 128) = true := by
          rw [hb0]
          exact decide_eq_true (by have h9 : b.toNat < 128 := g4; omega)
        have hs1 : ∀ W, (Instr.sliceAt 9 (.string (str a)) none (some (.int .i64 1)) none).run Tryz.prog W = .ok (.string (str (a.take 1))) W := fun W => str_pre (P := Tryz.prog) 9 Tryz.underlying9 a 1 (by omega) W
        have hs2 : ∀ W, (Instr.sliceAt 9 (.string (str a)) (some (.int .i64 1)) none none).run Tryz.prog W = .ok (.string (str (a.drop 1))) W := fun W => str_suf (P := Tryz.prog) 9 Tryz.underlying9 a 1 (by omega) W
        have hUp := fun W => upper9_any (a.take 1) W (by rw [List.length_take]; omega) (by rw [hab]; intro d hd; simp at hd; rw [hd]; exact g4)
        have HCap : Hid (str (Lib.toUpperA (a.take 1)) ++ str (a.drop 1) = str (capB a)) := Lib.hid (by rw [str_append, cap_parts hab g4])
        have cU : ¬ 9223372036854775807 < (str (Lib.toUpperA (a.take 1))).size + (str (a.drop 1)).size := by
          have e1 : (str (Lib.toUpperA (a.take 1))).size = (a.take 1).length := by rw [str_size]; unfold Lib.toUpperA; rw [List.length_map]
          have e2 : (str (a.drop 1)).size = (a.drop 1).length := rfl
          rw [List.length_take] at e1
          rw [List.length_drop] at e2
          omega
        obtain ⟨T1, hT1⟩ : ∃ T, a.take 1 = T := ⟨_, rfl⟩
        obtain ⟨D1, hD1⟩ : ∃ T, a.drop 1 = T := ⟨_, rfl⟩
        rw [hT1] at HCap cU
        rw [hD1] at HCap cU
        simp only [hT1] at hs1 hUp
        simp only [hD1] at hs2
        obtain ⟨U1, hU1⟩ : ∃ T, Lib.toUpperA T1 = T := ⟨_, rfl⟩
        rw [hU1] at HCap cU
        simp only [hU1] at hUp
        clear hT1 hD1 hU1
        obtain ⟨hea, hal, m, hm⟩ : apoB (capB a) = apoB a ∧ (capB a).length ≤ 10 ∧ ∃ m, (capB a).length = m + 1 := by
          refine ⟨(good_art hmem ham (.inr rfl)).2.apo, by rw [capB_len]; exact hal0, (capB a).length - 1, ?_⟩
          have := capB_ne hne0
          have := List.length_pos_iff.2 this
          omega
        have hasz : (str (capB a)).size = (capB a).length := rfl
        have ea : ((capB a).length : Int) - 1 = (m : Int) := by omega
        have em : IntKind.i64.wrap (m : Int) = (m : Int) := wraps_i64 _ (by omega) (by omega)
        have hkm : m < (str (capB a)).size := by omega
        have mz : (m : Int) < ((capB a).length : Int) := by omega
        have hlast : (capB a).getLast? = some ((str (capB a))[m]) := by
          rw [List.getLast?_eq_getElem?, hm]
          exact str_at (capB a) m hkm
        have q39 : (((str (capB a))[m].toNat : Int) == 39) = apoB a := by
          rw [← hea]
          unfold apoB
          rw [hlast]
          by_cases e : (str (capB a))[m] = 39
          · rw [e]; rfl
          · have h1 : (((str (capB a))[m].toNat : Int) == 39) = false := eqb_false (fun e2 => e (UInt8.toNat_inj.1 (by simpa using Int.ofNat.inj e2)))
            rw [h1]
            simpa using e
        have s1 : (str (List.replicate q (32 : UInt8))).size = q := by rw [str_size, List.length_replicate]
        have s2 : (str (capB a) ++ str (List.replicate q 32)).size = (capB a).length + q := by rw [str_append, str_size, List.length_append, List.length_replicate]
        have s3 : (str r ++ (⟨#[44, 32]⟩ : ByteArray)).size = r.length + 2 := by
          rw [show (⟨#[44, 32]⟩ : ByteArray) = str [44, 32] from rfl, str_append, str_size, List.length_append]
          rfl
        have c1 : ¬ 9223372036854775807 < (str (capB a)).size + (str (List.replicate q (32 : UInt8))).size := by omega
        have c2 : ¬ 9223372036854775807 < (str (capB a) ++ str (List.replicate q 32)).size + (str r).size := by omega
        have c3 : ¬ 9223372036854775807 < (str (capB a)).size + (str r).size := by omega
        have c4 : ¬ 9223372036854775807 < (str r).size + 2 := by omega
        have c5 : ¬ 9223372036854775807 < (str r ++ (⟨#[44, 32]⟩ : ByteArray)).size + (str (capB a)).size := by omega
        have c6 : ¬ 9223372036854775807 < (str r).size + 2 + (str (capB a)).size := by omega
        have c7 : ¬ 9223372036854775807 < (str (capB a)).size + (str (List.replicate q (32 : UInt8))).size + (str r).size := by omega
        have qr : ((str r).toList == (str r).toList) = true := beq_self_eq_true _
        obtain ⟨Iv, hIv⟩ : ∃ I, r ++ [44, 32] ++ (capB a) = I := ⟨_, rfl⟩
        have qi : ((str Iv).toList == (str r ++ (⟨#[44, 32]⟩ : ByteArray) ++ str (capB a)).toList) = true := by
          rw [← hIv]
          rw [show (⟨#[44, 32]⟩ : ByteArray) = str [44, 32] from rfl, str_append, str_append]
          exact beq_self_eq_true _
        rcases (show apoB a = true ∨ apoB a = false by cases apoB a <;> simp) with hap | hap
        · have hap : apoB a = true := hap
          obtain ⟨w1_, w2_⟩ := art_each2 hmem ham (.inr rfl) hap hrd hr0 hr32
          have eT : str (capB a) ++ str r = str ((capB a) ++ r) := str_append _ _
          have P2 := Lib.hid (fun W (hW : Below V.heap.size V W) => prStrip9_any lang ((capB a) ++ r) W (hSV.below hW) (by omega) (by rw [List.length_append]; omega))
          have P3 := Lib.hid (fun W (hW : Below V.heap.size V W) => prInvert9_any lang ((capB a) ++ r) W (hSV.below hW) (by omega) (by rw [List.length_append]; omega))
          rw [w1_, ← eT] at P2
          rw [w2_, ← eT, hIv] at P3
          rw [hap] at q39
          clear w1_ w2_ eT
          obtain ⟨X, hX⟩ : ∃ X, List.replicate q (32 : UInt8) = X := ⟨_, rfl⟩
          rw [hX] at HRep c1 c2 c7 s1 s2
          clear hb0 hX hIv hap hea hal hm hlast s1 s2 s3 hrd hr0 hr32 hq0 hmem ham hal0 hne0 hSV hab hall
          go_enter Tryz.func6, Tryz.ntmps6
          go_wp2_with fail
          clear hV
          refine HAw.out.mono ?_
          rintro e w1 ⟨rfl, k1⟩
          go_wp2_with fail
          refine (HD.out _).mono ?_
          rintro e w2 ⟨hde, k2⟩
          obtain ⟨v1, rfl, -⟩ := show ∃ v, e = _ ∧ _ from hde
          clear hde
          have b2 := below_next k1 k2
          have f0 := (HCe.out _ b2).1
          have hv2 := hv2 b2

          go_wp2
          go_region_with (first | (go_at_call 17; (with_reducible refine (RL.out _).mono ?_); rintro e w5 ⟨A5, rfl, hA5, k5⟩; obtain ⟨b5, o5, rfl, hB5, hc5⟩ := hA5.some_ (by omega); have d5 : w5.cell? ⟨b5, o5 + kl, none⟩ = some (.string (str lang)) := hc5 kl lang HLg.out; have f0b := (k5.cell (p := ⟨w.heap.size, 0, none⟩) hv2).trans f0))
          all_goals
            have b5_ := below_next b2 (below_next (Below.refl w2.heap.size w2).drew k5)
            clear hc5 hA5 d5 f0b
            go_wp2_with fail
            refine (RA.out _).mono ?_
            rintro e w7 ⟨A7, n7, c7_, rfl, hA7, k7⟩
            obtain rfl : N = n7 := by rw [← hN]; exact hA7.len
            have b7 := below_next b5_ k7
            obtain ⟨b9_, o9, rfl, hB9, hc9⟩ := hA7.some_ (by omega)
            have d9 : w7.cell? ⟨b9_, o9 + j, none⟩ = some (.string (str a)) := hc9 j a HaJ.out
            have f1 := (HCe.out _ b7).2.1
            have f2 := (HCe.out _ b7).2.2
            clear hc9 hA7

            go_wp2_with fail
            refine wp_region_reach (by kernel_rfl) (by kernel_rfl) ?_
            repeat (quiet_step (first
              | (go_at_call 24; with_reducible exact calls_reach (hUp _))))
            refine wpQuiet_nil ?_
            intro _ hw'
            obtain ⟨p1, hw''⟩ := hw'
            subst hw''
            have k8 := below_reach w7 p1
            have b8 := below_next b7 k8
            have f2 := (HCe.out _ b8).2.2
            rw [HCap.out]

            go_wp2_with fail
            refine (HRep.out _).mono ?_
            rintro e w9 ⟨rfl, k9⟩
            have b9 := below_next b8 k9
            go_wp2_with fail
            refine (P2.out _ b9).mono ?_
            rintro e w10 ⟨rfl, k10⟩
            have b10 := below_next b9 k10
            go_wp2_with fail
            refine (P3.out _ b10).mono ?_
            rintro e w11 ⟨rfl, k11⟩
            go_wp2_with fail
            go_ret
            exact ⟨rfl, hbV.trans ((below_next b10 k11).mono hbV.size)⟩
        · have hap : apoB a = false := hap
          obtain ⟨w1_, w2_⟩ := art_each1 hmem ham (.inr rfl) hap hq0 hrd hr0 hr32
          have eT : str (capB a) ++ str (List.replicate q 32) ++ str r = str ((capB a) ++ (List.replicate q 32 ++ r)) := by rw [str_append, str_append, List.append_assoc]
          have P2 := Lib.hid (fun W (hW : Below V.heap.size V W) => prStrip9_any lang ((capB a) ++ (List.replicate q 32 ++ r)) W (hSV.below hW) (by omega) (by rw [List.length_append, List.length_append, List.length_replicate]; omega))
          have P3 := Lib.hid (fun W (hW : Below V.heap.size V W) => prInvert9_any lang ((capB a) ++ (List.replicate q 32 ++ r)) W (hSV.below hW) (by omega) (by rw [List.length_append, List.length_append, List.length_replicate]; omega))
          rw [w1_, ← eT] at P2
          rw [w2_, ← eT, hIv] at P3
          rw [hap] at q39
          clear w1_ w2_ eT
          obtain ⟨X, hX⟩ : ∃ X, List.replicate q (32 : UInt8) = X := ⟨_, rfl⟩
          rw [hX] at HRep c1 c2 c7 s1 s2 P2 P3
          clear hb0 hX hIv hap hea hal hm hlast s1 s2 s3 hrd hr0 hr32 hq0 hmem ham hal0 hne0 hSV hab hall
          go_enter Tryz.func6, Tryz.ntmps6
          go_wp2_with fail
          clear hV
          refine HAw.out.mono ?_
          rintro e w1 ⟨rfl, k1⟩
          go_wp2_with fail
          refine (HD.out _).mono ?_
          rintro e w2 ⟨hde, k2⟩
          obtain ⟨v1, rfl, -⟩ := show ∃ v, e = _ ∧ _ from hde
          clear hde
          have b2 := below_next k1 k2
          have f0 := (HCe.out _ b2).1
          have hv2 := hv2 b2

          go_wp2
          go_region_with (first | (go_at_call 17; (with_reducible refine (RL.out _).mono ?_); rintro e w5 ⟨A5, rfl, hA5, k5⟩; obtain ⟨b5, o5, rfl, hB5, hc5⟩ := hA5.some_ (by omega); have d5 : w5.cell? ⟨b5, o5 + kl, none⟩ = some (.string (str lang)) := hc5 kl lang HLg.out; have f0b := (k5.cell (p := ⟨w.heap.size, 0, none⟩) hv2).trans f0))
          all_goals
            have b5_ := below_next b2 (below_next (Below.refl w2.heap.size w2).drew k5)
            clear hc5 hA5 d5 f0b
            go_wp2_with fail
            refine (RA.out _).mono ?_
            rintro e w7 ⟨A7, n7, c7_, rfl, hA7, k7⟩
            obtain rfl : N = n7 := by rw [← hN]; exact hA7.len
            have b7 := below_next b5_ k7
            obtain ⟨b9_, o9, rfl, hB9, hc9⟩ := hA7.some_ (by omega)
            have d9 : w7.cell? ⟨b9_, o9 + j, none⟩ = some (.string (str a)) := hc9 j a HaJ.out
            have f1 := (HCe.out _ b7).2.1
            have f2 := (HCe.out _ b7).2.2
            clear hc9 hA7

            go_wp2_with fail
            refine wp_region_reach (by kernel_rfl) (by kernel_rfl) ?_
            repeat (quiet_step (first
              | (go_at_call 24; with_reducible exact calls_reach (hUp _))))
            refine wpQuiet_nil ?_
            intro _ hw'
            obtain ⟨p1, hw''⟩ := hw'
            subst hw''
            have k8 := below_reach w7 p1
            have b8 := below_next b7 k8
            have f2 := (HCe.out _ b8).2.2
            rw [HCap.out]

            go_wp2_with fail
            refine (HRep.out _).mono ?_
            rintro e w9 ⟨rfl, k9⟩
            have b9 := below_next b8 k9
            go_wp2_with fail
            refine (P2.out _ b9).mono ?_
            rintro e w10 ⟨rfl, k10⟩
            have b10 := below_next b9 k10
            go_wp2_with fail
            refine (P3.out _ b10).mono ?_
            rintro e w11 ⟨rfl, k11⟩
            go_wp2_with fail
            go_ret
            exact ⟨rfl, hbV.trans ((below_next b10 k11).mono hbV.size)⟩
      · have tb : decide (((str a)[0].toNat : Int) < 128) = false := by
          rw [hb0]
          exact decide_eq_false (by have h9 : ¬ b.toNat < 128 := g4; omega)
        obtain ⟨hea, hal, m, hm⟩ : apoB a = apoB a ∧ a.length ≤ 10 ∧ ∃ m, a.length = m + 1 := by
          refine ⟨(good_art hmem ham (.inl rfl)).2.apo, hal0, a.length - 1, ?_⟩
          have := hne0
          have := List.length_pos_iff.2 this
          omega
        have hasz : (str a).size = a.length := rfl
        have ea : (a.length : Int) - 1 = (m : Int) := by omega
        have em : IntKind.i64.wrap (m : Int) = (m : Int) := wraps_i64 _ (by omega) (by omega)
        have hkm : m < (str a).size := by omega
        have mz : (m : Int) < (a.length : Int) := by omega
        have hlast : a.getLast? = some ((str a)[m]) := by
          rw [List.getLast?_eq_getElem?, hm]
          exact str_at a m hkm
        have q39 : (((str a)[m].toNat : Int) == 39) = apoB a := by
          rw [← hea]
          unfold apoB
          rw [hlast]
          by_cases e : (str a)[m] = 39
          · rw [e]; rfl
          · have h1 : (((str a)[m].toNat : Int) == 39) = false := eqb_false (fun e2 => e (UInt8.toNat_inj.1 (by simpa using Int.ofNat.inj e2)))
            rw [h1]
            simpa using e
        have s1 : (str (List.replicate q (32 : UInt8))).size = q := by rw [str_size, List.length_replicate]
        have s2 : (str a ++ str (List.replicate q 32)).size = a.length + q := by rw [str_append, str_size, List.length_append, List.length_replicate]
        have s3 : (str r ++ (⟨#[44, 32]⟩ : ByteArray)).size = r.length + 2 := by
          rw [show (⟨#[44, 32]⟩ : ByteArray) = str [44, 32] from rfl, str_append, str_size, List.length_append]
          rfl
        have c1 : ¬ 9223372036854775807 < (str a).size + (str (List.replicate q (32 : UInt8))).size := by omega
        have c2 : ¬ 9223372036854775807 < (str a ++ str (List.replicate q 32)).size + (str r).size := by omega
        have c3 : ¬ 9223372036854775807 < (str a).size + (str r).size := by omega
        have c4 : ¬ 9223372036854775807 < (str r).size + 2 := by omega
        have c5 : ¬ 9223372036854775807 < (str r ++ (⟨#[44, 32]⟩ : ByteArray)).size + (str a).size := by omega
        have c6 : ¬ 9223372036854775807 < (str r).size + 2 + (str a).size := by omega
        have c7 : ¬ 9223372036854775807 < (str a).size + (str (List.replicate q (32 : UInt8))).size + (str r).size := by omega
        have qr : ((str r).toList == (str r).toList) = true := beq_self_eq_true _
        obtain ⟨Iv, hIv⟩ : ∃ I, r ++ [44, 32] ++ a = I := ⟨_, rfl⟩
        have qi : ((str Iv).toList == (str r ++ (⟨#[44, 32]⟩ : ByteArray) ++ str a).toList) = true := by
          rw [← hIv]
          rw [show (⟨#[44, 32]⟩ : ByteArray) = str [44, 32] from rfl, str_append, str_append]
          exact beq_self_eq_true _
        rcases (show apoB a = true ∨ apoB a = false by cases apoB a <;> simp) with hap | hap
        · have hap : apoB a = true := hap
          obtain ⟨w1_, w2_⟩ := art_each2 hmem ham (.inl rfl) hap hrd hr0 hr32
          have eT : str a ++ str r = str (a ++ r) := str_append _ _
          have P2 := Lib.hid (fun W (hW : Below V.heap.size V W) => prStrip9_any lang (a ++ r) W (hSV.below hW) (by omega) (by rw [List.length_append]; omega))
          have P3 := Lib.hid (fun W (hW : Below V.heap.size V W) => prInvert9_any lang (a ++ r) W (hSV.below hW) (by omega) (by rw [List.length_append]; omega))
          rw [w1_, ← eT] at P2
          rw [w2_, ← eT, hIv] at P3
          rw [hap] at q39
          clear w1_ w2_ eT
          obtain ⟨X, hX⟩ : ∃ X, List.replicate q (32 : UInt8) = X := ⟨_, rfl⟩
          rw [hX] at HRep c1 c2 c7 s1 s2
          clear hb0 hX hIv hap hea hal hm hlast s1 s2 s3 hrd hr0 hr32 hq0 hmem ham hal0 hne0 hSV hab hall
          go_enter Tryz.func6, Tryz.ntmps6
          go_wp2_with fail
          clear hV
          refine HAw.out.mono ?_
          rintro e w1 ⟨rfl, k1⟩
          go_wp2_with fail
          refine (HD.out _).mono ?_
          rintro e w2 ⟨hde, k2⟩
          obtain ⟨v1, rfl, -⟩ := show ∃ v, e = _ ∧ _ from hde
          clear hde
          have b2 := below_next k1 k2
          have f0 := (HCe.out _ b2).1
          have hv2 := hv2 b2

          go_wp2
          go_region_with (first | (go_at_call 17; (with_reducible refine (RL.out _).mono ?_); rintro e w5 ⟨A5, rfl, hA5, k5⟩; obtain ⟨b5, o5, rfl, hB5, hc5⟩ := hA5.some_ (by omega); have d5 : w5.cell? ⟨b5, o5 + kl, none⟩ = some (.string (str lang)) := hc5 kl lang HLg.out; have f0b := (k5.cell (p := ⟨w.heap.size, 0, none⟩) hv2).trans f0))
          all_goals
            have b5_ := below_next b2 (below_next (Below.refl w2.heap.size w2).drew k5)
            clear hc5 hA5 d5 f0b
            go_wp2_with fail
            refine (RA.out _).mono ?_
            rintro e w7 ⟨A7, n7, c7_, rfl, hA7, k7⟩
            obtain rfl : N = n7 := by rw [← hN]; exact hA7.len
            have b7 := below_next b5_ k7
            obtain ⟨b9_, o9, rfl, hB9, hc9⟩ := hA7.some_ (by omega)
            have d9 : w7.cell? ⟨b9_, o9 + j, none⟩ = some (.string (str a)) := hc9 j a HaJ.out
            have f1 := (HCe.out _ b7).2.1
            have f2 := (HCe.out _ b7).2.2
            clear hc9 hA7

            have b8 := b7

            go_wp2_with fail
            refine (HRep.out _).mono ?_
            rintro e w9 ⟨rfl, k9⟩
            have b9 := below_next b8 k9
            go_wp2_with fail
            refine (P2.out _ b9).mono ?_
            rintro e w10 ⟨rfl, k10⟩
            have b10 := below_next b9 k10
            go_wp2_with fail
            refine (P3.out _ b10).mono ?_
            rintro e w11 ⟨rfl, k11⟩
            go_wp2_with fail
            go_ret
            exact ⟨rfl, hbV.trans ((below_next b10 k11).mono hbV.size)⟩
        · have hap : apoB a = false := hap
          obtain ⟨w1_, w2_⟩ := art_each1 hmem ham (.inl rfl) hap hq0 hrd hr0 hr32
          have eT : str a ++ str (List.replicate q 32) ++ str r = str (a ++ (List.replicate q 32 ++ r)) := by rw [str_append, str_append, List.append_assoc]
          have P2 := Lib.hid (fun W (hW : Below V.heap.size V W) => prStrip9_any lang (a ++ (List.replicate q 32 ++ r)) W (hSV.below hW) (by omega) (by rw [List.length_append, List.length_append, List.length_replicate]; omega))
          have P3 := Lib.hid (fun W (hW : Below V.heap.size V W) => prInvert9_any lang (a ++ (List.replicate q 32 ++ r)) W (hSV.below hW) (by omega) (by rw [List.length_append, List.length_append, List.length_replicate]; omega))
          rw [w1_, ← eT] at P2
          rw [w2_, ← eT, hIv] at P3
          rw [hap] at q39
          clear w1_ w2_ eT
          obtain ⟨X, hX⟩ : ∃ X, List.replicate q (32 : UInt8) = X := ⟨_, rfl⟩
          rw [hX] at HRep c1 c2 c7 s1 s2 P2 P3
          clear hb0 hX hIv hap hea hal hm hlast s1 s2 s3 hrd hr0 hr32 hq0 hmem ham hal0 hne0 hSV hab hall
          go_enter Tryz.func6, Tryz.ntmps6
          go_wp2_with fail
          clear hV
          refine HAw.out.mono ?_
          rintro e w1 ⟨rfl, k1⟩
          go_wp2_with fail
          refine (HD.out _).mono ?_
          rintro e w2 ⟨hde, k2⟩
          obtain ⟨v1, rfl, -⟩ := show ∃ v, e = _ ∧ _ from hde
          clear hde
          have b2 := below_next k1 k2
          have f0 := (HCe.out _ b2).1
          have hv2 := hv2 b2

          go_wp2
          go_region_with (first | (go_at_call 17; (with_reducible refine (RL.out _).mono ?_); rintro e w5 ⟨A5, rfl, hA5, k5⟩; obtain ⟨b5, o5, rfl, hB5, hc5⟩ := hA5.some_ (by omega); have d5 : w5.cell? ⟨b5, o5 + kl, none⟩ = some (.string (str lang)) := hc5 kl lang HLg.out; have f0b := (k5.cell (p := ⟨w.heap.size, 0, none⟩) hv2).trans f0))
          all_goals
            have b5_ := below_next b2 (below_next (Below.refl w2.heap.size w2).drew k5)
            clear hc5 hA5 d5 f0b
            go_wp2_with fail
            refine (RA.out _).mono ?_
            rintro e w7 ⟨A7, n7, c7_, rfl, hA7, k7⟩
            obtain rfl : N = n7 := by rw [← hN]; exact hA7.len
            have b7 := below_next b5_ k7
            obtain ⟨b9_, o9, rfl, hB9, hc9⟩ := hA7.some_ (by omega)
            have d9 : w7.cell? ⟨b9_, o9 + j, none⟩ = some (.string (str a)) := hc9 j a HaJ.out
            have f1 := (HCe.out _ b7).2.1
            have f2 := (HCe.out _ b7).2.2
            clear hc9 hA7

            have b8 := b7

            go_wp2_with fail
            refine (HRep.out _).mono ?_
            rintro e w9 ⟨rfl, k9⟩
            have b9 := below_next b8 k9
            go_wp2_with fail
            refine (P2.out _ b9).mono ?_
            rintro e w10 ⟨rfl, k10⟩
            have b10 := below_next b9 k10
            go_wp2_with fail
            refine (P3.out _ b10).mono ?_
            rintro e w11 ⟨rfl, k11⟩
            go_wp2_with fail
            go_ret
            exact ⟨rfl, hbV.trans ((below_next b10 k11).mono hbV.size)⟩
    · have tz : ((z2_ : Int) == 1) = false := eqb_false (by omega)
      obtain ⟨hea, hal, m, hm⟩ : apoB a = apoB a ∧ a.length ≤ 10 ∧ ∃ m, a.length = m + 1 := by
        refine ⟨(good_art hmem ham (.inl rfl)).2.apo, hal0, a.length - 1, ?_⟩
        have := hne0
        have := List.length_pos_iff.2 this
        omega
      have hasz : (str a).size = a.length := rfl
      have ea : (a.length : Int) - 1 = (m : Int) := by omega
      have em : IntKind.i64.wrap (m : Int) = (m : Int) := wraps_i64 _ (by omega) (by omega)
      have hkm : m < (str a).size := by omega
      have mz : (m : Int) < (a.length : Int) := by omega
      have hlast : a.getLast? = some ((str a)[m]) := by
        rw [List.getLast?_eq_getElem?, hm]
        exact str_at a m hkm
      have q39 : (((str a)[m].toNat : Int) == 39) = apoB a := by
        rw [← hea]
        unfold apoB
        rw [hlast]
        by_cases e : (str a)[m] = 39
        · rw [e]; rfl
        · have h1 : (((str a)[m].toNat : Int) == 39) = false := eqb_false (fun e2 => e (UInt8.toNat_inj.1 (by simpa using Int.ofNat.inj e2)))
          rw [h1]
          simpa using e
      have s1 : (str (List.replicate q (32 : UInt8))).size = q := by rw [str_size, List.length_replicate]
      have s2 : (str a ++ str (List.replicate q 32)).size = a.length + q := by rw [str_append, str_size, List.length_append, List.length_replicate]
      have s3 : (str r ++ (⟨#[44, 32]⟩ : ByteArray)).size = r.length + 2 := by
        rw [show (⟨#[44, 32]⟩ : ByteArray) = str [44, 32] from rfl, str_append, str_size, List.length_append]
        rfl
      have c1 : ¬ 9223372036854775807 < (str a).size + (str (List.replicate q (32 : UInt8))).size := by omega
      have c2 : ¬ 9223372036854775807 < (str a ++ str (List.replicate q 32)).size + (str r).size := by omega
      have c3 : ¬ 9223372036854775807 < (str a).size + (str r).size := by omega
      have c4 : ¬ 9223372036854775807 < (str r).size + 2 := by omega
      have c5 : ¬ 9223372036854775807 < (str r ++ (⟨#[44, 32]⟩ : ByteArray)).size + (str a).size := by omega
      have c6 : ¬ 9223372036854775807 < (str r).size + 2 + (str a).size := by omega
      have c7 : ¬ 9223372036854775807 < (str a).size + (str (List.replicate q (32 : UInt8))).size + (str r).size := by omega
      have qr : ((str r).toList == (str r).toList) = true := beq_self_eq_true _
      obtain ⟨Iv, hIv⟩ : ∃ I, r ++ [44, 32] ++ a = I := ⟨_, rfl⟩
      have qi : ((str Iv).toList == (str r ++ (⟨#[44, 32]⟩ : ByteArray) ++ str a).toList) = true := by
        rw [← hIv]
        rw [show (⟨#[44, 32]⟩ : ByteArray) = str [44, 32] from rfl, str_append, str_append]
        exact beq_self_eq_true _
      rcases (show apoB a = true ∨ apoB a = false by cases apoB a <;> simp) with hap | hap
      · have hap : apoB a = true := hap
        obtain ⟨w1_, w2_⟩ := art_each2 hmem ham (.inl rfl) hap hrd hr0 hr32
        have eT : str a ++ str r = str (a ++ r) := str_append _ _
        have P2 := Lib.hid (fun W (hW : Below V.heap.size V W) => prStrip9_any lang (a ++ r) W (hSV.below hW) (by omega) (by rw [List.length_append]; omega))
        have P3 := Lib.hid (fun W (hW : Below V.heap.size V W) => prInvert9_any lang (a ++ r) W (hSV.below hW) (by omega) (by rw [List.length_append]; omega))
        rw [w1_, ← eT] at P2
        rw [w2_, ← eT, hIv] at P3
        rw [hap] at q39
        clear w1_ w2_ eT
        obtain ⟨X, hX⟩ : ∃ X, List.replicate q (32 : UInt8) = X := ⟨_, rfl⟩
        rw [hX] at HRep c1 c2 c7 s1 s2
        clear hb0 hX hIv hap hea hal hm hlast s1 s2 s3 hrd hr0 hr32 hq0 hmem ham hal0 hne0 hSV hab hall
        go_enter Tryz.func6, Tryz.ntmps6
        go_wp2_with fail
        clear hV
        refine HAw.out.mono ?_
        rintro e w1 ⟨rfl, k1⟩
        go_wp2_with fail
        refine (HD.out _).mono ?_
        rintro e w2 ⟨hde, k2⟩
        obtain ⟨v1, rfl, -⟩ := show ∃ v, e = _ ∧ _ from hde
        clear hde
        have b2 := below_next k1 k2
        have f0 := (HCe.out _ b2).1
        have hv2 := hv2 b2

        go_wp2
        go_region_with (first | (go_at_call 17; (with_reducible refine (RL.out _).mono ?_); rintro e w5 ⟨A5, rfl, hA5, k5⟩; obtain ⟨b5, o5, rfl, hB5, hc5⟩ := hA5.some_ (by omega); have d5 : w5.cell? ⟨b5, o5 + kl, none⟩ = some (.string (str lang)) := hc5 kl lang HLg.out; have f0b := (k5.cell (p := ⟨w.heap.size, 0, none⟩) hv2).trans f0))
        all_goals
          have b5_ := below_next b2 (below_next (Below.refl w2.heap.size w2).drew k5)
          clear hc5 hA5 d5 f0b
          go_wp2_with fail
          refine (RA.out _).mono ?_
          rintro e w7 ⟨A7, n7, c7_, rfl, hA7, k7⟩
          obtain rfl : N = n7 := by rw [← hN]; exact hA7.len
          have b7 := below_next b5_ k7
          obtain ⟨b9_, o9, rfl, hB9, hc9⟩ := hA7.some_ (by omega)
          have d9 : w7.cell? ⟨b9_, o9 + j, none⟩ = some (.string (str a)) := hc9 j a HaJ.out
          have f1 := (HCe.out _ b7).2.1
          have f2 := (HCe.out _ b7).2.2
          clear hc9 hA7

          have b8 := b7

          go_wp2_with fail
          refine (HRep.out _).mono ?_
          rintro e w9 ⟨rfl, k9⟩
          have b9 := below_next b8 k9
          go_wp2_with fail
          refine (P2.out _ b9).mono ?_
          rintro e w10 ⟨rfl, k10⟩
          have b10 := below_next b9 k10
          go_wp2_with fail
          refine (P3.out _ b10).mono ?_
          rintro e w11 ⟨rfl, k11⟩
          go_wp2_with fail
          go_ret
          exact ⟨rfl, hbV.trans ((below_next b10 k11).mono hbV.size)⟩
      · have hap : apoB a = false := hap
        obtain ⟨w1_, w2_⟩ := art_each1 hmem ham (.inl rfl) hap hq0 hrd hr0 hr32
        have eT : str a ++ str (List.replicate q 32) ++ str r = str (a ++ (List.replicate q 32 ++ r)) := by rw [str_append, str_append, List.append_assoc]
        have P2 := Lib.hid (fun W (hW : Below V.heap.size V W) => prStrip9_any lang (a ++ (List.replicate q 32 ++ r)) W (hSV.below hW) (by omega) (by rw [List.length_append, List.length_append, List.length_replicate]; omega))
        have P3 := Lib.hid (fun W (hW : Below V.heap.size V W) => prInvert9_any lang (a ++ (List.replicate q 32 ++ r)) W (hSV.below hW) (by omega) (by rw [List.length_append, List.length_append, List.length_replicate]; omega))
        rw [w1_, ← eT] at P2
        rw [w2_, ← eT, hIv] at P3
        rw [hap] at q39
        clear w1_ w2_ eT
        obtain ⟨X, hX⟩ : ∃ X, List.replicate q (32 : UInt8) = X := ⟨_, rfl⟩
        rw [hX] at HRep c1 c2 c7 s1 s2 P2 P3
        clear hb0 hX hIv hap hea hal hm hlast s1 s2 s3 hrd hr0 hr32 hq0 hmem ham hal0 hne0 hSV hab hall
        go_enter Tryz.func6, Tryz.ntmps6
        go_wp2_with fail
        clear hV
        refine HAw.out.mono ?_
        rintro e w1 ⟨rfl, k1⟩
        go_wp2_with fail
        refine (HD.out _).mono ?_
        rintro e w2 ⟨hde, k2⟩
        obtain ⟨v1, rfl, -⟩ := show ∃ v, e = _ ∧ _ from hde
        clear hde
        have b2 := below_next k1 k2
        have f0 := (HCe.out _ b2).1
        have hv2 := hv2 b2

        go_wp2
        go_region_with (first | (go_at_call 17; (with_reducible refine (RL.out _).mono ?_); rintro e w5 ⟨A5, rfl, hA5, k5⟩; obtain ⟨b5, o5, rfl, hB5, hc5⟩ := hA5.some_ (by omega); have d5 : w5.cell? ⟨b5, o5 + kl, none⟩ = some (.string (str lang)) := hc5 kl lang HLg.out; have f0b := (k5.cell (p := ⟨w.heap.size, 0, none⟩) hv2).trans f0))
        all_goals
          have b5_ := below_next b2 (below_next (Below.refl w2.heap.size w2).drew k5)
          clear hc5 hA5 d5 f0b
          go_wp2_with fail
          refine (RA.out _).mono ?_
          rintro e w7 ⟨A7, n7, c7_, rfl, hA7, k7⟩
          obtain rfl : N = n7 := by rw [← hN]; exact hA7.len
          have b7 := below_next b5_ k7
          obtain ⟨b9_, o9, rfl, hB9, hc9⟩ := hA7.some_ (by omega)
          have d9 : w7.cell? ⟨b9_, o9 + j, none⟩ = some (.string (str a)) := hc9 j a HaJ.out
          have f1 := (HCe.out _ b7).2.1
          have f2 := (HCe.out _ b7).2.2
          clear hc9 hA7

          have b8 := b7

          go_wp2_with fail
          refine (HRep.out _).mono ?_
          rintro e w9 ⟨rfl, k9⟩
          have b9 := below_next b8 k9
          go_wp2_with fail
          refine (P2.out _ b9).mono ?_
          rintro e w10 ⟨rfl, k10⟩
          have b10 := below_next b9 k10
          go_wp2_with fail
          refine (P3.out _ b10).mono ?_
          rintro e w11 ⟨rfl, k11⟩
          go_wp2_with fail
          go_ret
          exact ⟨rfl, hbV.trans ((below_next b10 k11).mono hbV.size)⟩

end Go.Proofs.YtmgofhbdaopapaaGreatDoor
