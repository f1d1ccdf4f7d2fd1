/-
  The library's merging of two sorted parts.
-/
import Derived.Test.YtbnchnbblchmnaaGreatDoorPkAT
namespace Go.Proofs.YtbnchnbblchmnaaGreatDoor
open Go.RowKit

theorem SymC.calls {g off n c cap a m b : Nat} {P U V Q : List Nat} {w : World} (h : SymC g off n c cap a m b P U V Q w) :
    Calls Tryz.prog 168 #[.slice (some ⟨g, off, none⟩) n c, .int .i64 (a : Int), .int .i64 (m : Int), .int .i64 (b : Int), .func (.func 142) #[] #[]] w fun e w' => e = .returned (.tuple #[]) ∧ ∃ M, Srtd pcl (U ++ V) M ∧ Row w' g cap (P ++ (M ++ Q)) ∧ w.grownBy w' (some g) := h
theorem asc_nil_app {l m : List Nat} (hl : Asc pcl l) (hm : Asc pcl m) (h : l.length = 0 ∨ m.length = 0) : Asc pcl (l ++ m) := by
  rcases h with h | h
  · rw [List.length_eq_zero_iff.1 h]; exact hm
  · rw [List.length_eq_zero_iff.1 h, List.append_nil]; exact hl
theorem app_swap {l m : List Nat} (h : l.length = 0 ∨ m.length = 0) : l ++ m = m ++ l := by
  rcases h with h | h
  · rw [List.length_eq_zero_iff.1 h]; simp
  · rw [List.length_eq_zero_iff.1 h]; simp

set_option maxRecDepth 100000 in
set_option maxHeartbeats 25600000 in
theorem sym_step (g off n c cap a m b : Nat) (P U V Q : List Nat) (w : World) (hu1 : 1 < U.length) (hv1 : 1 < V.length) (hP : P.length = off + a) (hm : a + U.length = m) (hb : m + V.length = b) (hn : b ≤ n) (hsz : n ≤ 1000000000) (hU : Asc pcl U) (hV : Asc pcl V)
    (hrow : Row w g cap (P ++ (U ++ (V ++ Q))))
    (IH : ∀ (a m b : Nat) (P U' V' Q : List Nat) (w : World), U'.length + V'.length < U.length + V.length → 0 < U'.length → 0 < V'.length → P.length = off + a → a + U'.length = m → m + V'.length = b → b ≤ n → Asc pcl U' → Asc pcl V' →
      Row w g cap (P ++ (U' ++ (V' ++ Q))) → SymC g off n c cap a m b P U' V' Q w) : SymC g off n c cap a m b P U V Q w := by
  unfold SymC cmpV
  obtain ⟨u, hu⟩ : ∃ u, U.length = u := ⟨_, rfl⟩
  obtain ⟨v, hv⟩ : ∃ v, V.length = v := ⟨_, rfl⟩
  rw [hu] at hm hu1
  rw [hv] at hb hv1
  obtain ⟨h, hh⟩ : ∃ h, h = (u + v) / 2 := ⟨_, rfl⟩
  obtain ⟨mid, hmid⟩ : ∃ mid, mid = a + h := ⟨_, rfl⟩
  obtain ⟨nn, hnn⟩ : ∃ nn, nn = mid + m := ⟨_, rfl⟩
  obtain ⟨pp, hpp⟩ : ∃ pp, pp = nn - 1 := ⟨_, rfl⟩
  obtain ⟨s0, r0, hs0⟩ : ∃ s0 r0, (mid < m ∧ s0 + b = nn ∧ r0 = mid) ∨ (m ≤ mid ∧ s0 = a ∧ r0 = m) := by
    rcases Nat.lt_or_ge mid m with h1 | h1
    · exact ⟨nn - b, mid, .inl ⟨h1, by omega, rfl⟩⟩
    · exact ⟨a, m, .inr ⟨h1, rfl, rfl⟩⟩
  have HF : Hid (U.length = u ∧ V.length = v ∧ P.length = off + a ∧ a + u = m ∧ m + v = b ∧ h = (u + v) / 2 ∧ mid = a + h ∧ nn = mid + m ∧ pp + 1 = nn) := Lib.hid ⟨hu, hv, hP, hm, hb, hh, hmid, hnn, by omega⟩
  have HS0 := Lib.hid hs0
  have HIH := Lib.hid IH
  have HU := Lib.hid hU
  have HV := Lib.hid hV
  have HR := Lib.hid hrow
  have eab : ((a : Int) + (b : Int)) / 2 = (mid : Int) := by omega
  have enn : (mid : Int) + (m : Int) = (nn : Int) := by omega
  have epp : (nn : Int) - 1 = (pp : Int) := by omega
  have ea : ((m : Int) - (a : Int) == 1) = false := eqb_false (by omega)
  have ea2 : ¬ (m : Int) - (a : Int) = 1 := by omega
  have eb : ((b : Int) - (m : Int) == 1) = false := eqb_false (by omega)
  have eb2 : ¬ (b : Int) - (m : Int) = 1 := by omega
  have ham : a < m := by omega
  have hmb : m < b := by omega
  have hmd1 : a < mid := by omega
  have hmd2 : mid < b := by omega
  clear hu hv hP hm hb hh hmid hnn hpp IH hU hV hrow hu1 hv1
  rcases Nat.lt_or_ge mid m with hmm | hmm
  · have t2 : decide ((mid : Int) < (m : Int)) = true := by simp; omega
    have es0 : (nn : Int) - (b : Int) = (s0 : Int) := by omega
    clear hs0
    go_enter Tryz.func168, Tryz.ntmps168
    go_wp2
    go_loopw [20, 21, 23] (fun s20 s21 _ wr => ∃ st r q : Nat, s20 = .int .i64 (st : Int) ∧ s21 = .int .i64 (r : Int) ∧ a ≤ st ∧ st ≤ r ∧ r ≤ m ∧ r ≤ mid ∧ nn ≤ st + b ∧ wr = w.drewN q ∧
      Hid ((∀ t x y, h - v ≤ t → a + t < st → U[t]? = some x → V[h - 1 - t]? = some y → pcl x ≤ pcl y) ∧ (∀ t x y, r ≤ a + t → t < h → t < u → U[t]? = some x → V[h - 1 - t]? = some y → pcl y < pcl x))) (fun s20 s21 _ _ => (intOf s21).toNat - (intOf s20).toNat)
    case atStart =>
      have hf := HF.out
      have hs := HS0.out
      exact ⟨s0, r0, 0, value_int (by omega), value_int (by omega), by omega, by omega, by omega, by omega, by omega, rfl, Lib.hid ⟨fun t x y _ h2 => by omega, fun t x y h1 h2 h3 => by omega⟩⟩
    case round =>
      obtain ⟨st, r, q, rfl, rfl, has, hsr, hrm, hrmid, hnst, rfl, HI⟩ := hrel
      have hf := HF.out
      by_cases hlt : st < r
      · have t0 : decide ((st : Int) < (r : Int)) = true := by simp; omega
        obtain ⟨c0, hc0⟩ : ∃ c0, c0 = (st + r) / 2 := ⟨_, rfl⟩
        obtain ⟨pc, hpc⟩ : ∃ pc, pc = pp - c0 := ⟨_, rfl⟩
        have ec : ((st : Int) + (r : Int)) / 2 = (c0 : Int) := by omega
        have epc : (pp : Int) - (c0 : Int) = (pc : Int) := by omega
        have hsc : st ≤ c0 := by omega
        have hcr : c0 < r := by omega
        have hcn : (c0 : Int) < (n : Int) := by omega
        have hpcn : (pc : Int) < (n : Int) := by omega
        obtain ⟨x, hx⟩ := get_some (l := U) (i := c0 - a) (by omega)
        obtain ⟨y, hy⟩ := get_some (l := V) (i := h - 1 - (c0 - a)) (by omega)
        have dx : w.cell? ⟨g, off + c0, none⟩ = some (.int .i64 (x : Int)) := HR.out.cell (at_in (t := c0 - a) (by omega) hx)
        have dy : w.cell? ⟨g, off + pc, none⟩ = some (.int .i64 (y : Int)) := HR.out.cell (by
          rw [← List.append_assoc P U]
          exact at_in (t := h - 1 - (c0 - a)) (by rw [List.length_append]; omega) hy)
        have HC := Lib.hid (fun W => byClass_any y x W)
        obtain ⟨K, hK⟩ : ∃ K, cmpN (pcl y) (pcl x) = K := ⟨_, rfl⟩
        rw [hK] at HC
        by_cases hyx : pcl y < pcl x
        · have t3 : decide (K < 0) = true := by rw [← hK]; exact cmpN_neg hyx
          have HI2 : Hid ((∀ t x y, h - v ≤ t → a + t < st → U[t]? = some x → V[h - 1 - t]? = some y → pcl x ≤ pcl y) ∧ (∀ t x y, c0 ≤ a + t → t < h → t < u → U[t]? = some x → V[h - 1 - t]? = some y → pcl y < pcl x)) := Lib.hid ⟨HI.out.1, fun t x2 y2 h1 h2 h3 hx2 hy2 => by
            have := asc_get HU.out hx hx2 (by omega)
            have := asc_get HV.out hy2 hy (by omega)
            omega⟩
          clear hK hyx hx hy hc0 hpc hf
          go_wp2
          try rw [ec]
          go_big_quiet (first | (go_at_call_of 142 y; first | exact Calls.quiet_of (HC.out _) | exact quiet_add (HC.out _)))
          go_wp2
          go_roundw
          case rel => exact ⟨st, c0, q + nq, rfl, by go_num, has, hsc, by omega, by omega, hnst, by first | rfl | rw [World.drewN_drewN], HI2⟩
          case measure => simp [intOf]; omega
        · have t3 : decide (K < 0) = false := by rw [← hK]; exact cmpN_pos hyx
          have HI2 : Hid ((∀ t x y, h - v ≤ t → a + t < c0 + 1 → U[t]? = some x → V[h - 1 - t]? = some y → pcl x ≤ pcl y) ∧ (∀ t x y, r ≤ a + t → t < h → t < u → U[t]? = some x → V[h - 1 - t]? = some y → pcl y < pcl x)) := Lib.hid ⟨fun t x2 y2 h1 h2 hx2 hy2 => by
            have := asc_get HU.out hx2 hx (by omega)
            have := asc_get HV.out hy hy2 (by omega)
            omega, HI.out.2⟩
          clear hK hyx hx hy hc0 hpc hf
          go_wp2
          try rw [ec]
          go_big_quiet (first | (go_at_call_of 142 y; first | exact Calls.quiet_of (HC.out _) | exact quiet_add (HC.out _)))
          go_wp2
          go_roundw
          case rel => exact ⟨c0 + 1, r, q + nq, by go_num, rfl, by omega, by omega, hrm, hrmid, by omega, by first | rfl | rw [World.drewN_drewN], HI2⟩
          case measure => simp [intOf]; omega
      · obtain rfl : st = r := by omega
        obtain ⟨e, he⟩ : ∃ e, e = nn - st := ⟨_, rfl⟩
        have ee : (nn : Int) - (st : Int) = (e : Int) := by omega
        obtain ⟨hc1, hc2⟩ := sym_cut (cl := pcl) (U := U) (V := V) (h := h) (s := st - a) HU.out HV.out (by omega) (by omega) (by omega) (by omega) (fun t x y h1 h2 => HI.out.1 t x y (by omega) (by omega)) (fun t x y h1 h2 h3 => HI.out.2 t x y (by omega) h2 (by omega))
        obtain ⟨A1, hA1⟩ : ∃ A1, U.take (st - a) = A1 := ⟨_, rfl⟩
        obtain ⟨U2, hU2⟩ : ∃ U2, U.drop (st - a) = U2 := ⟨_, rfl⟩
        obtain ⟨V1, hV1⟩ : ∃ V1, V.take (h - (st - a)) = V1 := ⟨_, rfl⟩
        obtain ⟨V2, hV2⟩ : ∃ V2, V.drop (h - (st - a)) = V2 := ⟨_, rfl⟩
        have hUs : U = A1 ++ U2 := by rw [← hA1, ← hU2, List.take_append_drop]
        have hVs : V = V1 ++ V2 := by rw [← hV1, ← hV2, List.take_append_drop]
        have l1 : A1.length = st - a := by rw [← hA1, List.length_take]; omega
        have l2 : V1.length = h - (st - a) := by rw [← hV1, List.length_take]; omega
        have l3 : A1.length + U2.length = u := by rw [← hf.1, hUs, List.length_append]
        have l4 : V1.length + V2.length = v := by rw [← hf.2.1, hVs, List.length_append]
        rw [hU2, hV1] at hc1
        rw [hA1, hV2] at hc2
        have hAs := HU.out
        rw [hUs] at hAs
        have hAv := HV.out
        rw [hVs] at hAv
        have HMg : Hid (∀ M1 M2, Srtd pcl (A1 ++ V1) M1 → Srtd pcl (U2 ++ V2) M2 → Srtd pcl (U ++ V) (M1 ++ M2)) := Lib.hid (by
          intro M1 M2 h1 h2
          rw [hUs, hVs]
          exact srt_merge hAs hAv hc1 hc2 h1 h2)
        have HAs : Hid (Asc pcl A1 ∧ Asc pcl U2 ∧ Asc pcl V1 ∧ Asc pcl V2) := Lib.hid ⟨(asc_app.1 hAs).1, (asc_app.1 hAs).2.1, (asc_app.1 hAv).1, (asc_app.1 hAv).2.1⟩
        have HL : Hid (A1.length + a = st ∧ A1.length + U2.length = u ∧ st + V1.length = mid ∧ V1.length + V2.length = v ∧ e = m + V1.length ∧ e = mid + U2.length) := Lib.hid (by omega)
        have HR0 : Hid (Row (w.drewN q) g cap (P ++ (A1 ++ (U2 ++ (V1 ++ (V2 ++ Q)))))) := Lib.hid (HR.out.same (by rw [hUs, hVs]; simp only [List.append_assoc]))
        have hme : m ≤ e := by omega
        have hmide : mid ≤ e := by omega
        have heb : e ≤ b := by omega
        have hg0 : w.grownBy (w.drewN q) (some g) := grown_drewN (grown_refl _ _) _
        clear hUs hVs hA1 hU2 hV1 hV2 hc1 hc2 hAs hAv l1 l2 l3 l4 he hf HI
        by_cases h1 : st < m
        · by_cases h2 : m < e
          · have h3 : st < mid := by have := HL.out; have := HF.out; omega
            have h4 : mid < e := by have := HL.out; have := HF.out; omega
            by_cases h5 : a < st
            · by_cases h6 : e < b
              · skip
                have HC0 := Lib.hid (rotate_any g off n c cap st m e (.func (.func 142) #[] #[]) (P ++ A1) U2 V1 (V2 ++ Q) (w.drewN q) (by have := HL.out; have := HF.out; omega) (by have := HL.out; have := HF.out; omega) (by have := HL.out; have := HF.out; rw [List.length_append]; omega) (by have := HL.out; have := HF.out; omega) (by have := HL.out; omega) (by omega) hsz (HR0.out.same (by simp only [List.append_assoc])))
                go_wp2_with fail
                refine HC0.out.mono ?_
                rintro e0 w1 ⟨rfl, hr1, hgr1⟩
                have HR1 : Hid (Row w1 g cap (P ++ (A1 ++ (V1 ++ (U2 ++ (V2 ++ Q)))))) := Lib.hid (hr1.same (by simp only [List.append_assoc]))
                have hg1 := grown_trans hg0 hgr1
                clear hr1 hgr1
                have HC1 := Lib.hid (HIH.out a st mid P A1 V1 (U2 ++ (V2 ++ Q)) w1 (by have := HL.out; have := HF.out; omega) (by have := HL.out; omega) (by have := HL.out; omega) HF.out.2.2.1 (by have := HL.out; omega) (by have := HL.out; omega) (by omega) HAs.out.1 HAs.out.2.2.1 HR1.out).calls
                go_wp2_with fail
                refine HC1.out.mono ?_
                rintro e1 w2 ⟨rfl, M1, hs1, hr2, hgr2⟩
                have HS1 := Lib.hid hs1
                have HR2 := Lib.hid hr2
                have HL1 : Hid (M1.length = A1.length + V1.length) := Lib.hid (by rw [hs1.length, List.length_append])
                have hg2 := grown_trans hg1 hgr2
                clear hs1 hr2 hgr2
                have HC2 := Lib.hid (HIH.out mid e b (P ++ M1) U2 V2 Q w2 (by have := HL.out; have := HF.out; omega) (by have := HL.out; have := HF.out; omega) (by have := HL.out; have := HF.out; omega) (by have := HL.out; have := HF.out; have := HL1.out; rw [List.length_append]; omega) (by have := HL.out; omega) (by have := HL.out; have := HF.out; omega) (by omega) HAs.out.2.1 HAs.out.2.2.2 (HR2.out.same (by simp only [List.append_assoc]))).calls
                go_wp2_with fail
                refine HC2.out.mono ?_
                rintro e2 w3 ⟨rfl, M2, hs2, hr3, hgr3⟩
                have HS2 := Lib.hid hs2
                have HR3 : Hid (Row w3 g cap (P ++ ((M1 ++ M2) ++ Q))) := Lib.hid (hr3.same (by simp only [List.append_assoc]))
                have hg3 := grown_trans hg2 hgr3
                clear hs2 hr3 hgr3
                go_wp2
                go_end0
                exact ⟨rfl, M1 ++ M2, HMg.out _ _ HS1.out HS2.out, HR3.out, hg3⟩

              · skip
                have HC0 := Lib.hid (rotate_any g off n c cap st m e (.func (.func 142) #[] #[]) (P ++ A1) U2 V1 (V2 ++ Q) (w.drewN q) (by have := HL.out; have := HF.out; omega) (by have := HL.out; have := HF.out; omega) (by have := HL.out; have := HF.out; rw [List.length_append]; omega) (by have := HL.out; have := HF.out; omega) (by have := HL.out; omega) (by omega) hsz (HR0.out.same (by simp only [List.append_assoc])))
                go_wp2_with fail
                refine HC0.out.mono ?_
                rintro e0 w1 ⟨rfl, hr1, hgr1⟩
                have HR1 : Hid (Row w1 g cap (P ++ (A1 ++ (V1 ++ (U2 ++ (V2 ++ Q)))))) := Lib.hid (hr1.same (by simp only [List.append_assoc]))
                have hg1 := grown_trans hg0 hgr1
                clear hr1 hgr1
                have HC1 := Lib.hid (HIH.out a st mid P A1 V1 (U2 ++ (V2 ++ Q)) w1 (by have := HL.out; have := HF.out; omega) (by have := HL.out; omega) (by have := HL.out; omega) HF.out.2.2.1 (by have := HL.out; omega) (by have := HL.out; omega) (by omega) HAs.out.1 HAs.out.2.2.1 HR1.out).calls
                go_wp2_with fail
                refine HC1.out.mono ?_
                rintro e1 w2 ⟨rfl, M1, hs1, hr2, hgr2⟩
                have HS1 := Lib.hid hs1
                have HR2 := Lib.hid hr2
                have HL1 : Hid (M1.length = A1.length + V1.length) := Lib.hid (by rw [hs1.length, List.length_append])
                have hg2 := grown_trans hg1 hgr2
                clear hs1 hr2 hgr2
                have HS2 : Hid (Srtd pcl (U2 ++ V2) (U2 ++ V2)) := Lib.hid (Srtd.self (asc_nil_app HAs.out.2.1 HAs.out.2.2.2 (by have := HL.out; have := HF.out; omega)))
                go_wp2
                go_end0
                exact ⟨rfl, M1 ++ (U2 ++ V2), HMg.out _ _ HS1.out HS2.out, HR2.out.same (by simp only [List.append_assoc]), hg2⟩

            · by_cases h6 : e < b
              · skip
                have HC0 := Lib.hid (rotate_any g off n c cap st m e (.func (.func 142) #[] #[]) (P ++ A1) U2 V1 (V2 ++ Q) (w.drewN q) (by have := HL.out; have := HF.out; omega) (by have := HL.out; have := HF.out; omega) (by have := HL.out; have := HF.out; rw [List.length_append]; omega) (by have := HL.out; have := HF.out; omega) (by have := HL.out; omega) (by omega) hsz (HR0.out.same (by simp only [List.append_assoc])))
                go_wp2_with fail
                refine HC0.out.mono ?_
                rintro e0 w1 ⟨rfl, hr1, hgr1⟩
                have HR1 : Hid (Row w1 g cap (P ++ (A1 ++ (V1 ++ (U2 ++ (V2 ++ Q)))))) := Lib.hid (hr1.same (by simp only [List.append_assoc]))
                have hg1 := grown_trans hg0 hgr1
                clear hr1 hgr1
                obtain ⟨M1, HS1, HR2, HL1, hg2⟩ : ∃ M1, Hid (Srtd pcl (A1 ++ V1) M1) ∧ Hid (Row w1 g cap (P ++ (M1 ++ (U2 ++ (V2 ++ Q))))) ∧ Hid (M1.length = A1.length + V1.length) ∧ w.grownBy w1 (some g) :=
                  ⟨A1 ++ V1, Lib.hid (Srtd.self (asc_nil_app HAs.out.1 HAs.out.2.2.1 (by have := HL.out; omega))), Lib.hid (HR1.out.same (by simp only [List.append_assoc])), Lib.hid (List.length_append ..), hg1⟩
                have HC2 := Lib.hid (HIH.out mid e b (P ++ M1) U2 V2 Q w1 (by have := HL.out; have := HF.out; omega) (by have := HL.out; have := HF.out; omega) (by have := HL.out; have := HF.out; omega) (by have := HL.out; have := HF.out; have := HL1.out; rw [List.length_append]; omega) (by have := HL.out; omega) (by have := HL.out; have := HF.out; omega) (by omega) HAs.out.2.1 HAs.out.2.2.2 (HR2.out.same (by simp only [List.append_assoc]))).calls
                go_wp2_with fail
                refine HC2.out.mono ?_
                rintro e2 w3 ⟨rfl, M2, hs2, hr3, hgr3⟩
                have HS2 := Lib.hid hs2
                have HR3 : Hid (Row w3 g cap (P ++ ((M1 ++ M2) ++ Q))) := Lib.hid (hr3.same (by simp only [List.append_assoc]))
                have hg3 := grown_trans hg2 hgr3
                clear hs2 hr3 hgr3
                go_wp2
                go_end0
                exact ⟨rfl, M1 ++ M2, HMg.out _ _ HS1.out HS2.out, HR3.out, hg3⟩

              · skip
                have HC0 := Lib.hid (rotate_any g off n c cap st m e (.func (.func 142) #[] #[]) (P ++ A1) U2 V1 (V2 ++ Q) (w.drewN q) (by have := HL.out; have := HF.out; omega) (by have := HL.out; have := HF.out; omega) (by have := HL.out; have := HF.out; rw [List.length_append]; omega) (by have := HL.out; have := HF.out; omega) (by have := HL.out; omega) (by omega) hsz (HR0.out.same (by simp only [List.append_assoc])))
                go_wp2_with fail
                refine HC0.out.mono ?_
                rintro e0 w1 ⟨rfl, hr1, hgr1⟩
                have HR1 : Hid (Row w1 g cap (P ++ (A1 ++ (V1 ++ (U2 ++ (V2 ++ Q)))))) := Lib.hid (hr1.same (by simp only [List.append_assoc]))
                have hg1 := grown_trans hg0 hgr1
                clear hr1 hgr1
                obtain ⟨M1, HS1, HR2, HL1, hg2⟩ : ∃ M1, Hid (Srtd pcl (A1 ++ V1) M1) ∧ Hid (Row w1 g cap (P ++ (M1 ++ (U2 ++ (V2 ++ Q))))) ∧ Hid (M1.length = A1.length + V1.length) ∧ w.grownBy w1 (some g) :=
                  ⟨A1 ++ V1, Lib.hid (Srtd.self (asc_nil_app HAs.out.1 HAs.out.2.2.1 (by have := HL.out; omega))), Lib.hid (HR1.out.same (by simp only [List.append_assoc])), Lib.hid (List.length_append ..), hg1⟩
                have HS2 : Hid (Srtd pcl (U2 ++ V2) (U2 ++ V2)) := Lib.hid (Srtd.self (asc_nil_app HAs.out.2.1 HAs.out.2.2.2 (by have := HL.out; have := HF.out; omega)))
                go_wp2
                go_end0
                exact ⟨rfl, M1 ++ (U2 ++ V2), HMg.out _ _ HS1.out HS2.out, HR2.out.same (by simp only [List.append_assoc]), hg2⟩

          · have h3 : ¬ st < mid := by have := HL.out; have := HF.out; omega
            have h4 : mid < e := by have := HL.out; have := HF.out; omega
            have h6 : e < b := by have := HL.out; have := HF.out; omega
            by_cases h5 : a < st
            · skip
              have HR1 : Hid (Row (w.drewN q) g cap (P ++ (A1 ++ (V1 ++ (U2 ++ (V2 ++ Q)))))) := Lib.hid (HR0.out.same (by
                rw [← List.append_assoc U2, app_swap (l := U2) (m := V1) (by have := HL.out; omega), List.append_assoc]))
              have hg1 := hg0
              obtain ⟨M1, HS1, HR2, HL1, hg2⟩ : ∃ M1, Hid (Srtd pcl (A1 ++ V1) M1) ∧ Hid (Row (w.drewN q) g cap (P ++ (M1 ++ (U2 ++ (V2 ++ Q))))) ∧ Hid (M1.length = A1.length + V1.length) ∧ w.grownBy (w.drewN q) (some g) :=
                ⟨A1 ++ V1, Lib.hid (Srtd.self (asc_nil_app HAs.out.1 HAs.out.2.2.1 (by have := HL.out; omega))), Lib.hid (HR1.out.same (by simp only [List.append_assoc])), Lib.hid (List.length_append ..), hg1⟩
              have HC2 := Lib.hid (HIH.out mid e b (P ++ M1) U2 V2 Q (w.drewN q) (by have := HL.out; have := HF.out; omega) (by have := HL.out; have := HF.out; omega) (by have := HL.out; have := HF.out; omega) (by have := HL.out; have := HF.out; have := HL1.out; rw [List.length_append]; omega) (by have := HL.out; omega) (by have := HL.out; have := HF.out; omega) (by omega) HAs.out.2.1 HAs.out.2.2.2 (HR2.out.same (by simp only [List.append_assoc]))).calls
              go_wp2_with fail
              refine HC2.out.mono ?_
              rintro e2 w3 ⟨rfl, M2, hs2, hr3, hgr3⟩
              have HS2 := Lib.hid hs2
              have HR3 : Hid (Row w3 g cap (P ++ ((M1 ++ M2) ++ Q))) := Lib.hid (hr3.same (by simp only [List.append_assoc]))
              have hg3 := grown_trans hg2 hgr3
              clear hs2 hr3 hgr3
              go_wp2
              go_end0
              exact ⟨rfl, M1 ++ M2, HMg.out _ _ HS1.out HS2.out, HR3.out, hg3⟩

            · skip
              have HR1 : Hid (Row (w.drewN q) g cap (P ++ (A1 ++ (V1 ++ (U2 ++ (V2 ++ Q)))))) := Lib.hid (HR0.out.same (by
                rw [← List.append_assoc U2, app_swap (l := U2) (m := V1) (by have := HL.out; omega), List.append_assoc]))
              have hg1 := hg0
              obtain ⟨M1, HS1, HR2, HL1, hg2⟩ : ∃ M1, Hid (Srtd pcl (A1 ++ V1) M1) ∧ Hid (Row (w.drewN q) g cap (P ++ (M1 ++ (U2 ++ (V2 ++ Q))))) ∧ Hid (M1.length = A1.length + V1.length) ∧ w.grownBy (w.drewN q) (some g) :=
                ⟨A1 ++ V1, Lib.hid (Srtd.self (asc_nil_app HAs.out.1 HAs.out.2.2.1 (by have := HL.out; omega))), Lib.hid (HR1.out.same (by simp only [List.append_assoc])), Lib.hid (List.length_append ..), hg1⟩
              have HC2 := Lib.hid (HIH.out mid e b (P ++ M1) U2 V2 Q (w.drewN q) (by have := HL.out; have := HF.out; omega) (by have := HL.out; have := HF.out; omega) (by have := HL.out; have := HF.out; omega) (by have := HL.out; have := HF.out; have := HL1.out; rw [List.length_append]; omega) (by have := HL.out; omega) (by have := HL.out; have := HF.out; omega) (by omega) HAs.out.2.1 HAs.out.2.2.2 (HR2.out.same (by simp only [List.append_assoc]))).calls
              go_wp2_with fail
              refine HC2.out.mono ?_
              rintro e2 w3 ⟨rfl, M2, hs2, hr3, hgr3⟩
              have HS2 := Lib.hid hs2
              have HR3 : Hid (Row w3 g cap (P ++ ((M1 ++ M2) ++ Q))) := Lib.hid (hr3.same (by simp only [List.append_assoc]))
              have hg3 := grown_trans hg2 hgr3
              clear hs2 hr3 hgr3
              go_wp2
              go_end0
              exact ⟨rfl, M1 ++ M2, HMg.out _ _ HS1.out HS2.out, HR3.out, hg3⟩

        · have h5 : a < st := by have := HL.out; have := HF.out; omega
          have h4 : ¬ mid < e := by have := HL.out; have := HF.out; omega
          by_cases h3 : st < mid
          · skip
            have HR1 : Hid (Row (w.drewN q) g cap (P ++ (A1 ++ (V1 ++ (U2 ++ (V2 ++ Q)))))) := Lib.hid (HR0.out.same (by
              rw [← List.append_assoc U2, app_swap (l := U2) (m := V1) (by have := HL.out; omega), List.append_assoc]))
            have hg1 := hg0
            have HC1 := Lib.hid (HIH.out a st mid P A1 V1 (U2 ++ (V2 ++ Q)) (w.drewN q) (by have := HL.out; have := HF.out; omega) (by have := HL.out; omega) (by have := HL.out; omega) HF.out.2.2.1 (by have := HL.out; omega) (by have := HL.out; omega) (by omega) HAs.out.1 HAs.out.2.2.1 HR1.out).calls
            go_wp2_with fail
            refine HC1.out.mono ?_
            rintro e1 w2 ⟨rfl, M1, hs1, hr2, hgr2⟩
            have HS1 := Lib.hid hs1
            have HR2 := Lib.hid hr2
            have HL1 : Hid (M1.length = A1.length + V1.length) := Lib.hid (by rw [hs1.length, List.length_append])
            have hg2 := grown_trans hg1 hgr2
            clear hs1 hr2 hgr2
            have HS2 : Hid (Srtd pcl (U2 ++ V2) (U2 ++ V2)) := Lib.hid (Srtd.self (asc_nil_app HAs.out.2.1 HAs.out.2.2.2 (by have := HL.out; have := HF.out; omega)))
            go_wp2
            go_end0
            exact ⟨rfl, M1 ++ (U2 ++ V2), HMg.out _ _ HS1.out HS2.out, HR2.out.same (by simp only [List.append_assoc]), hg2⟩

          · skip
            have HR1 : Hid (Row (w.drewN q) g cap (P ++ (A1 ++ (V1 ++ (U2 ++ (V2 ++ Q)))))) := Lib.hid (HR0.out.same (by
              rw [← List.append_assoc U2, app_swap (l := U2) (m := V1) (by have := HL.out; omega), List.append_assoc]))
            have hg1 := hg0
            obtain ⟨M1, HS1, HR2, HL1, hg2⟩ : ∃ M1, Hid (Srtd pcl (A1 ++ V1) M1) ∧ Hid (Row (w.drewN q) g cap (P ++ (M1 ++ (U2 ++ (V2 ++ Q))))) ∧ Hid (M1.length = A1.length + V1.length) ∧ w.grownBy (w.drewN q) (some g) :=
              ⟨A1 ++ V1, Lib.hid (Srtd.self (asc_nil_app HAs.out.1 HAs.out.2.2.1 (by have := HL.out; omega))), Lib.hid (HR1.out.same (by simp only [List.append_assoc])), Lib.hid (List.length_append ..), hg1⟩
            have HS2 : Hid (Srtd pcl (U2 ++ V2) (U2 ++ V2)) := Lib.hid (Srtd.self (asc_nil_app HAs.out.2.1 HAs.out.2.2.2 (by have := HL.out; have := HF.out; omega)))
            go_wp2
            go_end0
            exact ⟨rfl, M1 ++ (U2 ++ V2), HMg.out _ _ HS1.out HS2.out, HR2.out.same (by simp only [List.append_assoc]), hg2⟩



  · have t2 : decide ((mid : Int) < (m : Int)) = false := by simp; omega
    have hmm2 : ¬ mid < m := by omega
    clear hs0
    go_enter Tryz.func168, Tryz.ntmps168
    go_wp2
    go_loopw [20, 21, 23] (fun s20 s21 _ wr => ∃ st r q : Nat, s20 = .int .i64 (st : Int) ∧ s21 = .int .i64 (r : Int) ∧ a ≤ st ∧ st ≤ r ∧ r ≤ m ∧ r ≤ mid ∧ nn ≤ st + b ∧ wr = w.drewN q ∧
      Hid ((∀ t x y, h - v ≤ t → a + t < st → U[t]? = some x → V[h - 1 - t]? = some y → pcl x ≤ pcl y) ∧ (∀ t x y, r ≤ a + t → t < h → t < u → U[t]? = some x → V[h - 1 - t]? = some y → pcl y < pcl x))) (fun s20 s21 _ _ => (intOf s21).toNat - (intOf s20).toNat)
    case atStart =>
      have hf := HF.out
      have hs := HS0.out
      exact ⟨s0, r0, 0, value_int (by omega), value_int (by omega), by omega, by omega, by omega, by omega, by omega, rfl, Lib.hid ⟨fun t x y _ h2 => by omega, fun t x y h1 h2 h3 => by omega⟩⟩
    case round =>
      obtain ⟨st, r, q, rfl, rfl, has, hsr, hrm, hrmid, hnst, rfl, HI⟩ := hrel
      have hf := HF.out
      by_cases hlt : st < r
      · have t0 : decide ((st : Int) < (r : Int)) = true := by simp; omega
        obtain ⟨c0, hc0⟩ : ∃ c0, c0 = (st + r) / 2 := ⟨_, rfl⟩
        obtain ⟨pc, hpc⟩ : ∃ pc, pc = pp - c0 := ⟨_, rfl⟩
        have ec : ((st : Int) + (r : Int)) / 2 = (c0 : Int) := by omega
        have epc : (pp : Int) - (c0 : Int) = (pc : Int) := by omega
        have hsc : st ≤ c0 := by omega
        have hcr : c0 < r := by omega
        have hcn : (c0 : Int) < (n : Int) := by omega
        have hpcn : (pc : Int) < (n : Int) := by omega
        obtain ⟨x, hx⟩ := get_some (l := U) (i := c0 - a) (by omega)
        obtain ⟨y, hy⟩ := get_some (l := V) (i := h - 1 - (c0 - a)) (by omega)
        have dx : w.cell? ⟨g, off + c0, none⟩ = some (.int .i64 (x : Int)) := HR.out.cell (at_in (t := c0 - a) (by omega) hx)
        have dy : w.cell? ⟨g, off + pc, none⟩ = some (.int .i64 (y : Int)) := HR.out.cell (by
          rw [← List.append_assoc P U]
          exact at_in (t := h - 1 - (c0 - a)) (by rw [List.length_append]; omega) hy)
        have HC := Lib.hid (fun W => byClass_any y x W)
        obtain ⟨K, hK⟩ : ∃ K, cmpN (pcl y) (pcl x) = K := ⟨_, rfl⟩
        rw [hK] at HC
        by_cases hyx : pcl y < pcl x
        · have t3 : decide (K < 0) = true := by rw [← hK]; exact cmpN_neg hyx
          have HI2 : Hid ((∀ t x y, h - v ≤ t → a + t < st → U[t]? = some x → V[h - 1 - t]? = some y → pcl x ≤ pcl y) ∧ (∀ t x y, c0 ≤ a + t → t < h → t < u → U[t]? = some x → V[h - 1 - t]? = some y → pcl y < pcl x)) := Lib.hid ⟨HI.out.1, fun t x2 y2 h1 h2 h3 hx2 hy2 => by
            have := asc_get HU.out hx hx2 (by omega)
            have := asc_get HV.out hy2 hy (by omega)
            omega⟩
          clear hK hyx hx hy hc0 hpc hf
          go_wp2
          try rw [ec]
          go_big_quiet (first | (go_at_call_of 142 y; first | exact Calls.quiet_of (HC.out _) | exact quiet_add (HC.out _)))
          go_wp2
          go_roundw
          case rel => exact ⟨st, c0, q + nq, rfl, by go_num, has, hsc, by omega, by omega, hnst, by first | rfl | rw [World.drewN_drewN], HI2⟩
          case measure => simp [intOf]; omega
        · have t3 : decide (K < 0) = false := by rw [← hK]; exact cmpN_pos hyx
          have HI2 : Hid ((∀ t x y, h - v ≤ t → a + t < c0 + 1 → U[t]? = some x → V[h - 1 - t]? = some y → pcl x ≤ pcl y) ∧ (∀ t x y, r ≤ a + t → t < h → t < u → U[t]? = some x → V[h - 1 - t]? = some y → pcl y < pcl x)) := Lib.hid ⟨fun t x2 y2 h1 h2 hx2 hy2 => by
            have := asc_get HU.out hx2 hx (by omega)
            have := asc_get HV.out hy hy2 (by omega)
            omega, HI.out.2⟩
          clear hK hyx hx hy hc0 hpc hf
          go_wp2
          try rw [ec]
          go_big_quiet (first | (go_at_call_of 142 y; first | exact Calls.quiet_of (HC.out _) | exact quiet_add (HC.out _)))
          go_wp2
          go_roundw
          case rel => exact ⟨c0 + 1, r, q + nq, by go_num, rfl, by omega, by omega, hrm, hrmid, by omega, by first | rfl | rw [World.drewN_drewN], HI2⟩
          case measure => simp [intOf]; omega
      · obtain rfl : st = r := by omega
        obtain ⟨e, he⟩ : ∃ e, e = nn - st := ⟨_, rfl⟩
        have ee : (nn : Int) - (st : Int) = (e : Int) := by omega
        obtain ⟨hc1, hc2⟩ := sym_cut (cl := pcl) (U := U) (V := V) (h := h) (s := st - a) HU.out HV.out (by omega) (by omega) (by omega) (by omega) (fun t x y h1 h2 => HI.out.1 t x y (by omega) (by omega)) (fun t x y h1 h2 h3 => HI.out.2 t x y (by omega) h2 (by omega))
        obtain ⟨A1, hA1⟩ : ∃ A1, U.take (st - a) = A1 := ⟨_, rfl⟩
        obtain ⟨U2, hU2⟩ : ∃ U2, U.drop (st - a) = U2 := ⟨_, rfl⟩
        obtain ⟨V1, hV1⟩ : ∃ V1, V.take (h - (st - a)) = V1 := ⟨_, rfl⟩
        obtain ⟨V2, hV2⟩ : ∃ V2, V.drop (h - (st - a)) = V2 := ⟨_, rfl⟩
        have hUs : U = A1 ++ U2 := by rw [← hA1, ← hU2, List.take_append_drop]
        have hVs : V = V1 ++ V2 := by rw [← hV1, ← hV2, List.take_append_drop]
        have l1 : A1.length = st - a := by rw [← hA1, List.length_take]; omega
        have l2 : V1.length = h - (st - a) := by rw [← hV1, List.length_take]; omega
        have l3 : A1.length + U2.length = u := by rw [← hf.1, hUs, List.length_append]
        have l4 : V1.length + V2.length = v := by rw [← hf.2.1, hVs, List.length_append]
        rw [hU2, hV1] at hc1
        rw [hA1, hV2] at hc2
        have hAs := HU.out
        rw [hUs] at hAs
        have hAv := HV.out
        rw [hVs] at hAv
        have HMg : Hid (∀ M1 M2, Srtd pcl (A1 ++ V1) M1 → Srtd pcl (U2 ++ V2) M2 → Srtd pcl (U ++ V) (M1 ++ M2)) := Lib.hid (by
          intro M1 M2 h1 h2
          rw [hUs, hVs]
          exact srt_merge hAs hAv hc1 hc2 h1 h2)
        have HAs : Hid (Asc pcl A1 ∧ Asc pcl U2 ∧ Asc pcl V1 ∧ Asc pcl V2) := Lib.hid ⟨(asc_app.1 hAs).1, (asc_app.1 hAs).2.1, (asc_app.1 hAv).1, (asc_app.1 hAv).2.1⟩
        have HL : Hid (A1.length + a = st ∧ A1.length + U2.length = u ∧ st + V1.length = mid ∧ V1.length + V2.length = v ∧ e = m + V1.length ∧ e = mid + U2.length) := Lib.hid (by omega)
        have HR0 : Hid (Row (w.drewN q) g cap (P ++ (A1 ++ (U2 ++ (V1 ++ (V2 ++ Q)))))) := Lib.hid (HR.out.same (by rw [hUs, hVs]; simp only [List.append_assoc]))
        have hme : m ≤ e := by omega
        have hmide : mid ≤ e := by omega
        have heb : e ≤ b := by omega
        have hg0 : w.grownBy (w.drewN q) (some g) := grown_drewN (grown_refl _ _) _
        clear hUs hVs hA1 hU2 hV1 hV2 hc1 hc2 hAs hAv l1 l2 l3 l4 he hf HI
        by_cases h1 : st < m
        · by_cases h2 : m < e
          · have h3 : st < mid := by have := HL.out; have := HF.out; omega
            have h4 : mid < e := by have := HL.out; have := HF.out; omega
            by_cases h5 : a < st
            · by_cases h6 : e < b
              · skip
                have HC0 := Lib.hid (rotate_any g off n c cap st m e (.func (.func 142) #[] #[]) (P ++ A1) U2 V1 (V2 ++ Q) (w.drewN q) (by have := HL.out; have := HF.out; omega) (by have := HL.out; have := HF.out; omega) (by have := HL.out; have := HF.out; rw [List.length_append]; omega) (by have := HL.out; have := HF.out; omega) (by have := HL.out; omega) (by omega) hsz (HR0.out.same (by simp only [List.append_assoc])))
                go_wp2_with fail
                refine HC0.out.mono ?_
                rintro e0 w1 ⟨rfl, hr1, hgr1⟩
                have HR1 : Hid (Row w1 g cap (P ++ (A1 ++ (V1 ++ (U2 ++ (V2 ++ Q)))))) := Lib.hid (hr1.same (by simp only [List.append_assoc]))
                have hg1 := grown_trans hg0 hgr1
                clear hr1 hgr1
                have HC1 := Lib.hid (HIH.out a st mid P A1 V1 (U2 ++ (V2 ++ Q)) w1 (by have := HL.out; have := HF.out; omega) (by have := HL.out; omega) (by have := HL.out; omega) HF.out.2.2.1 (by have := HL.out; omega) (by have := HL.out; omega) (by omega) HAs.out.1 HAs.out.2.2.1 HR1.out).calls
                go_wp2_with fail
                refine HC1.out.mono ?_
                rintro e1 w2 ⟨rfl, M1, hs1, hr2, hgr2⟩
                have HS1 := Lib.hid hs1
                have HR2 := Lib.hid hr2
                have HL1 : Hid (M1.length = A1.length + V1.length) := Lib.hid (by rw [hs1.length, List.length_append])
                have hg2 := grown_trans hg1 hgr2
                clear hs1 hr2 hgr2
                have HC2 := Lib.hid (HIH.out mid e b (P ++ M1) U2 V2 Q w2 (by have := HL.out; have := HF.out; omega) (by have := HL.out; have := HF.out; omega) (by have := HL.out; have := HF.out; omega) (by have := HL.out; have := HF.out; have := HL1.out; rw [List.length_append]; omega) (by have := HL.out; omega) (by have := HL.out; have := HF.out; omega) (by omega) HAs.out.2.1 HAs.out.2.2.2 (HR2.out.same (by simp only [List.append_assoc]))).calls
                go_wp2_with fail
                refine HC2.out.mono ?_
                rintro e2 w3 ⟨rfl, M2, hs2, hr3, hgr3⟩
                have HS2 := Lib.hid hs2
                have HR3 : Hid (Row w3 g cap (P ++ ((M1 ++ M2) ++ Q))) := Lib.hid (hr3.same (by simp only [List.append_assoc]))
                have hg3 := grown_trans hg2 hgr3
                clear hs2 hr3 hgr3
                go_wp2
                go_end0
                exact ⟨rfl, M1 ++ M2, HMg.out _ _ HS1.out HS2.out, HR3.out, hg3⟩

              · skip
                have HC0 := Lib.hid (rotate_any g off n c cap st m e (.func (.func 142) #[] #[]) (P ++ A1) U2 V1 (V2 ++ Q) (w.drewN q) (by have := HL.out; have := HF.out; omega) (by have := HL.out; have := HF.out; omega) (by have := HL.out; have := HF.out; rw [List.length_append]; omega) (by have := HL.out; have := HF.out; omega) (by have := HL.out; omega) (by omega) hsz (HR0.out.same (by simp only [List.append_assoc])))
                go_wp2_with fail
                refine HC0.out.mono ?_
                rintro e0 w1 ⟨rfl, hr1, hgr1⟩
                have HR1 : Hid (Row w1 g cap (P ++ (A1 ++ (V1 ++ (U2 ++ (V2 ++ Q)))))) := Lib.hid (hr1.same (by simp only [List.append_assoc]))
                have hg1 := grown_trans hg0 hgr1
                clear hr1 hgr1
                have HC1 := Lib.hid (HIH.out a st mid P A1 V1 (U2 ++ (V2 ++ Q)) w1 (by have := HL.out; have := HF.out; omega) (by have := HL.out; omega) (by have := HL.out; omega) HF.out.2.2.1 (by have := HL.out; omega) (by have := HL.out; omega) (by omega) HAs.out.1 HAs.out.2.2.1 HR1.out).calls
                go_wp2_with fail
                refine HC1.out.mono ?_
                rintro e1 w2 ⟨rfl, M1, hs1, hr2, hgr2⟩
                have HS1 := Lib.hid hs1
                have HR2 := Lib.hid hr2
                have HL1 : Hid (M1.length = A1.length + V1.length) := Lib.hid (by rw [hs1.length, List.length_append])
                have hg2 := grown_trans hg1 hgr2
                clear hs1 hr2 hgr2
                have HS2 : Hid (Srtd pcl (U2 ++ V2) (U2 ++ V2)) := Lib.hid (Srtd.self (asc_nil_app HAs.out.2.1 HAs.out.2.2.2 (by have := HL.out; have := HF.out; omega)))
                go_wp2
                go_end0
                exact ⟨rfl, M1 ++ (U2 ++ V2), HMg.out _ _ HS1.out HS2.out, HR2.out.same (by simp only [List.append_assoc]), hg2⟩

            · by_cases h6 : e < b
              · skip
                have HC0 := Lib.hid (rotate_any g off n c cap st m e (.func (.func 142) #[] #[]) (P ++ A1) U2 V1 (V2 ++ Q) (w.drewN q) (by have := HL.out; have := HF.out; omega) (by have := HL.out; have := HF.out; omega) (by have := HL.out; have := HF.out; rw [List.length_append]; omega) (by have := HL.out; have := HF.out; omega) (by have := HL.out; omega) (by omega) hsz (HR0.out.same (by simp only [List.append_assoc])))
                go_wp2_with fail
                refine HC0.out.mono ?_
                rintro e0 w1 ⟨rfl, hr1, hgr1⟩
                have HR1 : Hid (Row w1 g cap (P ++ (A1 ++ (V1 ++ (U2 ++ (V2 ++ Q)))))) := Lib.hid (hr1.same (by simp only [List.append_assoc]))
                have hg1 := grown_trans hg0 hgr1
                clear hr1 hgr1
                obtain ⟨M1, HS1, HR2, HL1, hg2⟩ : ∃ M1, Hid (Srtd pcl (A1 ++ V1) M1) ∧ Hid (Row w1 g cap (P ++ (M1 ++ (U2 ++ (V2 ++ Q))))) ∧ Hid (M1.length = A1.length + V1.length) ∧ w.grownBy w1 (some g) :=
                  ⟨A1 ++ V1, Lib.hid (Srtd.self (asc_nil_app HAs.out.1 HAs.out.2.2.1 (by have := HL.out; omega))), Lib.hid (HR1.out.same (by simp only [List.append_assoc])), Lib.hid (List.length_append ..), hg1⟩
                have HC2 := Lib.hid (HIH.out mid e b (P ++ M1) U2 V2 Q w1 (by have := HL.out; have := HF.out; omega) (by have := HL.out; have := HF.out; omega) (by have := HL.out; have := HF.out; omega) (by have := HL.out; have := HF.out; have := HL1.out; rw [List.length_append]; omega) (by have := HL.out; omega) (by have := HL.out; have := HF.out; omega) (by omega) HAs.out.2.1 HAs.out.2.2.2 (HR2.out.same (by simp only [List.append_assoc]))).calls
                go_wp2_with fail
                refine HC2.out.mono ?_
                rintro e2 w3 ⟨rfl, M2, hs2, hr3, hgr3⟩
                have HS2 := Lib.hid hs2
                have HR3 : Hid (Row w3 g cap (P ++ ((M1 ++ M2) ++ Q))) := Lib.hid (hr3.same (by simp only [List.append_assoc]))
                have hg3 := grown_trans hg2 hgr3
                clear hs2 hr3 hgr3
                go_wp2
                go_end0
                exact ⟨rfl, M1 ++ M2, HMg.out _ _ HS1.out HS2.out, HR3.out, hg3⟩

              · skip
                have HC0 := Lib.hid (rotate_any g off n c cap st m e (.func (.func 142) #[] #[]) (P ++ A1) U2 V1 (V2 ++ Q) (w.drewN q) (by have := HL.out; have := HF.out; omega) (by have := HL.out; have := HF.out; omega) (by have := HL.out; have := HF.out; rw [List.length_append]; omega) (by have := HL.out; have := HF.out; omega) (by have := HL.out; omega) (by omega) hsz (HR0.out.same (by simp only [List.append_assoc])))
                go_wp2_with fail
                refine HC0.out.mono ?_
                rintro e0 w1 ⟨rfl, hr1, hgr1⟩
                have HR1 : Hid (Row w1 g cap (P ++ (A1 ++ (V1 ++ (U2 ++ (V2 ++ Q)))))) := Lib.hid (hr1.same (by simp only [List.append_assoc]))
                have hg1 := grown_trans hg0 hgr1
                clear hr1 hgr1
                obtain ⟨M1, HS1, HR2, HL1, hg2⟩ : ∃ M1, Hid (Srtd pcl (A1 ++ V1) M1) ∧ Hid (Row w1 g cap (P ++ (M1 ++ (U2 ++ (V2 ++ Q))))) ∧ Hid (M1.length = A1.length + V1.length) ∧ w.grownBy w1 (some g) :=
                  ⟨A1 ++ V1, Lib.hid (Srtd.self (asc_nil_app HAs.out.1 HAs.out.2.2.1 (by have := HL.out; omega))), Lib.hid (HR1.out.same (by simp only [List.append_assoc])), Lib.hid (List.length_append ..), hg1⟩
                have HS2 : Hid (Srtd pcl (U2 ++ V2) (U2 ++ V2)) := Lib.hid (Srtd.self (asc_nil_app HAs.out.2.1 HAs.out.2.2.2 (by have := HL.out; have := HF.out; omega)))
                go_wp2
                go_end0
                exact ⟨rfl, M1 ++ (U2 ++ V2), HMg.out _ _ HS1.out HS2.out, HR2.out.same (by simp only [List.append_assoc]), hg2⟩

          · have h3 : ¬ st < mid := by have := HL.out; have := HF.out; omega
            have h4 : mid < e := by have := HL.out; have := HF.out; omega
            have h6 : e < b := by have := HL.out; have := HF.out; omega
            by_cases h5 : a < st
            · skip
              have HR1 : Hid (Row (w.drewN q) g cap (P ++ (A1 ++ (V1 ++ (U2 ++ (V2 ++ Q)))))) := Lib.hid (HR0.out.same (by
                rw [← List.append_assoc U2, app_swap (l := U2) (m := V1) (by have := HL.out; omega), List.append_assoc]))
              have hg1 := hg0
              obtain ⟨M1, HS1, HR2, HL1, hg2⟩ : ∃ M1, Hid (Srtd pcl (A1 ++ V1) M1) ∧ Hid (Row (w.drewN q) g cap (P ++ (M1 ++ (U2 ++ (V2 ++ Q))))) ∧ Hid (M1.length = A1.length + V1.length) ∧ w.grownBy (w.drewN q) (some g) :=
                ⟨A1 ++ V1, Lib.hid (Srtd.self (asc_nil_app HAs.out.1 HAs.out.2.2.1 (by have := HL.out; omega))), Lib.hid (HR1.out.same (by simp only [List.append_assoc])), Lib.hid (List.length_append ..), hg1⟩
              have HC2 := Lib.hid (HIH.out mid e b (P ++ M1) U2 V2 Q (w.drewN q) (by have := HL.out; have := HF.out; omega) (by have := HL.out; have := HF.out; omega) (by have := HL.out; have := HF.out; omega) (by have := HL.out; have := HF.out; have := HL1.out; rw [List.length_append]; omega) (by have := HL.out; omega) (by have := HL.out; have := HF.out; omega) (by omega) HAs.out.2.1 HAs.out.2.2.2 (HR2.out.same (by simp only [List.append_assoc]))).calls
              go_wp2_with fail
              refine HC2.out.mono ?_
              rintro e2 w3 ⟨rfl, M2, hs2, hr3, hgr3⟩
              have HS2 := Lib.hid hs2
              have HR3 : Hid (Row w3 g cap (P ++ ((M1 ++ M2) ++ Q))) := Lib.hid (hr3.same (by simp only [List.append_assoc]))
              have hg3 := grown_trans hg2 hgr3
              clear hs2 hr3 hgr3
              go_wp2
              go_end0
              exact ⟨rfl, M1 ++ M2, HMg.out _ _ HS1.out HS2.out, HR3.out, hg3⟩

            · skip
              have HR1 : Hid (Row (w.drewN q) g cap (P ++ (A1 ++ (V1 ++ (U2 ++ (V2 ++ Q)))))) := Lib.hid (HR0.out.same (by
                rw [← List.append_assoc U2, app_swap (l := U2) (m := V1) (by have := HL.out; omega), List.append_assoc]))
              have hg1 := hg0
              obtain ⟨M1, HS1, HR2, HL1, hg2⟩ : ∃ M1, Hid (Srtd pcl (A1 ++ V1) M1) ∧ Hid (Row (w.drewN q) g cap (P ++ (M1 ++ (U2 ++ (V2 ++ Q))))) ∧ Hid (M1.length = A1.length + V1.length) ∧ w.grownBy (w.drewN q) (some g) :=
                ⟨A1 ++ V1, Lib.hid (Srtd.self (asc_nil_app HAs.out.1 HAs.out.2.2.1 (by have := HL.out; omega))), Lib.hid (HR1.out.same (by simp only [List.append_assoc])), Lib.hid (List.length_append ..), hg1⟩
              have HC2 := Lib.hid (HIH.out mid e b (P ++ M1) U2 V2 Q (w.drewN q) (by have := HL.out; have := HF.out; omega) (by have := HL.out; have := HF.out; omega) (by have := HL.out; have := HF.out; omega) (by have := HL.out; have := HF.out; have := HL1.out; rw [List.length_append]; omega) (by have := HL.out; omega) (by have := HL.out; have := HF.out; omega) (by omega) HAs.out.2.1 HAs.out.2.2.2 (HR2.out.same (by simp only [List.append_assoc]))).calls
              go_wp2_with fail
              refine HC2.out.mono ?_
              rintro e2 w3 ⟨rfl, M2, hs2, hr3, hgr3⟩
              have HS2 := Lib.hid hs2
              have HR3 : Hid (Row w3 g cap (P ++ ((M1 ++ M2) ++ Q))) := Lib.hid (hr3.same (by simp only [List.append_assoc]))
              have hg3 := grown_trans hg2 hgr3
              clear hs2 hr3 hgr3
              go_wp2
              go_end0
              exact ⟨rfl, M1 ++ M2, HMg.out _ _ HS1.out HS2.out, HR3.out, hg3⟩

        · have h5 : a < st := by have := HL.out; have := HF.out; omega
          have h4 : ¬ mid < e := by have := HL.out; have := HF.out; omega
          by_cases h3 : st < mid
          · skip
            have HR1 : Hid (Row (w.drewN q) g cap (P ++ (A1 ++ (V1 ++ (U2 ++ (V2 ++ Q)))))) := Lib.hid (HR0.out.same (by
              rw [← List.append_assoc U2, app_swap (l := U2) (m := V1) (by have := HL.out; omega), List.append_assoc]))
            have hg1 := hg0
            have HC1 := Lib.hid (HIH.out a st mid P A1 V1 (U2 ++ (V2 ++ Q)) (w.drewN q) (by have := HL.out; have := HF.out; omega) (by have := HL.out; omega) (by have := HL.out; omega) HF.out.2.2.1 (by have := HL.out; omega) (by have := HL.out; omega) (by omega) HAs.out.1 HAs.out.2.2.1 HR1.out).calls
            go_wp2_with fail
            refine HC1.out.mono ?_
            rintro e1 w2 ⟨rfl, M1, hs1, hr2, hgr2⟩
            have HS1 := Lib.hid hs1
            have HR2 := Lib.hid hr2
            have HL1 : Hid (M1.length = A1.length + V1.length) := Lib.hid (by rw [hs1.length, List.length_append])
            have hg2 := grown_trans hg1 hgr2
            clear hs1 hr2 hgr2
            have HS2 : Hid (Srtd pcl (U2 ++ V2) (U2 ++ V2)) := Lib.hid (Srtd.self (asc_nil_app HAs.out.2.1 HAs.out.2.2.2 (by have := HL.out; have := HF.out; omega)))
            go_wp2
            go_end0
            exact ⟨rfl, M1 ++ (U2 ++ V2), HMg.out _ _ HS1.out HS2.out, HR2.out.same (by simp only [List.append_assoc]), hg2⟩

          · skip
            have HR1 : Hid (Row (w.drewN q) g cap (P ++ (A1 ++ (V1 ++ (U2 ++ (V2 ++ Q)))))) := Lib.hid (HR0.out.same (by
              rw [← List.append_assoc U2, app_swap (l := U2) (m := V1) (by have := HL.out; omega), List.append_assoc]))
            have hg1 := hg0
            obtain ⟨M1, HS1, HR2, HL1, hg2⟩ : ∃ M1, Hid (Srtd pcl (A1 ++ V1) M1) ∧ Hid (Row (w.drewN q) g cap (P ++ (M1 ++ (U2 ++ (V2 ++ Q))))) ∧ Hid (M1.length = A1.length + V1.length) ∧ w.grownBy (w.drewN q) (some g) :=
              ⟨A1 ++ V1, Lib.hid (Srtd.self (asc_nil_app HAs.out.1 HAs.out.2.2.1 (by have := HL.out; omega))), Lib.hid (HR1.out.same (by simp only [List.append_assoc])), Lib.hid (List.length_append ..), hg1⟩
            have HS2 : Hid (Srtd pcl (U2 ++ V2) (U2 ++ V2)) := Lib.hid (Srtd.self (asc_nil_app HAs.out.2.1 HAs.out.2.2.2 (by have := HL.out; have := HF.out; omega)))
            go_wp2
            go_end0
            exact ⟨rfl, M1 ++ (U2 ++ V2), HMg.out _ _ HS1.out HS2.out, HR2.out.same (by simp only [List.append_assoc]), hg2⟩




theorem symMerge_any (g off n c cap : Nat) (hsz : n ≤ 1000000000) : ∀ (N a m b : Nat) (P U V Q : List Nat) (w : World), U.length + V.length ≤ N → 0 < U.length → 0 < V.length → P.length = off + a → a + U.length = m → m + V.length = b → b ≤ n → Asc pcl U → Asc pcl V →
    Row w g cap (P ++ (U ++ (V ++ Q))) → SymC g off n c cap a m b P U V Q w
  | 0, a, m, b, P, U, V, Q, w, hN, hU0, _, _, _, _, _, _, _, _ => by omega
  | N + 1, a, m, b, P, U, V, Q, w, hN, hU0, hV0, hP, hm, hb, hn, hU, hV, hrow => by
    by_cases h1 : U.length = 1
    · obtain ⟨x, rfl⟩ := List.length_eq_one_iff.1 h1
      exact sym_left g off n c cap a m b x P V Q w hP hm hb hn hsz hV hrow
    by_cases h2 : V.length = 1
    · obtain ⟨y, rfl⟩ := List.length_eq_one_iff.1 h2
      exact sym_right g off n c cap a m b y P U Q w hP (by omega) hm hb hn hsz hU hrow
    refine sym_step g off n c cap a m b P U V Q w (by omega) (by omega) hP hm hb hn hsz hU hV hrow ?_
    intro a' m' b' P' U' V' Q' w' hl k1 k2 k3 k4 k5 k6 k7 k8 k9
    exact symMerge_any g off n c cap hsz N a' m' b' P' U' V' Q' w' (by omega) k1 k2 k3 k4 k5 k6 k7 k8 k9

end Go.Proofs.YtbnchnbblchmnaaGreatDoor
