/-
  The body of CollateOrder.
  The body of CollateLetters.
  Arguments that came in: slices of integers as lists, strings.
-/
import Derived.Test.YtafnjbmeponobaaGreatDoorPkBJ
import Derived.Test.YtafnjbmeponobaaGreatDoorPkBI
import Derived.BigQuiet
import Derived.Deep.RegionHeld3
import Derived.Test.YtafnjbmeponobaaGreatDoorWords
import Derived.ProofKit
import Derived.OpenShut
import Derived.SliceStrings
import Derived.ChangeArms
namespace Go.Proofs.YtafnjbmeponobaaGreatDoor
open Go.RowKit

theorem nCmp_pair {t : List RuleL} {a b : List UInt8} {x : Int} (hx : nCmp t a b = x) :
    nCmp t b a = -x ∧ nCmp t a a = 0 := by
  subst hx
  exact ⟨nCmp_neg t a b, nCmp_self t a⟩
/-- The law's last word, as the walk spells it. -/
theorem last_word {t : List RuleL} {a b c : List UInt8} {x y z : Int} (hx : nCmp t a b = x) (hy : nCmp t b c = y) (hz : nCmp t a c = z) (hv : validT t = true) (ha : (decR a).isSome = true) (hb : (decR b).isSome = true) (hc : (decR c).isSome = true) :
    (0 < x ∨ 0 < y ∨ z ≤ 0) ∧ (0 ≤ x ∨ 0 ≤ y ∨ z < 0) := by
  have h := nCmp_trans (t := t) (a := a) (b := b) (c := c) (good_of hv ha) (good_of hv hb) (good_of hv hc)
  rw [hx, hy, hz] at h
  exact h
theorem idx_0 (x y z : ByteArray) (W : World) : (Instr.index 42 (.agg #[.string x, .string y, .string z]) (.int .i64 0)).run Tryz.prog W = .ok (.string x) W := by kernel_rfl
theorem idx_1 (x y z : ByteArray) (W : World) : (Instr.index 42 (.agg #[.string x, .string y, .string z]) (.int .i64 1)).run Tryz.prog W = .ok (.string y) W := by kernel_rfl
theorem idx_2 (x y z : ByteArray) (W : World) : (Instr.index 42 (.agg #[.string x, .string y, .string z]) (.int .i64 2)).run Tryz.prog W = .ok (.string z) W := by kernel_rfl

set_option maxRecDepth 20000 in
set_option maxHeartbeats 6400000 in
theorem collateOrder_v (A : Option Addr) (n c : Nat) (t : List RuleL) (s0 s1 s2 : List UInt8) (w : World) (hS : Spans w) (h : Given8 w A n c t) (h0 : s0.length ≤ 9223372036854775807) (h1 : s1.length ≤ 9223372036854775807) (h2 : s2.length ≤ 9223372036854775807) :
    Calls Tryz.prog 5 #[.slice A n c, .agg #[.string (str s0), .string (str s1), .string (str s2)]] w fun e w' => e = .returned (.bool true) ∧ Below w.heap.size w w' := by
  obtain ⟨V, hV⟩ : ∃ V, w.alloc (.cells #[.string (str s0), .string (str s1), .string (str s2)] 42) = V := ⟨_, rfl⟩
  have hbV : Below w.heap.size w V := by rw [← hV]; exact (Below.refl _ _).alloc (Nat.le_refl _) _
  have hVs : w.heap.size < V.heap.size := by rw [← hV]; simp
  have hBox : Box V w.heap.size 42 #[.string (str s0), .string (str s1), .string (str s2)] := by rw [← hV]; exact Box.made w _ _
  have hArr0 : Arr sv V (w.heap.size + 1) (.slice (some ⟨w.heap.size, 0, none⟩) 3 3) [s0, s1, s2] := Arr.of_box hBox rfl (Nat.le_refl _) (fun i u hu => by
    match i, hu with
    | 0, hu => simp at hu; subst hu; rfl
    | 1, hu => simp at hu; subst hu; rfl
    | 2, hu => simp at hu; subst hu; rfl
    | i + 3, hu => simp at hu)
  have hArr := hArr0.more hVs
  clear hArr0
  have hgV := h.up hbV
  have HAw := Lib.hid (awake8_any V (hS.below hbV))
  have HFw := Lib.hid (fun (W : World) (hW : Below V.heap.size V W) => few8_any A n c t _ 3 3 [s0, s1, s2] W (hgV.up hW) (hArr.up hW) (by omega) (by simp; omega))
  have HCe : Hid (∀ W : World, Below V.heap.size V W → W.cell? ⟨w.heap.size, 0, none⟩ = some (.string (str s0)) ∧ W.cell? ⟨w.heap.size, 1, none⟩ = some (.string (str s1)) ∧ W.cell? ⟨w.heap.size, 2, none⟩ = some (.string (str s2))) := Lib.hid (fun W hW =>
    ⟨(hW.cell (p := ⟨w.heap.size, 0, none⟩) hVs).trans (hBox.cell 0), (hW.cell (p := ⟨w.heap.size, 1, none⟩) hVs).trans (hBox.cell 1), (hW.cell (p := ⟨w.heap.size, 2, none⟩) hVs).trans (hBox.cell 2)⟩)
  cases hf : fewT t [s0, s1, s2] with
  | false =>
    rw [hf] at HFw
    clear hS h hf hArr hBox hgV
    go_enter Tryz.func5, Tryz.ntmps5
    go_wp2_with fail
    clear hV
    refine HAw.out.mono ?_
    rintro e w1 ⟨rfl, k1⟩
    go_wp2_with fail
    refine (HFw.out _ k1).mono ?_
    rintro e w4 ⟨rfl, k4⟩
    have e4 := below_next k1 k4
    go_wp2
    go_ret
    exact ⟨rfl, hbV.trans (e4.mono hbV.size)⟩
  | true =>
    rw [hf] at HFw
    have hT := hgV.tab hf
    obtain ⟨-, -, hs40⟩ := few_parts hf
    have l0 : s0.length ≤ 40 := hs40 s0 (by simp)
    have l1 : s1.length ≤ 40 := hs40 s1 (by simp)
    have l2 : s2.length ≤ 40 := hs40 s2 (by simp)
    have hSV := hS.below hbV
    have HOw := Lib.hid (fun (W : World) (hW : Below V.heap.size V W) => own8_any A n c t W (hT.up hW))
    have HPC := Lib.hid (fun (x y : List UInt8) (hx : x.length ≤ 40) (hy : y.length ≤ 40) (wo : World) (hwo : Below V.heap.size V wo) (A' : Option Addr) (c' : Nat) (h' : Tab8 wo A' n c' t) (W : World) (hW : Below wo.heap.size wo W) => prCompare_any A' n c' t x y W ((hSV.below hwo).below hW) (h'.up hW) (by omega) (by omega))
    have HRV := Lib.hid (fun (W : World) (hW : Below V.heap.size V W) => refValid8_any A n c t W (hT.up hW))
    have HD0 := Lib.hid (fun W => refDecode_any s0 W (by omega))
    have HD1 := Lib.hid (fun W => refDecode_any s1 W (by omega))
    have HD2 := Lib.hid (fun W => refDecode_any s2 W (by omega))
    obtain ⟨x, hx⟩ : ∃ x, nCmp t s0 s1 = x := ⟨_, rfl⟩
    obtain ⟨y, hy⟩ : ∃ x, nCmp t s1 s2 = x := ⟨_, rfl⟩
    obtain ⟨z, hz⟩ : ∃ x, nCmp t s0 s2 = x := ⟨_, rfl⟩
    obtain ⟨vT, hvT⟩ : ∃ x, validT t = x := ⟨_, rfl⟩
    obtain ⟨r0, hr0⟩ : ∃ r, decR s0 = r := ⟨_, rfl⟩
    obtain ⟨r1, hr1⟩ : ∃ r, decR s1 = r := ⟨_, rfl⟩
    obtain ⟨r2, hr2⟩ : ∃ r, decR s2 = r := ⟨_, rfl⟩
    have HLast : Hid (vT = true → r0.isSome = true → r1.isSome = true → r2.isSome = true → (0 < x ∨ 0 < y ∨ z ≤ 0) ∧ (0 ≤ x ∨ 0 ≤ y ∨ z < 0)) := Lib.hid (fun q0 q1 q2 q3 => last_word hx hy hz (by rw [hvT]; exact q0) (by rw [hr0]; exact q1) (by rw [hr1]; exact q2) (by rw [hr2]; exact q3))
    have HVx : Hid (x = -1 ∨ x = 0 ∨ x = 1) := Lib.hid (by rw [← hx]; exact nCmp_vals _ _ _)
    have HVy : Hid (y = -1 ∨ y = 0 ∨ y = 1) := Lib.hid (by rw [← hy]; exact nCmp_vals _ _ _)
    have hneg : IntKind.i64.wrap (-x) = -x := wraps_i64 _ (by have := HVx.out; omega) (by have := HVx.out; omega)
    have hne : ((-x) != (-x)) = false := by simp
    obtain ⟨hp1, hp2⟩ := nCmp_pair hx
    have P01 := Lib.hid (HPC.out s0 s1 l0 l1)
    have P12 := Lib.hid (HPC.out s1 s2 l1 l2)
    have P02 := Lib.hid (HPC.out s0 s2 l0 l2)
    have P10 := Lib.hid (HPC.out s1 s0 l1 l0)
    have P00 := Lib.hid (HPC.out s0 s0 l0 l0)
    rw [hx] at P01
    rw [hy] at P12
    rw [hz] at P02
    rw [hp1] at P10
    rw [hp2] at P00
    rw [hvT] at HRV
    rw [hr0] at HD0
    rw [hr1] at HD1
    rw [hr2] at HD2
    clear hS h hf hArr hBox hgV hT hs40 hSV HPC hx hy hz hvT hr0 hr1 hr2 hp1 hp2
    go_enter Tryz.func5, Tryz.ntmps5
    go_wp2_with fail
    clear hV
    refine HAw.out.mono ?_
    rintro e w1 ⟨rfl, k1⟩
    go_wp2_with fail
    refine (HFw.out _ k1).mono ?_
    rintro e w2 ⟨rfl, k2⟩
    have e2 := below_next k1 k2
    go_wp2_with fail
    refine (HOw.out _ e2).mono ?_
    rintro e w3 ⟨A3, c3, rfl, hT3, k3⟩
    have e3 := below_next e2 k3
    have C01 := Lib.hid (P01.out w3 e3 A3 c3 hT3)
    have C12 := Lib.hid (P12.out w3 e3 A3 c3 hT3)
    have C02 := Lib.hid (P02.out w3 e3 A3 c3 hT3)
    have C10 := Lib.hid (P10.out w3 e3 A3 c3 hT3)
    have C00 := Lib.hid (P00.out w3 e3 A3 c3 hT3)
    have hv3 : w.heap.size < w3.heap.size := by have := e3.size; omega
    have f0 := fun p : Reach => cell_reach (p := p) (a := ⟨w.heap.size, 0, none⟩) hv3 (HCe.out _ e3).1
    have f1 := fun p : Reach => cell_reach (p := p) (a := ⟨w.heap.size, 1, none⟩) hv3 (HCe.out _ e3).2.1
    have f2 := fun p : Reach => cell_reach (p := p) (a := ⟨w.heap.size, 2, none⟩) hv3 (HCe.out _ e3).2.2
    clear hT3
    go_wp2
    refine wp_region_reach (by kernel_rfl) (by kernel_rfl) ?_
    repeat (quiet_step (first
      | (go_at_call 21; with_reducible exact calls_reach (C01.out _ (below_reach _ _)))
      | (go_at_call 21; with_reducible exact calls_reach (C12.out _ (below_reach _ _)))
      | (go_at_call 21; with_reducible exact calls_reach (C02.out _ (below_reach _ _)))))
    refine wpQuiet_nil ?_
    intro _ hw'
    obtain ⟨p1, hw''⟩ := hw'
    subst hw''
    obtain ⟨w4, hw4⟩ : ∃ W, reach w3 p1 = W := ⟨_, rfl⟩
    have k4 := below_reach w3 p1
    rw [hw4] at k4 ⊢
    have e4 := below_next e3 k4
    clear hw4 f0 f1 f2
    obtain ⟨d40, d41, d42⟩ := HCe.out _ e4
    go_wp2_with fail
    refine (C10.out _ k4).mono ?_
    rintro e w5 ⟨rfl, k5⟩
    have kk5 := below_next k4 k5
    have e5 := below_next e3 kk5
    obtain ⟨d50, d51, d52⟩ := HCe.out _ e5
    go_wp2_with fail
    refine (C00.out _ kk5).mono ?_
    rintro e w6 ⟨rfl, k6⟩
    have e6 := below_next e5 k6
    obtain ⟨d60, d61, d62⟩ := HCe.out _ e6
    clear C01 C12 C02 C10 C00 d40 d41 d42 d50 d51 d52 k4 k5 kk5
    go_wp2
    clear d60 d61 d62 HAw HFw HOw HCe P01 P12 P02 P10 P00
    have i0 := fun W => idx_0 (str s0) (str s1) (str s2) W
    have i1 := fun W => idx_1 (str s0) (str s1) (str s2) W
    have i2 := fun W => idx_2 (str s0) (str s1) (str s2) W
    go_loopw [58] (fun i wr => (i = .int .i64 0 ∨ (i = .int .i64 1 ∧ Hid (vT = true ∧ r0.isSome = true)) ∨ (i = .int .i64 2 ∧ Hid (vT = true ∧ r0.isSome = true ∧ r1.isSome = true)) ∨ (i = .int .i64 3 ∧ Hid (vT = true ∧ r0.isSome = true ∧ r1.isSome = true ∧ r2.isSome = true))) ∧ Below V.heap.size V wr) (fun i _ => 3 - (intOf i).toNat)
    case atStart => exact ⟨.inl rfl, e6⟩
    case round =>
      obtain ⟨hcase, hb⟩ := hrel
      rcases hcase with rfl | ⟨rfl, HP⟩ | ⟨rfl, HP⟩ | ⟨rfl, HP⟩
      · go_wp2_with fail
        refine (HD0.out _).mono ?_
        rintro e w7 ⟨hde, k7⟩
        obtain ⟨A7, n7, c7, b7, rfl, hc7⟩ := hde.form
        have hb7 : r0.isSome = b7 := by rcases hc7 with ⟨rfl, l, rfl, -, -, -⟩ | ⟨rfl, rfl, -, -, -⟩ <;> rfl
        have e7 := below_next hb k7
        have HB7 := Lib.hid hb7
        clear hde hc7 hb7
        cases b7 with
        | false =>
          go_wp2
          go_ret
          exact ⟨rfl, hbV.trans (e7.mono hbV.size)⟩
        | true =>
          go_wp2_with fail
          refine (HRV.out _ e7).mono ?_
          rintro e w8 ⟨rfl, k8⟩
          have e8 := below_next e7 k8
          cases vT with
          | false =>
            go_wp2
            go_ret
            exact ⟨rfl, hbV.trans (e8.mono hbV.size)⟩
          | true =>
            go_wp2
            go_roundw
            case rel => exact ⟨.inr (.inl ⟨by trivial, Lib.hid ⟨by trivial, HB7.out⟩⟩), e8⟩
            case measure => simp [intOf]
      · go_wp2_with fail
        refine (HD1.out _).mono ?_
        rintro e w7 ⟨hde, k7⟩
        obtain ⟨A7, n7, c7, b7, rfl, hc7⟩ := hde.form
        have hb7 : r1.isSome = b7 := by rcases hc7 with ⟨rfl, l, rfl, -, -, -⟩ | ⟨rfl, rfl, -, -, -⟩ <;> rfl
        have e7 := below_next hb k7
        have HB7 := Lib.hid hb7
        clear hde hc7 hb7
        cases b7 with
        | false =>
          go_wp2
          go_ret
          exact ⟨rfl, hbV.trans (e7.mono hbV.size)⟩
        | true =>
          go_wp2_with fail
          refine (HRV.out _ e7).mono ?_
          rintro e w8 ⟨rfl, k8⟩
          have e8 := below_next e7 k8
          obtain rfl : vT = true := HP.out.1
          go_wp2
          go_roundw
          case rel => exact ⟨.inr (.inr (.inl ⟨by trivial, Lib.hid ⟨by trivial, HP.out.2, HB7.out⟩⟩)), e8⟩
          case measure => simp [intOf]
      · go_wp2_with fail
        refine (HD2.out _).mono ?_
        rintro e w7 ⟨hde, k7⟩
        obtain ⟨A7, n7, c7, b7, rfl, hc7⟩ := hde.form
        have hb7 : r2.isSome = b7 := by rcases hc7 with ⟨rfl, l, rfl, -, -, -⟩ | ⟨rfl, rfl, -, -, -⟩ <;> rfl
        have e7 := below_next hb k7
        have HB7 := Lib.hid hb7
        clear hde hc7 hb7
        cases b7 with
        | false =>
          go_wp2
          go_ret
          exact ⟨rfl, hbV.trans (e7.mono hbV.size)⟩
        | true =>
          go_wp2_with fail
          refine (HRV.out _ e7).mono ?_
          rintro e w8 ⟨rfl, k8⟩
          have e8 := below_next e7 k8
          obtain rfl : vT = true := HP.out.1
          go_wp2
          go_roundw
          case rel => exact ⟨.inr (.inr (.inr ⟨by trivial, Lib.hid ⟨by trivial, HP.out.2.1, HP.out.2.2, HB7.out⟩⟩)), e8⟩
          case measure => simp [intOf]
      · have hl := HLast.out HP.out.1 HP.out.2.1 HP.out.2.2.1 HP.out.2.2.2
        have hvx := HVx.out
        have hvy := HVy.out
        have hend := hbV.trans (hb.mono hbV.size)
        clear HD0 HD1 HD2 HRV HLast HVx HVy hneg hne HP
        rcases hvx with rfl | rfl | rfl
        · rcases hvy with rfl | rfl | rfl
          · have q1 : decide (z ≤ 0) = true := decide_eq_true (by omega)
            have q2 : decide (z < 0) = true := decide_eq_true (by omega)
            clear hl
            go_wp2
            go_ret
            exact ⟨rfl, hend⟩
          · have q1 : decide (z ≤ 0) = true := decide_eq_true (by omega)
            clear hl
            go_wp2
            go_ret
            exact ⟨rfl, hend⟩
          · clear hl
            go_wp2
            go_ret
            exact ⟨rfl, hend⟩
        · rcases hvy with rfl | rfl | rfl
          · have q1 : decide (z ≤ 0) = true := decide_eq_true (by omega)
            clear hl
            go_wp2
            go_ret
            exact ⟨rfl, hend⟩
          · have q1 : decide (z ≤ 0) = true := decide_eq_true (by omega)
            clear hl
            go_wp2
            go_ret
            exact ⟨rfl, hend⟩
          · clear hl
            go_wp2
            go_ret
            exact ⟨rfl, hend⟩
        · clear hl hvy
          go_wp2
          go_ret
          exact ⟨rfl, hend⟩

end Go.Proofs.YtafnjbmeponobaaGreatDoor

namespace Go.Proofs.YtafnjbmeponobaaGreatDoor
open Go.RowKit

theorem nprim_bound {t : List RuleL} {s : List UInt8} {q : Nat} (hv : validT t = true) (h : q ∈ nPrim t s) : q ≤ 10000041 := by
  unfold nPrim at h
  split at h
  · obtain ⟨e, he, rfl⟩ := List.mem_map.1 (List.mem_filter.1 h).1
    exact (els_ok hv s e he).1
  · cases h

set_option maxRecDepth 20000 in
set_option maxHeartbeats 6400000 in
theorem collateLetters_v (A : Option Addr) (n c a : Nat) (t : List RuleL) (r : List UInt8) (w : World) (hS : Spans w) (h : Given8 w A n c t) (hr : r.length ≤ 9223372036854775807) (ha : a < 256) :
    Calls Tryz.prog 8 #[.slice A n c, .int .u8 (a : Int), .string (str r)] w fun e w' => e = .returned (.bool true) ∧ Below w.heap.size w w' := by
  have HAw := Lib.hid (awake8_any w hS)
  have HFw := Lib.hid (fun (W : World) (hW : Below w.heap.size w W) => few8_any A n c t _ 1 1 [r] (W.alloc (.cells #[.string (str r)] 9)) ((h.up hW).up ((Below.refl _ _).alloc (Nat.le_refl _) _)) (one_arr r W) (by omega) (by simpa using hr))
  have hA1 := fun (W : World) (hW : Below w.heap.size w W) => hW.alloc hW.size (.cells #[.string (str r)] 9)
  have HA1 := Lib.hid hA1
  cases hf : fewT t [r] with
  | false =>
    rw [hf] at HFw
    clear hS h hf hA1
    go_enter Tryz.func8, Tryz.ntmps8
    go_wp2_with fail
    refine HAw.out.mono ?_
    rintro e w1 ⟨rfl, k1⟩
    go_wp2_with fail
    refine (HFw.out _ k1).mono ?_
    rintro e w2 ⟨rfl, k2⟩
    have b2 := below_next (HA1.out _ k1) k2
    go_wp2
    go_ret
    exact ⟨rfl, b2⟩
  | true =>
    rw [hf] at HFw
    have hT := h.tab hf
    obtain ⟨hn45, hsh, hs40⟩ := few_parts hf
    have hr4 : r.length ≤ 40 := hs40 r (by simp)
    have hlen := h.arr.len
    have hn46 : n ≤ 45 := by omega
    by_cases h0 : n = 0
    · subst h0
      clear hS h hf hA1 hT hsh hs40 hlen
      go_enter Tryz.func8, Tryz.ntmps8
      go_wp2_with fail
      refine HAw.out.mono ?_
      rintro e w1 ⟨rfl, k1⟩
      go_wp2_with fail
      refine (HFw.out _ k1).mono ?_
      rintro e w2 ⟨rfl, k2⟩
      have b2 := below_next (HA1.out _ k1) k2
      go_wp2
      go_ret
      exact ⟨rfl, b2⟩
    have t0 : ((n : Int) == 0) = false := eqb_false (by omega)
    have HRV := Lib.hid (fun (W : World) (hW : Below w.heap.size w W) => refValid8_any A n c t W (hT.up hW))
    cases hv : validT t with
    | false =>
      rw [hv] at HRV
      clear hS h hf hA1 hT hsh hs40 hlen hv
      go_enter Tryz.func8, Tryz.ntmps8
      go_wp2_with fail
      refine HAw.out.mono ?_
      rintro e w1 ⟨rfl, k1⟩
      go_wp2_with fail
      refine (HFw.out _ k1).mono ?_
      rintro e w2 ⟨rfl, k2⟩
      have b2 := below_next (HA1.out _ k1) k2
      go_wp2_with fail
      refine (HRV.out _ b2).mono ?_
      rintro e w3 ⟨rfl, k3⟩
      go_wp2
      go_ret
      exact ⟨rfl, below_next b2 k3⟩
    | true =>
      rw [hv] at HRV
      have HD := Lib.hid (fun W => refDecode_any r W (by omega))
      obtain ⟨k, hk⟩ : ∃ k, a % n = k := ⟨_, rfl⟩
      have hkn : k < n := by rw [← hk]; exact Nat.mod_lt _ (by omega)
      have hmod : (a : Int) % (n : Int) = (k : Int) := by rw [← hk]; simp
      have hdz : ¬ ((n : Int) = 0) := by omega
      have kz : (k : Int) < (n : Int) := by omega
      have kz0 : (0 : Int) ≤ (k : Int) := by omega
      obtain ⟨x, hx⟩ : ∃ x, t[k]? = some x := ⟨_, List.getElem?_eq_getElem (by omega)⟩
      have hxm := List.mem_of_getElem? hx
      have hx1 := (hsh x hxm).1
      have hx2 := (hsh x hxm).2
      have HShT := Lib.hid hsh
      have HLen := Lib.hid hlen
      obtain ⟨b0, o0, rfl, hB0, hc0⟩ := lets_cells h.arr (by omega)
      have dx1 := (hc0 k x hx).1
      have dx2 := (hc0 k x hx).2
      have HC0 := Lib.hid hc0
      have HOw := Lib.hid (fun (W : World) (hW : Below w.heap.size w W) => own8_any (some ⟨b0, o0, none⟩) n c t W (hT.up hW))
      have HPP := Lib.hid (fun (s : List UInt8) (hs : s.length ≤ 500) (W : World) (hW : Below w.heap.size w W) (A' : Option Addr) (c' : Nat) (h' : Tab8 W A' n c' t) => prPrimary_any A' n c' t s W (hS.below hW) h' hs)
      have HPC := Lib.hid (fun (s s2 : List UInt8) (hs : s.length ≤ 500) (hs2 : s2.length ≤ 500) (W : World) (hW : Below w.heap.size w W) (A' : Option Addr) (c' : Nat) (h' : Tab8 W A' n c' t) => prCompare_any A' n c' t s s2 W (hS.below hW) h' hs hs2)
      have e9 : str x.2 ++ (⟨#[57]⟩ : ByteArray) = str (x.2 ++ [57]) := by rw [← str_append]; rfl
      have eS : str x.1 ++ (⟨#[32]⟩ : ByteArray) ++ str r = str (x.1 ++ 32 :: r) := by
        have h1 : (⟨#[32]⟩ : ByteArray) = str [32] := rfl
        rw [h1, str_append, str_append]
        congr 1
        simp
      have hL1 : (x.1 ++ 32 :: r).length ≤ 500 := by rw [List.length_append, List.length_cons]; omega
      have hL2 : (x.2 ++ [57]).length ≤ 500 := by rw [List.length_append, List.length_singleton]; omega
      have HCol : Hid ((decR r).isSome = true → (∀ y ∈ t, y.1 ≠ x.2 ∧ y.1 ≠ x.2 ++ [57] ∧ y.1.length ≤ x.1.length) →
          ∃ q p, nPrim t (x.1 ++ 32 :: r) = (q + k + 1) :: p ∧ nPrim t x.2 = [q] ∧ nCmp t x.2 (x.1 ++ 32 :: r) = -1 ∧ nCmp t (x.2 ++ [57]) (x.1 ++ 32 :: r) = -1 ∧ q ≤ 10000041) := Lib.hid (fun h1 h2 => by
        obtain ⟨q, p, q1, q2, q3, q4⟩ := col_letters hv hx h1 (fun y hy => (h2 y hy).2.2) (fun y hy => (h2 y hy).1) (fun y hy => (h2 y hy).2.1)
        exact ⟨q, p, q1, q2, q3, q4, nprim_bound (s := x.2) hv (by rw [q2]; exact List.mem_singleton.2 rfl)⟩)
      obtain ⟨SS, hSS⟩ : ∃ X, x.1 ++ 32 :: r = X := ⟨_, rfl⟩
      obtain ⟨X9, hX9⟩ : ∃ X, x.2 ++ [57] = X := ⟨_, rfl⟩
      rw [hSS] at eS HCol hL1
      rw [hX9] at e9 HCol hL2
      have HB1 := Lib.hid (fun b => str_beq b x.2)
      have HB2 := Lib.hid (fun b => str_beq b X9)
      rw [← e9] at HB2
      have HE9 := Lib.hid e9
      have HES := Lib.hid eS
      obtain ⟨rd, hrd⟩ : ∃ rd, decR r = rd := ⟨_, rfl⟩
      rw [hrd] at HD HCol
      clear hS h hf hA1 hT hs40 hv hSS hX9 hrd hk hxm hsh hlen e9 eS hc0
      go_enter Tryz.func8, Tryz.ntmps8
      go_wp2_with fail
      refine HAw.out.mono ?_
      rintro e w1 ⟨rfl, k1⟩
      go_wp2_with fail
      refine (HFw.out _ k1).mono ?_
      rintro e w2 ⟨rfl, k2⟩
      have b2 := below_next (HA1.out _ k1) k2
      go_wp2_with fail
      refine (HRV.out _ b2).mono ?_
      rintro e w3 ⟨rfl, k3⟩
      have b3 := below_next b2 k3
      go_wp2_with fail
      refine (HD.out _).mono ?_
      rintro e w4 ⟨hde, k4⟩
      obtain ⟨A4, n4, c4, ok4, rfl, hcase⟩ := hde.form
      have hok : rd.isSome = ok4 := by rcases hcase with ⟨rfl, l, rfl, -, -, -⟩ | ⟨rfl, rfl, -, -, -⟩ <;> rfl
      have b4 := below_next b3 k4
      rw [hok] at HCol
      clear hde hcase hok
      cases ok4 with
      | false =>
        go_wp2
        go_ret
        exact ⟨rfl, b4⟩
      | true =>
        go_wp2
        rw [hmod]
        clear hmod hdz
        have hcA : ¬ 9223372036854775807 < (str x.1).size + 1 := by
          have e1 : (str x.1).size = x.1.length := rfl
          omega
        have hcB : ¬ 9223372036854775807 < (str x.1).size + 1 + (str r).size := by
          have e1 : (str x.1).size = x.1.length := rfl
          have e2 : (str r).size = r.length := rfl
          omega
        have hcC : ¬ 9223372036854775807 < (str x.1 ++ (⟨#[32]⟩ : ByteArray)).size + (str r).size := by
          have e1 : (str x.1).size = x.1.length := rfl
          have e2 : (str r).size = r.length := rfl
          have e3 : (str x.1 ++ (⟨#[32]⟩ : ByteArray)).size = x.1.length + 1 := by
            have e4 : (⟨#[32]⟩ : ByteArray) = str [32] := rfl
            rw [e4, str_append, str_size, List.length_append]
            rfl
          omega
        have h9 : ¬ 9223372036854775807 < (str x.2).size + 1 := by
          have e1 : (str x.2).size = x.2.length := rfl
          omega
        go_loopw [46] (fun iv_ wr => ∃ (i : Nat), i ≤ n ∧ iv_ = .int .i64 (i : Int) ∧ Hid (∀ y ∈ t.take i, y.1 ≠ x.2 ∧ y.1 ≠ X9 ∧ y.1.length ≤ x.1.length) ∧ Below w.heap.size w wr) (fun iv_ _ => n - (intOf iv_).toNat)
        case atStart => exact ⟨0, by omega, rfl, Lib.hid (fun y hy => by simp at hy), b4⟩
        case round =>
          obtain ⟨i, hi, rfl, HI, hb⟩ := hrel
          have ex1 := (hb.cell (p := ⟨b0, o0 + k * 2, none⟩) hB0).trans dx1
          have ex2 := (hb.cell (p := ⟨b0, o0 + k * 2 + 1, none⟩) hB0).trans dx2
          by_cases hlt : i < n
          · have i1 : decide ((i : Int) < (n : Int)) = true := by simp; omega
            have iz : (i : Int) < (n : Int) := by omega
            obtain ⟨y, hy⟩ : ∃ a, t[i]? = some a := ⟨_, List.getElem?_eq_getElem (by have := HLen.out; omega)⟩
            have ey1 := (hb.cell (p := ⟨b0, o0 + i * 2, none⟩) hB0).trans (HC0.out i y hy).1
            have hyl := (HShT.out y (List.mem_of_getElem? hy)).1
            have s1 : (str y.1).size = y.1.length := rfl
            have s2 : (str x.1).size = x.1.length := rfl
            have hq1 := HB1.out y.1
            have hq2 := HB2.out y.1
            by_cases g1 : y.1 = x.2
            · have q1 : ((str y.1).toList == (str x.2).toList) = true := by rw [hq1]; exact decide_eq_true g1
              clear hy g1 hq1 hq2
              go_wp2
              go_big_quiet (fail)
              go_wp2
              go_ret
              exact ⟨rfl, by first | exact below_drewN hb _ | exact hb⟩
            · have q1 : ((str y.1).toList == (str x.2).toList) = false := by rw [hq1]; exact decide_eq_false g1
              by_cases g2 : y.1 = X9
              · have q2 : ((str y.1).toList == (str x.2 ++ (⟨#[57]⟩ : ByteArray)).toList) = true := by rw [hq2]; exact decide_eq_true g2
                clear hy g1 g2 hq1 hq2
                go_wp2
                go_big_quiet (fail)
                go_wp2
                go_ret
                exact ⟨rfl, by first | exact below_drewN hb _ | exact hb⟩
              · have q2 : ((str y.1).toList == (str x.2 ++ (⟨#[57]⟩ : ByteArray)).toList) = false := by rw [hq2]; exact decide_eq_false g2
                by_cases g3 : x.1.length < y.1.length
                · have q3 : decide ((x.1.length : Int) < (y.1.length : Int)) = true := decide_eq_true (by omega)
                  have q3n : decide (x.1.length < y.1.length) = true := decide_eq_true g3
                  clear hy g1 g2 g3 hq1 hq2
                  go_wp2
                  go_big_quiet (fail)
                  go_wp2
                  go_ret
                  exact ⟨rfl, by first | exact below_drewN hb _ | exact hb⟩
                · have q3 : decide ((x.1.length : Int) < (y.1.length : Int)) = false := decide_eq_false (by omega)
                  have q3n : decide (x.1.length < y.1.length) = false := decide_eq_false g3
                  have HI2 : Hid (∀ y ∈ t.take (i + 1), y.1 ≠ x.2 ∧ y.1 ≠ X9 ∧ y.1.length ≤ x.1.length) := Lib.hid (fun u hu => by
                    rw [take_next hy] at hu
                    rcases List.mem_append.1 hu with hu | hu
                    · exact HI.out u hu
                    · rw [List.mem_singleton.1 hu]; exact ⟨g1, g2, by omega⟩)
                  clear hy g1 g2 g3 hq1 hq2
                  go_wp2
                  go_big_quiet (fail)
                  go_wp2
                  go_roundw
                  case rel => exact ⟨i + 1, by omega, by go_num, HI2, by first | exact below_drewN hb _ | exact hb⟩
                  case measure => simp [intOf]; omega
          · obtain rfl : i = n := by omega
            have i1 : decide ((i : Int) < (i : Int)) = false := by simp
            obtain ⟨q, p, c1, c2, c3, c4, hqb⟩ := HCol.out (by trivial) (by have h1 := HI.out; rwa [List.take_of_length_le (by rw [HLen.out]; exact Nat.le_refl _)] at h1)
            obtain ⟨w5, hw5⟩ : ∃ x : World, x = wr := ⟨_, rfl⟩
            subst hw5
            have HP1 := Lib.hid (HPP.out SS hL1)
            have HP2 := Lib.hid (HPP.out x.2 (by omega))
            have HC1 := Lib.hid (HPC.out x.2 SS (by omega) hL1)
            have HC2 := Lib.hid (HPC.out X9 SS hL2 hL1)
            rw [c1] at HP1
            rw [c2] at HP2
            rw [c3] at HC1
            rw [c4, ← HE9.out] at HC2
            clear HCol HI HShT HC0 HB1 HB2 c1 c2 c3 c4 HPP HPC
            go_wp2_with fail
            refine (HOw.out _ hb).mono ?_
            rintro e w6 ⟨A6, c6, rfl, hT6, k6⟩
            have b6 := below_next hb k6
            have HT6 := Lib.hid hT6
            have fx1 := (k6.cell (p := ⟨b0, o0 + k * 2, none⟩) (by have := hb.size; show b0 < _; omega)).trans ex1
            have fx2 := (k6.cell (p := ⟨b0, o0 + k * 2 + 1, none⟩) (by have := hb.size; show b0 < _; omega)).trans ex2
            clear hT6 ex1 ex2
            go_wp2
            rw [HES.out]
            have HQ1 := Lib.hid (fun (W : World) (hW : Below w6.heap.size w6 W) => HP1.out W (below_next b6 hW) A6 c6 (HT6.out.up hW))
            have HQ2 := Lib.hid (fun (W : World) (hW : Below w6.heap.size w6 W) => HP2.out W (below_next b6 hW) A6 c6 (HT6.out.up hW))
            have HK1 := Lib.hid (fun (W : World) (hW : Below w6.heap.size w6 W) => HC1.out W (below_next b6 hW) A6 c6 (HT6.out.up hW))
            have HK2 := Lib.hid (fun (W : World) (hW : Below w6.heap.size w6 W) => HC2.out W (below_next b6 hW) A6 c6 (HT6.out.up hW))
            have hb06 : b0 < w6.heap.size := by have := b6.size; omega
            clear HP1 HP2 HC1 HC2 HT6
            go_region_held3 (fun v => v.cell? ⟨b0, o0 + k * 2 + 1, none⟩ = some (.string (str x.2))) (first | exact fx2 | exact fx2b | exact fx2c)
              (first
                | (go_at_call 19; (with_reducible refine (HQ1.out _ (Below.refl _ _).drew).mono ?_); rintro e w7 ⟨A7, n7, c7, rfl, hP7, k7⟩; have kk7 := below_next (Below.refl w6.heap.size w6).drew k7; have fx2b := (kk7.cell (p := ⟨b0, o0 + k * 2 + 1, none⟩) hb06).trans fx2)
                | (go_at_call 19; (with_reducible refine (HQ2.out _ kk7).mono ?_); rintro e w8 ⟨A8, n8, c8, rfl, hP8, k8⟩; have kk8 := below_next kk7 k8; have fx2c := (kk8.cell (p := ⟨b0, o0 + k * 2 + 1, none⟩) hb06).trans fx2))
            have hl7 := hP7.len
            have hl8 := hP8.len
            rw [List.length_cons] at hl7
            obtain rfl : n8 = 1 := hl8.symm
            have hP78 := hP7.up k8
            obtain ⟨b7, o7, rfl, hB7, hc7⟩ := hP78.some_ (by omega)
            obtain ⟨b8, o8, rfl, hB8, hc8⟩ := hP8.some_ (by omega)
            obtain ⟨N1, hN1⟩ : ∃ N, q + k + 1 = N := ⟨_, rfl⟩
            have d7 : w8.cell? ⟨b7, o7, none⟩ = some (.int .i64 (N1 : Int)) := by rw [← hN1]; exact hc7 0 _ rfl
            have d8 : w8.cell? ⟨b8, o8, none⟩ = some (.int .i64 (q : Int)) := hc8 0 _ rfl
            have f7 := fun p1 : Reach => cell_reach (p := p1) (a := ⟨b7, o7, none⟩) hB7 d7
            have f8 := fun p1 : Reach => cell_reach (p := p1) (a := ⟨b8, o8, none⟩) hB8 d8
            have f2 := fun p1 : Reach => cell_reach (p := p1) (a := ⟨b0, o0 + k * 2 + 1, none⟩) (by have := kk8.size; show b0 < w8.heap.size; omega) fx2c
            have t1 : decide ((0 : Int) < (n7 : Int)) = true := decide_eq_true (by omega)
            have t1n : decide (0 < n7) = true := decide_eq_true (by omega)
            have z7 : (0 : Int) < (n7 : Int) := by omega
            have z7n : 0 < n7 := by omega
            have hw1 : IntKind.i64.wrap ((q : Int) + (k : Int)) = (q : Int) + (k : Int) := wraps_i64 _ (by omega) (by omega)
            have hw2 : IntKind.i64.wrap ((q : Int) + (k : Int) + 1) = (q : Int) + (k : Int) + 1 := wraps_i64 _ (by omega) (by omega)
            have heq : ((N1 : Int) == (q : Int) + (k : Int) + 1) = true := eqb_true (by omega)
            have e8 := below_next b6 kk8
            clear hc7 hc8 d7 d8 hP78 hP7 hP8 hl7 hl8 hN1 fx1 fx2 fx2b k7 HQ1 HQ2
            go_wp2
            refine wp_region_reach (by kernel_rfl) (by kernel_rfl) ?_
            repeat (quiet_step (first
              | (go_at_call 21; with_reducible exact calls_reach (HK1.out _ (below_next kk8 (below_reach _ _))))
              | (go_at_call 21; with_reducible exact calls_reach (HK2.out _ (below_next kk8 (below_reach _ _))))))
            refine wpQuiet_nil ?_
            intro _ hw'
            obtain ⟨p1, hw''⟩ := hw'
            subst hw''
            go_wp2
            go_ret
            exact ⟨rfl, below_next e8 (below_reach _ p1)⟩

end Go.Proofs.YtafnjbmeponobaaGreatDoor

namespace Go.Proofs.YtafnjbmeponobaaGreatDoor
open Go.RowKit

theorem cell_block {W : World} {a : Addr} {v : Value} (h : W.cell? a = some v) : a.block < W.heap.size := World.block_lt_of_cell? W a h

theorem arr_of_ints {W : World} {x : Addr} {l c : Nat} {zs : List Int} (hl : l ≤ c) (hz : zs.length = c) (hcell : ∀ i, i < zs.length → W.cell? (x.add i) = some (.int .i64 (zs.getD i 0))) :
    ∃ xs, Arr iv W W.heap.size (.slice (some x) l c) xs ∧ xs.length = l := by
  have hlen : (zs.take l).length = l := by rw [List.length_take]; omega
  refine ⟨zs.take l, .inr ⟨x, c, by rw [hlen], by rw [hlen]; exact hl, fun h0 => ?_, fun i u hu => ?_⟩, hlen⟩
  · rw [hlen] at h0
    have := cell_block (hcell 0 (by omega))
    rwa [add_block] at this
  · have hi : i < l := by rw [← hlen]; exact (List.getElem?_eq_some_iff.1 hu).1
    rw [hcell i (by omega)]
    rw [List.getElem?_take, if_pos hi, List.getElem?_eq_getElem (show i < zs.length by omega)] at hu
    simp only [Option.some.injEq] at hu
    have hz' : zs.getD i 0 = zs[i]'(by omega) := by simp [List.getD, List.getElem?_eq_getElem (show i < zs.length by omega)]
    rw [hz', hu]
    rfl

theorem open_i {W : World} {x : Addr} {l c : Nat} {zs : List Int} (hl : l ≤ c) (hm : c ≤ maxLen) (hz : zs.length = c) (hcell : ∀ i, i < zs.length → W.cell? (x.add i) = some (.int .i64 (zs.getD i 0))) :
    ∃ xs, Arr iv W W.heap.size (.slice (some x) l c) xs ∧ xs.length = l ∧ l ≤ 9223372036854775807 := by
  obtain ⟨xs, h1, h2⟩ := arr_of_ints hl hz hcell
  unfold maxLen at hm
  exact ⟨xs, h1, h2, by omega⟩

theorem arr_of_texts {W : World} {x : Addr} {l c : Nat} {ss : List ByteArray} (hl : l ≤ c) (hz : l ≤ ss.length) (hcell : ∀ i, i < ss.length → W.cell? (x.add i) = some (.string (ss.getD i ByteArray.empty)))
    (hws : ∀ s ∈ ss, s.size ≤ maxLen) : ∃ xs, Arr sv W W.heap.size (.slice (some x) l c) xs ∧ xs.length = l ∧ ∀ s ∈ xs, s.length ≤ maxLen := by
  have hlen : ((ss.take l).map fun b => b.data.toList).length = l := by rw [List.length_map, List.length_take]; omega
  refine ⟨(ss.take l).map fun b => b.data.toList, .inr ⟨x, c, by rw [hlen], by rw [hlen]; exact hl, fun h0 => ?_, fun i u hu => ?_⟩, hlen, fun s hs => ?_⟩
  · rw [hlen] at h0
    have := cell_block (hcell 0 (by omega))
    rwa [add_block] at this
  · have hi : i < l := by rw [← hlen]; exact (List.getElem?_eq_some_iff.1 hu).1
    rw [hcell i (by omega)]
    rw [List.getElem?_map, List.getElem?_take, if_pos hi, List.getElem?_eq_getElem (show i < ss.length by omega)] at hu
    simp only [Option.map_some, Option.some.injEq] at hu
    have hz' : ss.getD i ByteArray.empty = ss[i]'(by omega) := by simp [List.getD, List.getElem?_eq_getElem (show i < ss.length by omega)]
    rw [hz', ← hu]
    unfold sv
    rw [str_data]
  · obtain ⟨b, hb, rfl⟩ := List.mem_map.1 hs
    have := hws b (List.mem_of_mem_take hb)
    exact this
theorem open_t {W : World} {x : Addr} {l c : Nat} {ss : List ByteArray} (hl : l ≤ c) (hm : c ≤ maxLen) (hz : l ≤ ss.length) (hcell : ∀ i, i < ss.length → W.cell? (x.add i) = some (.string (ss.getD i ByteArray.empty)))
    (hws : ∀ s ∈ ss, s.size ≤ maxLen) : ∃ xs, Arr sv W W.heap.size (.slice (some x) l c) xs ∧ xs.length = l ∧ l ≤ 9223372036854775807 ∧ ∀ s ∈ xs, s.length ≤ maxLen := by
  obtain ⟨bs, h1, h2, h3⟩ := arr_of_texts hl hz hcell hws
  unfold maxLen at hm
  exact ⟨bs, h1, h2, by omega, h3⟩

theorem open_b8 {W : World} {x : Addr} {l c : Nat} {zs : List Int} (hl : l ≤ c) (hm : c ≤ maxLen) (hz : zs.length = c) (hcell : ∀ i, i < zs.length → W.cell? (x.add i) = some (.int .u8 (zs.getD i 0)))
    (hwz : ∀ n ∈ zs, (Lit.int .u8 n).wf = true) : ∃ bs, Arr bv W W.heap.size (.slice (some x) l c) bs ∧ bs.length = l ∧ l ≤ 9223372036854775807 := by
  have hlen : ((zs.take l).map fun z => UInt8.ofNat z.toNat).length = l := by rw [List.length_map, List.length_take]; omega
  unfold maxLen at hm
  refine ⟨(zs.take l).map fun z => UInt8.ofNat z.toNat, .inr ⟨x, c, by rw [hlen], by rw [hlen]; exact hl, fun h0 => ?_, fun i u hu => ?_⟩, hlen, by omega⟩
  · rw [hlen] at h0
    have := cell_block (hcell 0 (by omega))
    rwa [add_block] at this
  · have hi : i < l := by rw [← hlen]; exact (List.getElem?_eq_some_iff.1 hu).1
    rw [hcell i (by omega)]
    rw [List.getElem?_map, List.getElem?_take, if_pos hi, List.getElem?_eq_getElem (show i < zs.length by omega)] at hu
    simp only [Option.map_some, Option.some.injEq] at hu
    have hz' : zs.getD i 0 = zs[i]'(by omega) := by simp [List.getD, List.getElem?_eq_getElem (show i < zs.length by omega)]
    rw [hz']
    have hb := Go.bounds_u8 (hwz _ (List.getElem_mem (show i < zs.length by omega)))
    subst hu
    unfold bv
    rw [UInt8.toNat_ofNat', Nat.mod_eq_of_lt (by omega), Int.toNat_of_nonneg hb.1]

end Go.Proofs.YtafnjbmeponobaaGreatDoor
