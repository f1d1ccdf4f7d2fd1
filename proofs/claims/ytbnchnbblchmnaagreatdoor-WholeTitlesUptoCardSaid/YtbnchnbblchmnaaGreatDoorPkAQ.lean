/-
  The library's search for a character of two bytes.
  Stable sorting and merging in plain mathematics.
  Where sorted parts are cut for merging; rows that are sorted in blocks.
-/
import Derived.Test.YtbnchnbblchmnaaGreatDoorPkAP
import Derived.BigQuiet
import Derived.Laws.Runes
import Derived.WalkMore
import Derived.ScopeJumps
import Derived.LoopN
import Derived.Deep.RegionWith
import Derived.ProofKit
namespace Go.Proofs.YtbnchnbblchmnaaGreatDoor
open Go.RowKit

theorem encode_two {c : Nat} (h1 : 128 ≤ c) (h2 : c < 2048) : Utf8.encode (c : Int) = str [UInt8.ofNat (192 + c / 64), UInt8.ofNat (128 + c % 64)] := by
  have hv : Utf8.valid (c : Int) = true := by unfold Utf8.valid; simp; omega
  unfold Utf8.encode
  rw [hv]
  simp only [if_true, Int.toNat_natCast]
  rw [if_neg (by omega), if_pos (by omega)]
  rfl
/-- A scope with one jump ahead. -/
theorem wp_scope_fwd {P : Program} {c rest : Code} {Q : Exit → Act → World → Prop} {a : Act} {w : World} (l : Nat) (hf : findLabel c l = some rest)
    (first : c.wp P (Exit.jump l (fun a w => rest.wp P (Exit.noGoto Q) a w) Q) a w) : (Code.scope c).wp P Q a w := by
  refine wp_scope_jumps l (fun a w => rest.wp P (Exit.noGoto Q) a w) (fun _ _ => 0) hf first fun a w h => ?_
  refine Code.wp_mono ?_ h
  intro e a' w' he
  cases e <;> first | exact he | exact he.elim
/-- These two bytes stand at t. -/
def occ2 (s : List UInt8) (b0 b1 : UInt8) (t : Nat) : Prop := s[t]? = some b0 ∧ s[t + 1]? = some b1
/-- No byte stands so often ahead of a place that the search would change its ways. -/
def Few (s : List UInt8) : Prop := ∀ i b, 128 ≤ b.toNat → b.toNat < 192 → s[i]? = some b → (s.take (i + 1)).count b ≤ (i + 17) / 8
theorem byte_ne {x y : UInt8} (h : ¬ x = y) : ((x.toNat : Int) != (y.toNat : Int)) = true := by
  have : x.toNat ≠ y.toNat := fun e => h (UInt8.toNat_inj.1 e)
  simp
  omega
theorem byte_same {x y : UInt8} (h : x = y) : ((x.toNat : Int) != (y.toNat : Int)) = false := by subst h; simp
theorem count_next {s : List UInt8} {i : Nat} {b : UInt8} (h : s[i]? = some b) : (s.take (i + 1)).count b = (s.take i).count b + 1 := by
  rw [take_next h, List.count_append]
  simp
theorem count_le {s : List UInt8} {i j : Nat} {b : UInt8} (h : i ≤ j) : (s.take i).count b ≤ (s.take j).count b := by
  have : s.take i = (s.take j).take i := by rw [List.take_take, Nat.min_eq_left h]
  rw [this]
  exact (List.take_sublist _ _).count_le _

theorem get_lt' {α : Type} {l : List α} {i : Nat} {x : α} (h : l[i]? = some x) : i < l.length := (List.getElem?_eq_some_iff.1 h).1
theorem string_tail {P : Program} {T : TypeId} (hT : P.underlying T = some .string) (s : List UInt8) (k : Nat) (h : k ≤ s.length) (W : World) :
    (Instr.sliceAt T (.string (str s)) (some (.int .i64 (k : Int))) none none).run P W = .ok (.string (str (s.drop k))) W := by
  rw [run_sliceAt_string W _ _ _ _ _ hT, run_slice_string_l W _ _ hT .i64 (k : Int) (by omega) (by show (k : Int) ≤ (s.length : Int); omega)]
  congr 2
  apply ByteArray.ext
  simp [str]
  exact List.take_of_length_le (by rw [List.length_drop]; exact Nat.le_refl _)
theorem quiet_same {P : Program} {f : FuncId} {args : Array Value} {w : World} {v : Value} (h : Calls P f args w fun e w' => e = .returned v ∧ w' = w) : Calls P f args w fun e w' => e = .returned v ∧ ∃ m, w' = w.drewN m :=
  h.mono fun _ _ ⟨he, hw⟩ => ⟨he, 0, hw⟩

set_option maxRecDepth 100000 in
set_option maxHeartbeats 12800000 in
theorem indexRune_two (s : List UInt8) (c : Nat) (b0 b1 : UInt8) (w : World) (h1 : 128 ≤ c) (h2 : c < 2048) (hb0 : UInt8.ofNat (192 + c / 64) = b0) (hb1 : UInt8.ofNat (128 + c % 64) = b1) (hl : s.length ≤ 1000) (hfew : Few s) :
    Calls Tryz.prog 165 #[.string (str s), .int .i32 (c : Int)] w fun e w' => (∃ z : Int, e = .returned (.int .i64 z) ∧ ((z = -1 ∧ ∀ t, ¬ occ2 s b0 b1 t) ∨ ∃ t : Nat, z = (t : Int) ∧ occ2 s b0 b1 t ∧ ∀ t', t' < t → ¬ occ2 s b0 b1 t')) ∧ ∃ q, w' = w.drewN q := by
  have t1 : decide ((0 : Int) ≤ (c : Int)) = true := by simp
  have t2 : decide ((c : Int) < 128) = false := by simp; omega
  have t3 : ((c : Int) == 65533) = false := eqb_false (by omega)
  have HV := Lib.hid (validRune_any c w (by omega))
  have HFew := Lib.hid hfew
  have HIB := Lib.hid (fun (k : Nat) W => indexByte_any (s.drop k) b1 W)
  have HCO := Lib.hid (fun (n : Nat) W (h : n ≤ 1000000) => cutover_any n W h)
  have he := encode_two h1 h2
  rw [hb0, hb1] at he
  have hsz : (str s).size = s.length := rfl
  obtain ⟨rb, hrb⟩ : ∃ rb, str [b0, b1] = rb := ⟨_, rfl⟩
  rw [hrb] at he
  have hs2 : rb.size = 2 := by rw [← hrb]; rfl
  have hr1 : ∀ h : 1 < rb.size, rb[1]'h = b1 := by subst hrb; intro _; rfl
  have hr0 : ∀ h : 0 < rb.size, rb[0]'h = b0 := by subst hrb; intro _; rfl
  clear hrb
  have HB1 : Hid (128 ≤ b1.toNat ∧ b1.toNat < 192) := Lib.hid (by rw [← hb1, byte_of (by omega)]; omega)
  clear hb0 hb1 hfew
  go_enter Tryz.func165, Tryz.ntmps165
  go_wp2_with fail
  refine HV.out.mono ?_
  rintro e w1 ⟨rfl, rfl⟩
  go_wp2
  go_step3
  go_wp2
  go_loopw [9, 10, 11, 12] (fun s9 s10 _ _ wr => ∃ i i0 f q : Nat, s9 = .int .i64 (i : Int) ∧ Hid (i = i0 + 1) ∧ s10 = .int .i64 (f : Int) ∧ Hid (wr = w1.drewN q) ∧ Hid (∀ t, t < i0 → ¬ occ2 s b0 b1 t) ∧ Hid (f ≤ (s.take (i0 + 1)).count b1) ∧ f ≤ 1000) (fun s9 _ _ _ _ => s.length + 1 - (intOf s9).toNat)
  case atStart => exact ⟨1, 0, 0, 0, by first | rfl | go_num, Lib.hid rfl, rfl, Lib.hid rfl, Lib.hid (by omega), Lib.hid (Nat.zero_le _), by omega⟩
  case round =>
    obtain ⟨i, i0, f, q, rfl, HII, rfl, HW, HO, HF, hf⟩ := hrel
    have hii := HII.out
    by_cases hlt : i < s.length
    · have t4 : decide ((i : Int) < (s.length : Int)) = true := by simp; omega
      have hi2 : i < (str s).size := hlt
      obtain ⟨x, hx⟩ : ∃ x, (str s)[i] = x := ⟨_, rfl⟩
      have hxs : s[i]? = some x := by rw [← hx]; exact str_at s _ hi2
      have HX := Lib.hid hxs
      by_cases hxb : x = b1
      · have t5 := byte_same hxb
        have HK : Hid (s[i0 + 1]? = some b1 ∧ i0 + 1 < s.length ∧ i0 ≤ i0 ∧ (∀ t, t < i0 → ¬ occ2 s b0 b1 t) ∧ f ≤ (s.take (i0 + 1)).count b1) := Lib.hid ⟨by rw [← hii, hxs, hxb], by omega, Nat.le_refl _, HO.out, HF.out⟩
        clear hxs hxb hii
        go_wp2
        refine wp_scope_fwd 0 rfl ?_
        go_wp2
        go_big_quiet (fail)
        obtain ⟨wZ, hwZ⟩ : ∃ wZ, wr.drewN nq = wZ := ⟨_, rfl⟩
        have HWZ : Hid (∃ n, wZ = w1.drewN n) := Lib.hid ⟨_, by rw [← hwZ, HW.out, World.drewN_drewN]⟩
        rw [hwZ]
        clear hwZ

        have hkl : i0 + 1 < s.length := HK.out.2.1
        have hk2 : i0 < (str s).size := by rw [hsz]; omega
        have hii := HII.out
        have ep : (i : Int) - 1 = (i0 : Int) := by omega
        obtain ⟨k2, hk22⟩ : ∃ k2, k2 = i0 + 2 := ⟨_, rfl⟩
        have HK2 := Lib.hid hk22
        obtain ⟨y, hy⟩ : ∃ y, (str s)[i0] = y := ⟨_, rfl⟩
        have hys : s[i0]? = some y := by rw [← hy]; exact str_at s _ hk2
        by_cases hyb : y = b0
        · have t7 := byte_same hyb
          have HE : Hid (occ2 s b0 b1 i0 ∧ ∀ t', t' < i0 → ¬ occ2 s b0 b1 t') := Lib.hid ⟨⟨by rw [hys, hyb], HK.out.1⟩, HK.out.2.2.2.1⟩
          clear hys hyb hii hk22
          go_wp2
          refine wp_loop_rounds 2 ?_
          rw [rounds_succ]
          go_wp2
          go_big_quiet (fail)
          go_wp2
          rw [rounds_succ]
          go_wp2
          simp +zetaDelta only [Exit.jump, Exit.inBlock, Exit.then, Exit.noGoto]
          refine bodyPost_ret (results_tmp rfl _ _ _) rfl ?_
          exact ⟨⟨(i0 : Int), rfl, .inr ⟨i0, rfl, HE.out⟩⟩, by obtain ⟨n, hn⟩ := HWZ.out; exact ⟨_, by rw [hn, World.drewN_drewN]⟩⟩
        · have t7 := byte_ne hyb
          obtain ⟨f1, hf1⟩ : ∃ f1, f1 = f + 1 := ⟨_, rfl⟩
          have ef : (f : Int) + 1 = (f1 : Int) := by omega
          have e3 : (i : Int) + 1 = (k2 : Int) := by omega
          have hcount := count_next HK.out.1
          have hfw := HFew.out (i0 + 1) b1 HB1.out.1 HB1.out.2 HK.out.1
          have hfk := HK.out.2.2.2.2
          obtain ⟨ct, hct⟩ : ∃ ct, (k2 + 16) / 8 = ct := ⟨_, rfl⟩
          have HCC := HCO.out k2
          rw [hct] at HCC
          have HCC := Lib.hid HCC
          have hfct : ¬ ct < f1 := by omega
          have t8 : decide ((ct : Int) < (f1 : Int)) = false := by simp; omega
          have t8n : decide (ct < f1) = false := by simp; omega
          have HO2 : Hid (∀ t, t < i0 + 1 → ¬ occ2 s b0 b1 t) := Lib.hid fun t ht hoc => by
            by_cases h : t < i0
            · exact HK.out.2.2.2.1 t h hoc
            · obtain rfl : t = i0 := by omega
              have := hoc.1
              rw [hys] at this
              injection this with this
              exact hyb this
          have HF2 : Hid (f1 ≤ (s.take (i0 + 1 + 1)).count b1) := Lib.hid (by omega)
          have hf1k : f1 ≤ 1000 := by omega
          have hik : i0 ≤ i0 := HK.out.2.2.1
          clear hys hyb hf1 hcount hfw hfk hct hii hk22
          go_wp2
          refine wp_loop_rounds 1 ?_
          rw [rounds_succ]
          go_wp2
          go_big_quiet (fail)
          go_wp2
          go_step3
          simp only [Exit.then, Exit.inBlock]
          refine ⟨rfl, ?_⟩
          go_wp2_with fail
          refine (HCC.out _ (by omega)).mono ?_
          rintro e w9 ⟨rfl, rfl⟩
          go_wp2
          go_roundw
          case rel =>
            obtain ⟨n, hn⟩ := HWZ.out
            (repeat apply Exists.intro)
            refine ⟨?_, rfl⟩
            exact ⟨k2, i0 + 1, f1, _, by go_num, HK2, by go_num, Lib.hid (by rw [hn, World.drewN_drewN]), HO2, HF2, hf1k⟩
          case measure => have hii := HII.out; have hk22 := HK2.out; have hii := HII.out; simp [intOf]; omega

      · have t5 := byte_ne hxb
        obtain ⟨j2, hj2⟩ : ∃ j2, j2 = i0 + 2 := ⟨_, rfl⟩
        have e1 : (i : Int) + 1 = (j2 : Int) := by omega
        have HI := HIB.out j2
        obtain ⟨K, hK⟩ : ∃ K, Lib.indexByte (s.drop j2) b1 = K := ⟨_, rfl⟩
        rw [hK] at HI
        have HI := Lib.hid HI
        have HSl : Hid (∀ W, (Instr.sliceAt 9 (.string (str s)) (some (.int .i64 (j2 : Int))) none none).run Tryz.prog W =   .ok (.string (str (s.drop j2))) W) := Lib.hid fun W => string_tail Tryz.underlying9 s j2 (by omega) W
        have hsl := HSl.out
        by_cases hK0 : K < 0
        · have t6 : decide (K < 0) = true := by simpa using hK0
          have HE : Hid (∀ t, ¬ occ2 s b0 b1 t) := Lib.hid fun t ht => by
            have hm1 : K = -1 := by have := Lib.indexByte_ge (s.drop j2) b1; omega
            have hno := Lib.indexByte_none (hK.trans hm1)
            have h0 : ¬ t < i0 := fun h => HO.out t h ht
            by_cases h1 : t = i0
            · rw [h1] at ht
              have := ht.2
              rw [← hii, hxs] at this
              injection this with this
              exact hxb this
            · have := hno (t - (i0 + 1))
              rw [List.getElem?_drop] at this
              exact this (by rw [show j2 + (t - (i0 + 1)) = t + 1 by omega]; exact ht.2)
          clear hK hK0 hxs hxb hj2 hii
          go_wp2
          refine wp_scope_fwd 0 rfl ?_
          go_wp2
          go_big_quiet (fail)
          obtain ⟨wA, hwA⟩ : ∃ wA, wr.drewN nq = wA := ⟨_, rfl⟩
          have HWA : Hid (∃ n, wA = w1.drewN n) := Lib.hid ⟨_, by rw [← hwA, HW.out, World.drewN_drewN]⟩
          rw [hwA]
          clear hwA

          go_wp2
          go_big_quiet (first | (go_at_call 170; exact Calls.quiet_of (quiet_same (HI.out _))))
          go_wp2
          simp +zetaDelta only [Exit.jump, Exit.inBlock, Exit.then, Exit.noGoto]
          refine bodyPost_ret (results_tmp rfl _ _ _) rfl ?_
          exact ⟨⟨-1, rfl, .inl ⟨rfl, HE.out⟩⟩, by obtain ⟨n, hn⟩ := HWA.out; exact ⟨_, by rw [hn, World.drewN_drewN]⟩⟩
        · have t6 : decide (K < 0) = false := by simpa using hK0
          obtain ⟨o, rfl⟩ : ∃ o : Nat, K = (o : Int) := ⟨K.toNat, by omega⟩
          obtain ⟨k0, hk0⟩ : ∃ k0, k0 = i0 + 1 + o := ⟨_, rfl⟩
          obtain ⟨k, hk⟩ : ∃ k, k = k0 + 1 := ⟨_, rfl⟩
          have HKK := Lib.hid hk
          have e2 : (i : Int) + ((o : Int) + 1) = (k : Int) := by omega
          have HK : Hid (s[k0 + 1]? = some b1 ∧ k0 + 1 < s.length ∧ i0 ≤ k0 ∧ (∀ t, t < k0 → ¬ occ2 s b0 b1 t) ∧ f ≤ (s.take (k0 + 1)).count b1) := Lib.hid (by
            obtain ⟨g1, g2⟩ := Lib.indexByte_some hK
            rw [List.getElem?_drop, show j2 + o = k0 + 1 by omega] at g1
            refine ⟨g1, get_lt' g1, by omega, fun t ht hoc => ?_, Nat.le_trans HF.out (count_le (by omega))⟩
            have h0 : ¬ t < i0 := fun h => HO.out t h hoc
            by_cases h1 : t = i0
            · rw [h1] at hoc
              have := hoc.2
              rw [← hii, hxs] at this
              injection this with this
              exact hxb this
            · have := g2 (t - (i0 + 1)) (by omega)
              rw [List.getElem?_drop] at this
              exact this (by rw [show j2 + (t - (i0 + 1)) = t + 1 by omega]; exact hoc.2))
          clear hK hK0 hxs hxb hk0 hk hj2 hii
          go_wp2
          refine wp_scope_fwd 0 rfl ?_
          go_wp2
          go_big_quiet (fail)
          obtain ⟨wA, hwA⟩ : ∃ wA, wr.drewN nq = wA := ⟨_, rfl⟩
          have HWA : Hid (∃ n, wA = w1.drewN n) := Lib.hid ⟨_, by rw [← hwA, HW.out, World.drewN_drewN]⟩
          rw [hwA]
          clear hwA

          go_wp2
          go_big_quiet (first | (go_at_call 170; exact Calls.quiet_of (quiet_same (HI.out _))))
          obtain ⟨wZ, hwZ⟩ : ∃ wZ, wA.drewN nq = wZ := ⟨_, rfl⟩
          have HWZ : Hid (∃ n, wZ = w1.drewN n) := Lib.hid (by obtain ⟨n, hn⟩ := HWA.out; exact ⟨_, by rw [← hwZ, hn, World.drewN_drewN]⟩)
          rw [hwZ]
          clear hwZ

          have hkl : k0 + 1 < s.length := HK.out.2.1
          have hk2 : k0 < (str s).size := by rw [hsz]; omega
          have hkk := HKK.out
          have ep : (k : Int) - 1 = (k0 : Int) := by omega
          obtain ⟨k2, hk22⟩ : ∃ k2, k2 = k0 + 2 := ⟨_, rfl⟩
          have HK2 := Lib.hid hk22
          obtain ⟨y, hy⟩ : ∃ y, (str s)[k0] = y := ⟨_, rfl⟩
          have hys : s[k0]? = some y := by rw [← hy]; exact str_at s _ hk2
          by_cases hyb : y = b0
          · have t7 := byte_same hyb
            have HE : Hid (occ2 s b0 b1 k0 ∧ ∀ t', t' < k0 → ¬ occ2 s b0 b1 t') := Lib.hid ⟨⟨by rw [hys, hyb], HK.out.1⟩, HK.out.2.2.2.1⟩
            clear hys hyb hkk hk22
            go_wp2
            refine wp_loop_rounds 2 ?_
            rw [rounds_succ]
            go_wp2
            go_big_quiet (fail)
            go_wp2
            rw [rounds_succ]
            go_wp2
            simp +zetaDelta only [Exit.jump, Exit.inBlock, Exit.then, Exit.noGoto]
            refine bodyPost_ret (results_tmp rfl _ _ _) rfl ?_
            exact ⟨⟨(k0 : Int), rfl, .inr ⟨k0, rfl, HE.out⟩⟩, by obtain ⟨n, hn⟩ := HWZ.out; exact ⟨_, by rw [hn, World.drewN_drewN]⟩⟩
          · have t7 := byte_ne hyb
            obtain ⟨f1, hf1⟩ : ∃ f1, f1 = f + 1 := ⟨_, rfl⟩
            have ef : (f : Int) + 1 = (f1 : Int) := by omega
            have e3 : (k : Int) + 1 = (k2 : Int) := by omega
            have hcount := count_next HK.out.1
            have hfw := HFew.out (k0 + 1) b1 HB1.out.1 HB1.out.2 HK.out.1
            have hfk := HK.out.2.2.2.2
            obtain ⟨ct, hct⟩ : ∃ ct, (k2 + 16) / 8 = ct := ⟨_, rfl⟩
            have HCC := HCO.out k2
            rw [hct] at HCC
            have HCC := Lib.hid HCC
            have hfct : ¬ ct < f1 := by omega
            have t8 : decide ((ct : Int) < (f1 : Int)) = false := by simp; omega
            have t8n : decide (ct < f1) = false := by simp; omega
            have HO2 : Hid (∀ t, t < k0 + 1 → ¬ occ2 s b0 b1 t) := Lib.hid fun t ht hoc => by
              by_cases h : t < k0
              · exact HK.out.2.2.2.1 t h hoc
              · obtain rfl : t = k0 := by omega
                have := hoc.1
                rw [hys] at this
                injection this with this
                exact hyb this
            have HF2 : Hid (f1 ≤ (s.take (k0 + 1 + 1)).count b1) := Lib.hid (by omega)
            have hf1k : f1 ≤ 1000 := by omega
            have hik : i0 ≤ k0 := HK.out.2.2.1
            clear hys hyb hf1 hcount hfw hfk hct hkk hk22
            go_wp2
            refine wp_loop_rounds 1 ?_
            rw [rounds_succ]
            go_wp2
            go_big_quiet (fail)
            go_wp2
            go_step3
            simp only [Exit.then, Exit.inBlock]
            refine ⟨rfl, ?_⟩
            go_wp2_with fail
            refine (HCC.out _ (by omega)).mono ?_
            rintro e w9 ⟨rfl, rfl⟩
            go_wp2
            go_roundw
            case rel =>
              obtain ⟨n, hn⟩ := HWZ.out
              (repeat apply Exists.intro)
              refine ⟨?_, rfl⟩
              exact ⟨k2, k0 + 1, f1, _, by go_num, HK2, by go_num, Lib.hid (by rw [hn, World.drewN_drewN]), HO2, HF2, hf1k⟩
            case measure => have hkk := HKK.out; have hk22 := HK2.out; have hii := HII.out; simp [intOf]; omega

    · have t4 : decide ((i : Int) < (s.length : Int)) = false := by simp; omega
      have HE : Hid (∀ t, ¬ occ2 s b0 b1 t) := Lib.hid fun t ht => by
        by_cases h : t < i0
        · exact HO.out t h ht
        · have := get_lt' ht.2
          omega
      clear hii
      go_wp2
      simp +zetaDelta only [Exit.inBlock, Exit.noGoto]
      refine bodyPost_ret (results_tmp rfl _ _ _) rfl ?_
      exact ⟨⟨-1, rfl, .inl ⟨rfl, HE.out⟩⟩, _, HW.out⟩

end Go.Proofs.YtbnchnbblchmnaaGreatDoor

namespace Go.Proofs.YtbnchnbblchmnaaGreatDoor

section
variable (cl : Nat → Nat)
def Asc (l : List Nat) : Prop := l.Pairwise fun x y => cl x ≤ cl y
def flt (k : Nat) (l : List Nat) : List Nat := l.filter fun x => Nat.beq (cl x) k
/-- The same elements, those of one class in the same order. -/
def Stab (l m : List Nat) : Prop := ∀ k, flt cl k m = flt cl k l
/-- m is l, sorted by classes, those of one class in the same order. -/
def Srtd (l m : List Nat) : Prop := Asc cl m ∧ Stab cl l m
end

section
variable {cl : Nat → Nat}
theorem flt_app (k : Nat) (l m : List Nat) : flt cl k (l ++ m) = flt cl k l ++ flt cl k m := List.filter_append ..
theorem mem_flt {k y : Nat} {l : List Nat} : y ∈ flt cl k l ↔ y ∈ l ∧ cl y = k := by
  unfold flt
  rw [List.mem_filter, Nat.beq_eq]
theorem Stab.refl (l : List Nat) : Stab cl l l := fun _ => rfl
theorem Stab.symm {l m : List Nat} (h : Stab cl l m) : Stab cl m l := fun k => (h k).symm
theorem Stab.trans {l m n : List Nat} (h : Stab cl l m) (h2 : Stab cl m n) : Stab cl l n := fun k => (h2 k).trans (h k)
theorem Stab.app {l m l' m' : List Nat} (h : Stab cl l m) (h2 : Stab cl l' m') : Stab cl (l ++ l') (m ++ m') := fun k => by rw [flt_app, flt_app, h k, h2 k]
theorem Stab.mem {l m : List Nat} (h : Stab cl l m) {y : Nat} : y ∈ m ↔ y ∈ l := by
  constructor
  · intro hy
    have : y ∈ flt cl (cl y) m := mem_flt.2 ⟨hy, rfl⟩
    rw [h] at this
    exact (mem_flt.1 this).1
  · intro hy
    have : y ∈ flt cl (cl y) l := mem_flt.2 ⟨hy, rfl⟩
    rw [← h] at this
    exact (mem_flt.1 this).1
theorem Stab.perm {l m : List Nat} (h : Stab cl l m) : l.Perm m := by
  rw [List.perm_iff_count]
  intro y
  have e : ∀ s : List Nat, s.count y = (flt cl (cl y) s).count y := fun s => by
    unfold flt
    rw [List.count_filter]
    rw [Nat.beq_eq]
  rw [e l, e m, h]
theorem Stab.length {l m : List Nat} (h : Stab cl l m) : m.length = l.length := h.perm.length_eq.symm
theorem flt_nil {k : Nat} {l : List Nat} (h : ∀ x ∈ l, cl x ≠ k) : flt cl k l = [] := by
  unfold flt
  rw [List.filter_eq_nil_iff]
  intro x hx
  rw [Nat.beq_eq]
  exact h x hx
/-- Two parts without a class in common. -/
theorem Stab.exch {U V : List Nat} (h : ∀ u ∈ U, ∀ v ∈ V, cl v < cl u) : Stab cl (U ++ V) (V ++ U) := by
  intro k
  rw [flt_app, flt_app]
  by_cases hu : ∃ u ∈ U, cl u = k
  · obtain ⟨u, hu, rfl⟩ := hu
    rw [flt_nil (l := V) fun v hv => by have := h u hu v hv; omega]
    simp
  · rw [flt_nil (l := U) fun u hu2 e => hu ⟨u, hu2, e⟩]
    simp
theorem srt_uniq : ∀ (l m : List Nat), Asc cl l → Asc cl m → Stab cl l m → l = m
  | [], m, _, _, h => by
    cases m with
    | nil => rfl
    | cons y m => exact absurd (h.mem.1 (List.mem_cons_self ..)) (by simp)
  | x :: l, [], _, _, h => absurd (h.mem.2 (List.mem_cons_self ..)) (by simp)
  | x :: l, y :: m, ha, hb, h => by
    have hab : cl x = cl y := by
      have h1 : cl x ≤ cl y := by
        have := h.mem.1 (List.mem_cons_self (a := y))
        rcases List.mem_cons.1 this with e | e
        · rw [e]; exact Nat.le_refl _
        · exact List.rel_of_pairwise_cons ha e
      have h2 : cl y ≤ cl x := by
        have := h.mem.2 (List.mem_cons_self (a := x))
        rcases List.mem_cons.1 this with e | e
        · rw [e]; exact Nat.le_refl _
        · exact List.rel_of_pairwise_cons hb e
      omega
    have hk := h (cl x)
    have e1 : flt cl (cl x) (x :: l) = x :: flt cl (cl x) l := by
      unfold flt
      rw [List.filter_cons_of_pos (by rw [Nat.beq_eq])]
    have e2 : flt cl (cl x) (y :: m) = y :: flt cl (cl x) m := by
      unfold flt
      rw [List.filter_cons_of_pos (by rw [Nat.beq_eq]; omega)]
    rw [e1, e2] at hk
    injection hk with hxy ht
    subst hxy
    congr 1
    refine srt_uniq l m (List.Pairwise.of_cons ha) (List.Pairwise.of_cons hb) fun k => ?_
    by_cases hkc : cl y = k
    · subst hkc; exact ht
    · have := h k
      have e3 : ∀ s, flt cl k (y :: s) = flt cl k s := fun s => by
        unfold flt
        rw [List.filter_cons_of_neg (by rw [Nat.beq_eq]; exact hkc)]
      rwa [e3, e3] at this
theorem Srtd.uniq {l m n : List Nat} (h : Srtd cl l m) (h2 : Srtd cl l n) : m = n := srt_uniq m n h.1 h2.1 (h.2.symm.trans h2.2)
theorem Srtd.of_stab {l l' m : List Nat} (h : Stab cl l l') (h2 : Srtd cl l' m) : Srtd cl l m := ⟨h2.1, h.trans h2.2⟩
theorem Srtd.self {l : List Nat} (h : Asc cl l) : Srtd cl l l := ⟨h, Stab.refl l⟩
theorem Srtd.length {l m : List Nat} (h : Srtd cl l m) : m.length = l.length := h.2.length
theorem asc_app {l m : List Nat} : Asc cl (l ++ m) ↔ Asc cl l ∧ Asc cl m ∧ ∀ a ∈ l, ∀ b ∈ m, cl a ≤ cl b := List.pairwise_append
theorem asc_one (x : Nat) : Asc cl [x] := List.pairwise_singleton ..
theorem asc_nil : Asc cl [] := List.Pairwise.nil
/-- Two parts, all of the first one at most as great as all of the second one. -/
theorem Srtd.app {l m l' m' : List Nat} (h : Srtd cl l m) (h' : Srtd cl l' m') (hx : ∀ a ∈ l, ∀ b ∈ l', cl a ≤ cl b) : Srtd cl (l ++ l') (m ++ m') :=
  ⟨asc_app.2 ⟨h.1, h'.1, fun a ha b hb => hx a (h.2.mem.1 ha) b (h'.2.mem.1 hb)⟩, h.2.app h'.2⟩
/-- One element ahead of a sorted list. -/
theorem srt_left {x : Nat} {V1 V2 : List Nat} (hs : Asc cl (V1 ++ V2)) (h1 : ∀ v ∈ V1, cl v < cl x) (h2 : ∀ v ∈ V2, cl x ≤ cl v) : Srtd cl (x :: (V1 ++ V2)) (V1 ++ x :: V2) := by
  refine ⟨?_, ?_⟩
  · obtain ⟨a1, a2, a3⟩ := asc_app.1 hs
    refine asc_app.2 ⟨a1, List.pairwise_cons.2 ⟨h2, a2⟩, fun a ha b hb => ?_⟩
    rcases List.mem_cons.1 hb with rfl | hb
    · exact Nat.le_of_lt (h1 a ha)
    · exact a3 a ha b hb
  · have := (Stab.exch (cl := cl) (U := [x]) (V := V1) fun u hu v hv => by rw [List.mem_singleton] at hu; subst hu; exact h1 v hv).app (Stab.refl V2)
    simpa using this
/-- One element behind a sorted list. -/
theorem srt_right {y : Nat} {U1 U2 : List Nat} (hs : Asc cl (U1 ++ U2)) (h1 : ∀ u ∈ U1, cl u ≤ cl y) (h2 : ∀ u ∈ U2, cl y < cl u) : Srtd cl ((U1 ++ U2) ++ [y]) (U1 ++ y :: U2) := by
  refine ⟨?_, ?_⟩
  · obtain ⟨a1, a2, a3⟩ := asc_app.1 hs
    refine asc_app.2 ⟨a1, List.pairwise_cons.2 ⟨fun u hu => Nat.le_of_lt (h2 u hu), a2⟩, fun a ha b hb => ?_⟩
    rcases List.mem_cons.1 hb with rfl | hb
    · exact h1 a ha
    · exact a3 a ha b hb
  · have := (Stab.refl (cl := cl) U1).app (Stab.exch (cl := cl) (U := U2) (V := [y]) fun u hu v hv => by rw [List.mem_singleton] at hv; subst hv; exact h2 u hu)
    simpa using this
/-- Two sorted lists, cut so that the first parts are at most as great as the second ones: the parts are exchanged and merged. -/
theorem srt_merge {A1 U2 V1 V2 M1 M2 : List Nat} (hU : Asc cl (A1 ++ U2)) (hV : Asc cl (V1 ++ V2)) (h1 : ∀ u ∈ U2, ∀ v ∈ V1, cl v < cl u) (h2 : ∀ a ∈ A1, ∀ v ∈ V2, cl a ≤ cl v)
    (hm1 : Srtd cl (A1 ++ V1) M1) (hm2 : Srtd cl (U2 ++ V2) M2) : Srtd cl ((A1 ++ U2) ++ (V1 ++ V2)) (M1 ++ M2) := by
  obtain ⟨a1, a2, a3⟩ := asc_app.1 hU
  obtain ⟨b1, b2, b3⟩ := asc_app.1 hV
  have h : Srtd cl ((A1 ++ V1) ++ (U2 ++ V2)) (M1 ++ M2) := hm1.app hm2 fun a ha b hb => by
    rcases List.mem_append.1 ha with ha | ha
    · rcases List.mem_append.1 hb with hb | hb
      · exact a3 a ha b hb
      · exact h2 a ha b hb
    · rcases List.mem_append.1 hb with hb | hb
      · exact Nat.le_of_lt (h1 b hb a ha)
      · exact b3 a ha b hb
  refine Srtd.of_stab ?_ h
  have := ((Stab.refl (cl := cl) A1).app (Stab.exch h1)).app (Stab.refl V2)
  simpa using this
theorem asc_get {l : List Nat} (h : Asc cl l) {i j x y : Nat} (hi : l[i]? = some x) (hj : l[j]? = some y) (hij : i ≤ j) : cl x ≤ cl y := by
  rcases Nat.lt_or_ge i j with h2 | h2
  · obtain ⟨hil, rfl⟩ := List.getElem?_eq_some_iff.1 hi
    obtain ⟨hjl, rfl⟩ := List.getElem?_eq_some_iff.1 hj
    exact List.pairwise_iff_getElem.1 h i j hil hjl h2
  · obtain rfl : i = j := by omega
    rw [hi] at hj
    cases hj
    exact Nat.le_refl _
end

end Go.Proofs.YtbnchnbblchmnaaGreatDoor

namespace Go.Proofs.YtbnchnbblchmnaaGreatDoor

section
variable {cl : Nat → Nat}
theorem mem_drop_get {l : List Nat} {s u : Nat} (h : u ∈ l.drop s) : ∃ i, s ≤ i ∧ l[i]? = some u := by
  obtain ⟨i, hi⟩ := List.getElem?_of_mem h
  rw [List.getElem?_drop] at hi
  exact ⟨s + i, by omega, hi⟩
theorem mem_take_get {l : List Nat} {s u : Nat} (h : u ∈ l.take s) : ∃ i, i < s ∧ l[i]? = some u := by
  obtain ⟨i, hi⟩ := List.getElem?_of_mem h
  rw [List.getElem?_take] at hi
  split at hi
  · exact ⟨i, by assumption, hi⟩
  · cases hi
theorem get_lt {l : List Nat} {i x : Nat} (h : l[i]? = some x) : i < l.length := (List.getElem?_eq_some_iff.1 h).1
theorem get_some {l : List Nat} {i : Nat} (h : i < l.length) : ∃ x, l[i]? = some x := ⟨_, List.getElem?_eq_getElem h⟩
/-- The cut that the search finds. -/
theorem sym_cut {U V : List Nat} {h s : Nat} (hU : Asc cl U) (hV : Asc cl V) (hh : h = (U.length + V.length) / 2) (hlo : h - V.length ≤ s) (hhi1 : s ≤ h) (hhi2 : s ≤ U.length)
    (h1 : ∀ c x y, h - V.length ≤ c → c < s → U[c]? = some x → V[h - 1 - c]? = some y → cl x ≤ cl y)
    (h2 : ∀ c x y, s ≤ c → c < h → c < U.length → U[c]? = some x → V[h - 1 - c]? = some y → cl y < cl x) :
    (∀ u ∈ U.drop s, ∀ v ∈ V.take (h - s), cl v < cl u) ∧ (∀ a ∈ U.take s, ∀ v ∈ V.drop (h - s), cl a ≤ cl v) := by
  constructor
  · intro u hu v hv
    obtain ⟨i, hi, hiu⟩ := mem_drop_get hu
    obtain ⟨j, hj, hjv⟩ := mem_take_get hv
    have l1 := get_lt hiu
    have l2 := get_lt hjv
    obtain ⟨x, hx⟩ := get_some (l := U) (i := s) (by omega)
    obtain ⟨y, hy⟩ := get_some (l := V) (i := h - 1 - s) (by omega)
    have e1 := h2 s x y (Nat.le_refl _) (by omega) (by omega) hx hy
    have e2 := asc_get hV hjv hy (by omega)
    have e3 := asc_get hU hx hiu hi
    omega
  · intro u hu v hv
    obtain ⟨i, hi, hiu⟩ := mem_take_get hu
    obtain ⟨j, hj, hjv⟩ := mem_drop_get hv
    have l1 := get_lt hiu
    have l2 := get_lt hjv
    obtain ⟨x, hx⟩ := get_some (l := U) (i := s - 1) (by omega)
    obtain ⟨y, hy⟩ := get_some (l := V) (i := h - 1 - (s - 1)) (by omega)
    have e1 := h1 (s - 1) x y (by omega) (by omega) hx hy
    have e2 := asc_get hV hy hjv (by omega)
    have e3 := asc_get hU hiu hx (by omega)
    omega

/-- Sorted in blocks of s, from lo to hi. -/
def Blk (cl : Nat → Nat) (s lo hi : Nat) (X : List Nat) : Prop := ∀ i j x y, lo ≤ i → i ≤ j → j < hi → i / s = j / s → X[i]? = some x → X[j]? = some y → cl x ≤ cl y
theorem Blk.none (s lo : Nat) (X : List Nat) : Blk cl s lo lo X := fun i j _ _ h1 h2 h3 => by omega
theorem div_at {k s i : Nat} (hi : i < s) : (k * s + i) / s = k := by
  rw [Nat.mul_comm, Nat.mul_add_div (by omega), Nat.div_eq_of_lt hi, Nat.add_zero]
theorem get_left {P R : List Nat} {i : Nat} (h : i < P.length) : (P ++ R)[i]? = P[i]? := List.getElem?_append_left h
theorem get_right {P R : List Nat} {i : Nat} (h : P.length ≤ i) : (P ++ R)[i]? = R[i - P.length]? := List.getElem?_append_right h
theorem asc_of_blk {s lo hi k : Nat} {P U R : List Nat} (h : Blk cl s lo hi (P ++ (U ++ R))) (h1 : lo ≤ P.length) (h2 : P.length + U.length ≤ hi) (hk : P.length = k * s) (hs : U.length ≤ s) : Asc cl U := by
  refine List.pairwise_iff_getElem.2 fun i j hi' hj' hij => ?_
  refine h (P.length + i) (P.length + j) _ _ (by omega) (by omega) (by omega) ?_ ?_ ?_
  · rw [hk, div_at (by omega), div_at (by omega)]
  · rw [get_right (by omega), Nat.add_sub_cancel_left, get_left hi']
    exact List.getElem?_eq_getElem hi'
  · rw [get_right (by omega), Nat.add_sub_cancel_left, get_left hj']
    exact List.getElem?_eq_getElem hj'
theorem blk_step {s k : Nat} {P M Q R : List Nat} (h : Blk cl s 0 P.length (P ++ R)) (hM : Asc cl M) (hs : M.length ≤ s) (hk : P.length = k * s) : Blk cl s 0 (P.length + M.length) (P ++ (M ++ Q)) := by
  intro i j x y _ h2 h3 h4 hx hy
  by_cases hj : j < P.length
  · rw [get_left (by omega)] at hx hy
    exact h i j x y (Nat.zero_le _) h2 hj h4 (by rw [get_left (by omega)]; exact hx) (by rw [get_left (by omega)]; exact hy)
  · have e : j / s = k := by
      have : j = k * s + (j - P.length) := by omega
      rw [this, div_at (by omega)]
    have hi : P.length ≤ i := by
      have := Nat.div_mul_le_self i s
      rw [h4, e] at this
      omega
    rw [get_right (by omega), get_left (by omega)] at hx hy
    exact asc_get hM hx hy (by omega)
/-- What lies behind is as it was. -/
theorem blk_behind {s lo hi : Nat} {P U M Q : List Nat} (h : Blk cl s lo hi (P ++ (U ++ Q))) (hl : M.length = U.length) (h1 : lo ≤ P.length + U.length) : Blk cl s (P.length + M.length) hi (P ++ (M ++ Q)) := by
  intro i j x y h2 h3 h4 h5 hx hy
  refine h i j x y (by omega) h3 h4 h5 ?_ ?_
  · rw [get_right (by omega), get_right (by omega)] at hx ⊢
    rw [hl] at hx
    exact hx
  · rw [get_right (by omega), get_right (by omega)] at hy ⊢
    rw [hl] at hy
    exact hy
theorem asc_all {s : Nat} {X : List Nat} (h : Blk cl s 0 X.length X) (hs : X.length ≤ s) : Asc cl X := by
  have := asc_of_blk (P := []) (U := X) (R := []) (k := 0) (s := s) (lo := 0) (hi := X.length) (by simpa using h) (by simp) (by simp) (by simp) hs
  exact this
theorem Blk.less {s lo hi hi' : Nat} {X : List Nat} (h : Blk cl s lo hi X) (hh : hi' ≤ hi) : Blk cl s lo hi' X := fun i j x y h1 h2 h3 => h i j x y h1 h2 (by omega)
/-- The last part, no longer than one block, is sorted as it is. -/
theorem blk_tail {s k : Nat} {P U : List Nat} (h : Blk cl (2 * s) 0 P.length (P ++ U)) (h2 : Blk cl s P.length (P.length + U.length) (P ++ U)) (hk : P.length = k * (2 * s)) (hs : U.length ≤ s) : Blk cl (2 * s) 0 (P.length + U.length) (P ++ U) := by
  have hA : Asc cl U := asc_of_blk (k := k * 2) (P := P) (U := U) (R := []) (s := s) (by simpa using h2) (Nat.le_refl _) (Nat.le_refl _) (by rw [hk, Nat.mul_assoc]) hs
  have := blk_step (M := U) (Q := []) (k := k) h hA (by omega) hk
  simpa using this
theorem Blk.over {s lo hi n : Nat} {X : List Nat} (h : Blk cl s lo hi X) (hn : X.length ≤ hi) : Blk cl s lo n X := fun i j x y h1 h2 _ h4 hx hy => h i j x y h1 h2 (by have := get_lt hy; omega) h4 hx hy
end

end Go.Proofs.YtbnchnbblchmnaaGreatDoor
