/-
  The library's search for a character of two bytes.
  The reference's Valid, Cut.
  The characters of a range over a string, and those of the reference.
-/
import Derived.Test.YtafnjbmeponobaaGreatDoorPkAL
import Derived.BigQuiet
import Derived.Laws.Runes
import Derived.WalkMore
import Derived.ScopeJumps
import Derived.LoopN
import Derived.Deep.RegionWith
import Derived.Test.YtafnjbmeponobaaGreatDoorPkAE
import Derived.Laws.RangeAny
import Derived.Lib.OthersKept
namespace Go.Proofs.YtafnjbmeponobaaGreatDoor
open Go.RowKit

theorem encode_two {c : Nat} (h1 : 128 ≤ c) (h2 : c < 2048) : Utf8.encode (c : Int) = str [UInt8.ofNat (192 + c / 64), UInt8.ofNat (128 + c % 64)] := by
  have hv : Utf8.valid (c : Int) = true := by unfold Utf8.valid; simp; omega
  unfold Utf8.encode
  rw [hv]
  simp only [if_true, Int.toNat_natCast]
  rw [if_neg (by omega), if_pos (by omega)]
  rfl
/-- A scope with one jump ahead. -/
theorem wp_scope_fwd {P : Program} {c rest : Code} {Q : Exit → Act → World → Prop} {a : Act} {w : World} (l : Nat) (hf : findLabel c l = some rest)
    (first : c.wp P (Exit.jump l (fun a w => rest.wp P (Exit.noGoto Q) a w) Q) a w) : (Code.scope c).wp P Q a w := by
  refine wp_scope_jumps l (fun a w => rest.wp P (Exit.noGoto Q) a w) (fun _ _ => 0) hf first fun a w h => ?_
  refine Code.wp_mono ?_ h
  intro e a' w' he
  cases e <;> first | exact he | exact he.elim
/-- These two bytes stand at t. -/
def occ2 (s : List UInt8) (b0 b1 : UInt8) (t : Nat) : Prop := s[t]? = some b0 ∧ s[t + 1]? = some b1
/-- No byte stands so often ahead of a place that the search would change its ways. -/
def Few (s : List UInt8) : Prop := ∀ i b, 128 ≤ b.toNat → b.toNat < 192 → s[i]? = some b → (s.take (i + 1)).count b ≤ (i + 17) / 8
theorem byte_ne {x y : UInt8} (h : ¬ x = y) : ((x.toNat : Int) != (y.toNat : Int)) = true := by
  have : x.toNat ≠ y.toNat := fun e => h (UInt8.toNat_inj.1 e)
  simp
  omega
theorem byte_same {x y : UInt8} (h : x = y) : ((x.toNat : Int) != (y.toNat : Int)) = false := by subst h; simp
theorem count_next {s : List UInt8} {i : Nat} {b : UInt8} (h : s[i]? = some b) : (s.take (i + 1)).count b = (s.take i).count b + 1 := by
  rw [take_next h, List.count_append]
  simp
theorem count_le {s : List UInt8} {i j : Nat} {b : UInt8} (h : i ≤ j) : (s.take i).count b ≤ (s.take j).count b := by
  have : s.take i = (s.take j).take i := by rw [List.take_take, Nat.min_eq_left h]
  rw [this]
  exact (List.take_sublist _ _).count_le _

theorem get_lt' {α : Type} {l : List α} {i : Nat} {x : α} (h : l[i]? = some x) : i < l.length := (List.getElem?_eq_some_iff.1 h).1
theorem string_tail {P : Program} {T : TypeId} (hT : P.underlying T = some .string) (s : List UInt8) (k : Nat) (h : k ≤ s.length) (W : World) :
    (Instr.sliceAt T (.string (str s)) (some (.int .i64 (k : Int))) none none).run P W = .ok (.string (str (s.drop k))) W := by
  rw [run_sliceAt_string W _ _ _ _ _ hT, run_slice_string_l W _ _ hT .i64 (k : Int) (by omega) (by show (k : Int) ≤ (s.length : Int); omega)]
  congr 2
  apply ByteArray.ext
  simp [str]
  exact List.take_of_length_le (by rw [List.length_drop]; exact Nat.le_refl _)
theorem quiet_same {P : Program} {f : FuncId} {args : Array Value} {w : World} {v : Value} (h : Calls P f args w fun e w' => e = .returned v ∧ w' = w) : Calls P f args w fun e w' => e = .returned v ∧ ∃ m, w' = w.drewN m :=
  h.mono fun _ _ ⟨he, hw⟩ => ⟨he, 0, hw⟩

set_option maxRecDepth 100000 in
set_option maxHeartbeats 12800000 in
theorem indexRune_two (s : List UInt8) (c : Nat) (b0 b1 : UInt8) (w : World) (h1 : 128 ≤ c) (h2 : c < 2048) (hb0 : UInt8.ofNat (192 + c / 64) = b0) (hb1 : UInt8.ofNat (128 + c % 64) = b1) (hl : s.length ≤ 1000) (hfew : Few s) :
    Calls Tryz.prog 130 #[.string (str s), .int .i32 (c : Int)] w fun e w' => (∃ z : Int, e = .returned (.int .i64 z) ∧ ((z = -1 ∧ ∀ t, ¬ occ2 s b0 b1 t) ∨ ∃ t : Nat, z = (t : Int) ∧ occ2 s b0 b1 t ∧ ∀ t', t' < t → ¬ occ2 s b0 b1 t')) ∧ ∃ q, w' = w.drewN q := by
  have t1 : decide ((0 : Int) ≤ (c : Int)) = true := by simp
  have t2 : decide ((c : Int) < 128) = false := by simp; omega
  have t3 : ((c : Int) == 65533) = false := eqb_false (by omega)
  have HV := Lib.hid (validRune_any c w (by omega))
  have HFew := Lib.hid hfew
  have HIB := Lib.hid (fun (k : Nat) W => indexByte_any (s.drop k) b1 W)
  have HCO := Lib.hid (fun (n : Nat) W (h : n ≤ 1000000) => cutover_any n W h)
  have he := encode_two h1 h2
  rw [hb0, hb1] at he
  have hsz : (str s).size = s.length := rfl
  obtain ⟨rb, hrb⟩ : ∃ rb, str [b0, b1] = rb := ⟨_, rfl⟩
  rw [hrb] at he
  have hs2 : rb.size = 2 := by rw [← hrb]; rfl
  have hr1 : ∀ h : 1 < rb.size, rb[1]'h = b1 := by subst hrb; intro _; rfl
  have hr0 : ∀ h : 0 < rb.size, rb[0]'h = b0 := by subst hrb; intro _; rfl
  clear hrb
  have HB1 : Hid (128 ≤ b1.toNat ∧ b1.toNat < 192) := Lib.hid (by rw [← hb1, byte_of (by omega)]; omega)
  clear hb0 hb1 hfew
  go_enter Tryz.func130, Tryz.ntmps130
  go_wp2_with fail
  refine HV.out.mono ?_
  rintro e w1 ⟨rfl, rfl⟩
  go_wp2
  go_step3
  go_wp2
  go_loopw [9, 10, 11, 12] (fun s9 s10 _ _ wr => ∃ i i0 f q : Nat, s9 = .int .i64 (i : Int) ∧ Hid (i = i0 + 1) ∧ s10 = .int .i64 (f : Int) ∧ Hid (wr = w1.drewN q) ∧ Hid (∀ t, t < i0 → ¬ occ2 s b0 b1 t) ∧ Hid (f ≤ (s.take (i0 + 1)).count b1) ∧ f ≤ 1000) (fun s9 _ _ _ _ => s.length + 1 - (intOf s9).toNat)
  case atStart => exact ⟨1, 0, 0, 0, by first | rfl | go_num, Lib.hid rfl, rfl, Lib.hid rfl, Lib.hid (by omega), Lib.hid (Nat.zero_le _), by omega⟩
  case round =>
    obtain ⟨i, i0, f, q, rfl, HII, rfl, HW, HO, HF, hf⟩ := hrel
    have hii := HII.out
    by_cases hlt : i < s.length
    · have t4 : decide ((i : Int) < (s.length : Int)) = true := by simp; omega
      have hi2 : i < (str s).size := hlt
      obtain ⟨x, hx⟩ : ∃ x, (str s)[i] = x := ⟨_, rfl⟩
      have hxs : s[i]? = some x := by rw [← hx]; exact str_at s _ hi2
      have HX := Lib.hid hxs
      by_cases hxb : x = b1
      · have t5 := byte_same hxb
        have HK : Hid (s[i0 + 1]? = some b1 ∧ i0 + 1 < s.length ∧ i0 ≤ i0 ∧ (∀ t, t < i0 → ¬ occ2 s b0 b1 t) ∧ f ≤ (s.take (i0 + 1)).count b1) := Lib.hid ⟨by rw [← hii, hxs, hxb], by omega, Nat.le_refl _, HO.out, HF.out⟩
        clear hxs hxb hii
        go_wp2
        refine wp_scope_fwd 0 rfl ?_
        go_wp2
        go_big_quiet (fail)
        obtain ⟨wZ, hwZ⟩ : ∃ wZ, wr.drewN nq = wZ := ⟨_, rfl⟩
        have HWZ : Hid (∃ n, wZ = w1.drewN n) := Lib.hid ⟨_, by rw [← hwZ, HW.out, World.drewN_drewN]⟩
        rw [hwZ]
        clear hwZ

        have hkl : i0 + 1 < s.length := HK.out.2.1
        have hk2 : i0 < (str s).size := by rw [hsz]; omega
        have hii := HII.out
        have ep : (i : Int) - 1 = (i0 : Int) := by omega
        obtain ⟨k2, hk22⟩ : ∃ k2, k2 = i0 + 2 := ⟨_, rfl⟩
        have HK2 := Lib.hid hk22
        obtain ⟨y, hy⟩ : ∃ y, (str s)[i0] = y := ⟨_, rfl⟩
        have hys : s[i0]? = some y := by rw [← hy]; exact str_at s _ hk2
        by_cases hyb : y = b0
        · have t7 := byte_same hyb
          have HE : Hid (occ2 s b0 b1 i0 ∧ ∀ t', t' < i0 → ¬ occ2 s b0 b1 t') := Lib.hid ⟨⟨by rw [hys, hyb], HK.out.1⟩, HK.out.2.2.2.1⟩
          clear hys hyb hii hk22
          go_wp2
          refine wp_loop_rounds 2 ?_
          rw [rounds_succ]
          go_wp2
          go_big_quiet (fail)
          go_wp2
          rw [rounds_succ]
          go_wp2
          simp +zetaDelta only [Exit.jump, Exit.inBlock, Exit.then, Exit.noGoto]
          refine bodyPost_ret (results_tmp rfl _ _ _) rfl ?_
          exact ⟨⟨(i0 : Int), rfl, .inr ⟨i0, rfl, HE.out⟩⟩, by obtain ⟨n, hn⟩ := HWZ.out; exact ⟨_, by rw [hn, World.drewN_drewN]⟩⟩
        · have t7 := byte_ne hyb
          obtain ⟨f1, hf1⟩ : ∃ f1, f1 = f + 1 := ⟨_, rfl⟩
          have ef : (f : Int) + 1 = (f1 : Int) := by omega
          have e3 : (i : Int) + 1 = (k2 : Int) := by omega
          have hcount := count_next HK.out.1
          have hfw := HFew.out (i0 + 1) b1 HB1.out.1 HB1.out.2 HK.out.1
          have hfk := HK.out.2.2.2.2
          obtain ⟨ct, hct⟩ : ∃ ct, (k2 + 16) / 8 = ct := ⟨_, rfl⟩
          have HCC := HCO.out k2
          rw [hct] at HCC
          have HCC := Lib.hid HCC
          have hfct : ¬ ct < f1 := by omega
          have t8 : decide ((ct : Int) < (f1 : Int)) = false := by simp; omega
          have t8n : decide (ct < f1) = false := by simp; omega
          have HO2 : Hid (∀ t, t < i0 + 1 → ¬ occ2 s b0 b1 t) := Lib.hid fun t ht hoc => by
            by_cases h : t < i0
            · exact HK.out.2.2.2.1 t h hoc
            · obtain rfl : t = i0 := by omega
              have := hoc.1
              rw [hys] at this
              injection this with this
              exact hyb this
          have HF2 : Hid (f1 ≤ (s.take (i0 + 1 + 1)).count b1) := Lib.hid (by omega)
          have hf1k : f1 ≤ 1000 := by omega
          have hik : i0 ≤ i0 := HK.out.2.2.1
          clear hys hyb hf1 hcount hfw hfk hct hii hk22
          go_wp2
          refine wp_loop_rounds 1 ?_
          rw [rounds_succ]
          go_wp2
          go_big_quiet (fail)
          go_wp2
          go_step3
          simp only [Exit.then, Exit.inBlock]
          refine ⟨rfl, ?_⟩
          go_wp2_with fail
          refine (HCC.out _ (by omega)).mono ?_
          rintro e w9 ⟨rfl, rfl⟩
          go_wp2
          go_roundw
          case rel =>
            obtain ⟨n, hn⟩ := HWZ.out
            (repeat apply Exists.intro)
            refine ⟨?_, rfl⟩
            exact ⟨k2, i0 + 1, f1, _, by go_num, HK2, by go_num, Lib.hid (by rw [hn, World.drewN_drewN]), HO2, HF2, hf1k⟩
          case measure => have hii := HII.out; have hk22 := HK2.out; have hii := HII.out; simp [intOf]; omega

      · have t5 := byte_ne hxb
        obtain ⟨j2, hj2⟩ : ∃ j2, j2 = i0 + 2 := ⟨_, rfl⟩
        have e1 : (i : Int) + 1 = (j2 : Int) := by omega
        have HI := HIB.out j2
        obtain ⟨K, hK⟩ : ∃ K, Lib.indexByte (s.drop j2) b1 = K := ⟨_, rfl⟩
        rw [hK] at HI
        have HI := Lib.hid HI
        have HSl : Hid (∀ W, (Instr.sliceAt 9 (.string (str s)) (some (.int .i64 (j2 : Int))) none none).run Tryz.prog W =   .ok (.string (str (s.drop j2))) W) := Lib.hid fun W => string_tail Tryz.underlying9 s j2 (by omega) W
        have hsl := HSl.out
        by_cases hK0 : K < 0
        · have t6 : decide (K < 0) = true := by simpa using hK0
          have HE : Hid (∀ t, ¬ occ2 s b0 b1 t) := Lib.hid fun t ht => by
            have hm1 : K = -1 := by have := Lib.indexByte_ge (s.drop j2) b1; omega
            have hno := Lib.indexByte_none (hK.trans hm1)
            have h0 : ¬ t < i0 := fun h => HO.out t h ht
            by_cases h1 : t = i0
            · rw [h1] at ht
              have := ht.2
              rw [← hii, hxs] at this
              injection this with this
              exact hxb this
            · have := hno (t - (i0 + 1))
              rw [List.getElem?_drop] at this
              exact this (by rw [show j2 + (t - (i0 + 1)) = t + 1 by omega]; exact ht.2)
          clear hK hK0 hxs hxb hj2 hii
          go_wp2
          refine wp_scope_fwd 0 rfl ?_
          go_wp2
          go_big_quiet (fail)
          obtain ⟨wA, hwA⟩ : ∃ wA, wr.drewN nq = wA := ⟨_, rfl⟩
          have HWA : Hid (∃ n, wA = w1.drewN n) := Lib.hid ⟨_, by rw [← hwA, HW.out, World.drewN_drewN]⟩
          rw [hwA]
          clear hwA

          go_wp2
          go_big_quiet (first | (go_at_call 134; exact Calls.quiet_of (quiet_same (HI.out _))))
          go_wp2
          simp +zetaDelta only [Exit.jump, Exit.inBlock, Exit.then, Exit.noGoto]
          refine bodyPost_ret (results_tmp rfl _ _ _) rfl ?_
          exact ⟨⟨-1, rfl, .inl ⟨rfl, HE.out⟩⟩, by obtain ⟨n, hn⟩ := HWA.out; exact ⟨_, by rw [hn, World.drewN_drewN]⟩⟩
        · have t6 : decide (K < 0) = false := by simpa using hK0
          obtain ⟨o, rfl⟩ : ∃ o : Nat, K = (o : Int) := ⟨K.toNat, by omega⟩
          obtain ⟨k0, hk0⟩ : ∃ k0, k0 = i0 + 1 + o := ⟨_, rfl⟩
          obtain ⟨k, hk⟩ : ∃ k, k = k0 + 1 := ⟨_, rfl⟩
          have HKK := Lib.hid hk
          have e2 : (i : Int) + ((o : Int) + 1) = (k : Int) := by omega
          have HK : Hid (s[k0 + 1]? = some b1 ∧ k0 + 1 < s.length ∧ i0 ≤ k0 ∧ (∀ t, t < k0 → ¬ occ2 s b0 b1 t) ∧ f ≤ (s.take (k0 + 1)).count b1) := Lib.hid (by
            obtain ⟨g1, g2⟩ := Lib.indexByte_some hK
            rw [List.getElem?_drop, show j2 + o = k0 + 1 by omega] at g1
            refine ⟨g1, get_lt' g1, by omega, fun t ht hoc => ?_, Nat.le_trans HF.out (count_le (by omega))⟩
            have h0 : ¬ t < i0 := fun h => HO.out t h hoc
            by_cases h1 : t = i0
            · rw [h1] at hoc
              have := hoc.2
              rw [← hii, hxs] at this
              injection this with this
              exact hxb this
            · have := g2 (t - (i0 + 1)) (by omega)
              rw [List.getElem?_drop] at this
              exact this (by rw [show j2 + (t - (i0 + 1)) = t + 1 by omega]; exact hoc.2))
          clear hK hK0 hxs hxb hk0 hk hj2 hii
          go_wp2
          refine wp_scope_fwd 0 rfl ?_
          go_wp2
          go_big_quiet (fail)
          obtain ⟨wA, hwA⟩ : ∃ wA, wr.drewN nq = wA := ⟨_, rfl⟩
          have HWA : Hid (∃ n, wA = w1.drewN n) := Lib.hid ⟨_, by rw [← hwA, HW.out, World.drewN_drewN]⟩
          rw [hwA]
          clear hwA

          go_wp2
          go_big_quiet (first | (go_at_call 134; exact Calls.quiet_of (quiet_same (HI.out _))))
          obtain ⟨wZ, hwZ⟩ : ∃ wZ, wA.drewN nq = wZ := ⟨_, rfl⟩
          have HWZ : Hid (∃ n, wZ = w1.drewN n) := Lib.hid (by obtain ⟨n, hn⟩ := HWA.out; exact ⟨_, by rw [← hwZ, hn, World.drewN_drewN]⟩)
          rw [hwZ]
          clear hwZ

          have hkl : k0 + 1 < s.length := HK.out.2.1
          have hk2 : k0 < (str s).size := by rw [hsz]; omega
          have hkk := HKK.out
          have ep : (k : Int) - 1 = (k0 : Int) := by omega
          obtain ⟨k2, hk22⟩ : ∃ k2, k2 = k0 + 2 := ⟨_, rfl⟩
          have HK2 := Lib.hid hk22
          obtain ⟨y, hy⟩ : ∃ y, (str s)[k0] = y := ⟨_, rfl⟩
          have hys : s[k0]? = some y := by rw [← hy]; exact str_at s _ hk2
          by_cases hyb : y = b0
          · have t7 := byte_same hyb
            have HE : Hid (occ2 s b0 b1 k0 ∧ ∀ t', t' < k0 → ¬ occ2 s b0 b1 t') := Lib.hid ⟨⟨by rw [hys, hyb], HK.out.1⟩, HK.out.2.2.2.1⟩
            clear hys hyb hkk hk22
            go_wp2
            refine wp_loop_rounds 2 ?_
            rw [rounds_succ]
            go_wp2
            go_big_quiet (fail)
            go_wp2
            rw [rounds_succ]
            go_wp2
            simp +zetaDelta only [Exit.jump, Exit.inBlock, Exit.then, Exit.noGoto]
            refine bodyPost_ret (results_tmp rfl _ _ _) rfl ?_
            exact ⟨⟨(k0 : Int), rfl, .inr ⟨k0, rfl, HE.out⟩⟩, by obtain ⟨n, hn⟩ := HWZ.out; exact ⟨_, by rw [hn, World.drewN_drewN]⟩⟩
          · have t7 := byte_ne hyb
            obtain ⟨f1, hf1⟩ : ∃ f1, f1 = f + 1 := ⟨_, rfl⟩
            have ef : (f : Int) + 1 = (f1 : Int) := by omega
            have e3 : (k : Int) + 1 = (k2 : Int) := by omega
            have hcount := count_next HK.out.1
            have hfw := HFew.out (k0 + 1) b1 HB1.out.1 HB1.out.2 HK.out.1
            have hfk := HK.out.2.2.2.2
            obtain ⟨ct, hct⟩ : ∃ ct, (k2 + 16) / 8 = ct := ⟨_, rfl⟩
            have HCC := HCO.out k2
            rw [hct] at HCC
            have HCC := Lib.hid HCC
            have hfct : ¬ ct < f1 := by omega
            have t8 : decide ((ct : Int) < (f1 : Int)) = false := by simp; omega
            have t8n : decide (ct < f1) = false := by simp; omega
            have HO2 : Hid (∀ t, t < k0 + 1 → ¬ occ2 s b0 b1 t) := Lib.hid fun t ht hoc => by
              by_cases h : t < k0
              · exact HK.out.2.2.2.1 t h hoc
              · obtain rfl : t = k0 := by omega
                have := hoc.1
                rw [hys] at this
                injection this with this
                exact hyb this
            have HF2 : Hid (f1 ≤ (s.take (k0 + 1 + 1)).count b1) := Lib.hid (by omega)
            have hf1k : f1 ≤ 1000 := by omega
            have hik : i0 ≤ k0 := HK.out.2.2.1
            clear hys hyb hf1 hcount hfw hfk hct hkk hk22
            go_wp2
            refine wp_loop_rounds 1 ?_
            rw [rounds_succ]
            go_wp2
            go_big_quiet (fail)
            go_wp2
            go_step3
            simp only [Exit.then, Exit.inBlock]
            refine ⟨rfl, ?_⟩
            go_wp2_with fail
            refine (HCC.out _ (by omega)).mono ?_
            rintro e w9 ⟨rfl, rfl⟩
            go_wp2
            go_roundw
            case rel =>
              obtain ⟨n, hn⟩ := HWZ.out
              (repeat apply Exists.intro)
              refine ⟨?_, rfl⟩
              exact ⟨k2, k0 + 1, f1, _, by go_num, HK2, by go_num, Lib.hid (by rw [hn, World.drewN_drewN]), HO2, HF2, hf1k⟩
            case measure => have hkk := HKK.out; have hk22 := HK2.out; have hii := HII.out; simp [intOf]; omega

    · have t4 : decide ((i : Int) < (s.length : Int)) = false := by simp; omega
      have HE : Hid (∀ t, ¬ occ2 s b0 b1 t) := Lib.hid fun t ht => by
        by_cases h : t < i0
        · exact HO.out t h ht
        · have := get_lt' ht.2
          omega
      clear hii
      go_wp2
      simp +zetaDelta only [Exit.inBlock, Exit.noGoto]
      refine bodyPost_ret (results_tmp rfl _ _ _) rfl ?_
      exact ⟨⟨-1, rfl, .inl ⟨rfl, HE.out⟩⟩, _, HW.out⟩

end Go.Proofs.YtafnjbmeponobaaGreatDoor

namespace Go.Proofs.YtafnjbmeponobaaGreatDoor
open Go.RowKit

def validR (s : List UInt8) : Bool := decide (1 ≤ s.length) && decide (s.length ≤ 400) && decide (s[0]? ≠ some 32) && decide (s[s.length - 1]? ≠ some 32) && (decR s).isSome
theorem at32 {s : List UInt8} {k : Nat} (h : k < (str s).size) : s[k]? = some 32 ↔ (str s)[k].toNat = 32 := by
  rw [str_at s k h]
  constructor
  · intro h; simp at h; rw [h]; rfl
  · intro h
    have : (str s)[k] = 32 := UInt8.toNat_inj.1 h
    rw [this]

def cutR (s : List UInt8) (n : Int) : List UInt8 := if n < 1 then [] else match decR s with | some l => encL (l.take n.toNat) | none => []
theorem cutR_less {s : List UInt8} {n : Int} (h : n < 1) : cutR s n = [] := if_pos h
theorem cutR_none {s : List UInt8} {n : Int} (h : decR s = none) : cutR s n = [] := by unfold cutR; rw [h]; split <;> rfl
theorem cutR_some {s : List UInt8} {l : List Nat} {n : Int} (h : decR s = some l) (hn : ¬ n < 1) : cutR s n = encL (l.take n.toNat) := by unfold cutR; rw [h, if_neg hn]

end Go.Proofs.YtafnjbmeponobaaGreatDoor

namespace Go.Proofs.YtafnjbmeponobaaGreatDoor
open Go.RowKit

theorem get_str (s : List UInt8) (j : Nat) : (str s).get! j = s.getD j 0 := by
  show (s.toArray)[j]! = _
  simp [List.getD]
  rfl
/-- The character at the beginning of a list of bytes, as Go reads it, and its width. -/
def runeAt (t : List UInt8) : Nat × Nat := Utf8.decode (str t) 0
theorem decode_drop (s : List UInt8) (k : Nat) : Utf8.decode (str s) k = runeAt (s.drop k) := by
  have hg : ∀ j, (str s).get! (k + j) = (str (s.drop k)).get! (0 + j) := by
    intro j
    rw [get_str, get_str]
    simp [List.getD]
  have hl : ∀ j, (k + j < (str s).size) = (0 + j < (str (s.drop k)).size) := by
    intro j
    show (k + j < s.length) = (0 + j < (s.drop k).length)
    rw [List.length_drop]
    simp
    omega
  unfold runeAt Utf8.decode
  simp only [hg, hl]

theorem rune_ascii {b : UInt8} {t : List UInt8} (h : b.toNat < 128) : runeAt (b :: t) = (b.toNat, 1) := by
  unfold runeAt Utf8.decode
  simp only [get_str]
  simp [h]
def goodU (c : Nat) : Bool := decide (c < 55296) || decide (57344 ≤ c)
theorem rune_two {b c1 : UInt8} {t : List UInt8} (h : ¬ b.toNat < 128) (h2 : is2 b.toNat c1.toNat = true) : runeAt (b :: c1 :: t) = (v2 b.toNat c1.toNat, 2) := by
  obtain ⟨k1, k2, k3⟩ := is2_of h2
  have e1 : b.toNat / 32 = 6 := by omega
  have e2 : b.toNat % 32 * 64 + c1.toNat % 64 = v2 b.toNat c1.toNat := by unfold v2; omega
  have e3 : 128 ≤ v2 b.toNat c1.toNat := by unfold v2; omega
  have e4 : (0 + 1 < (str (b :: c1 :: t)).size) = True := by simp [str_size]
  unfold runeAt Utf8.decode
  simp only [get_str, e4]
  simp [h, e1, k3, e2, e3]
theorem valid_nat {c : Nat} (h : c < 65536) : Utf8.valid (c : Int) = goodU c := by
  unfold Utf8.valid goodU
  rw [Bool.eq_iff_iff]
  simp only [Bool.or_eq_true, Bool.and_eq_true, decide_eq_true_eq]
  omega
theorem rune_three {b c1 c2 : UInt8} {t : List UInt8} (h : ¬ b.toNat < 128) (h3 : is3 b.toNat c1.toNat c2.toNat = true) :
    runeAt (b :: c1 :: c2 :: t) = if goodU (v3 b.toNat c1.toNat c2.toNat) = true then (v3 b.toNat c1.toNat c2.toNat, 3) else (65533, 1) := by
  obtain ⟨k1, k2, k3, k4, k5⟩ := is3_of h3
  have e1 : ¬ b.toNat / 32 = 6 := by omega
  have e1' : b.toNat / 16 = 14 := by omega
  have e2 : b.toNat % 16 * 4096 + c1.toNat % 64 * 64 + c2.toNat % 64 = v3 b.toNat c1.toNat c2.toNat := by unfold v3; omega
  have e4 : (0 + 1 < (str (b :: c1 :: c2 :: t)).size) = True := by simp [str_size]
  have e5 : (0 + 2 < (str (b :: c1 :: c2 :: t)).size) = True := by simp [str_size]
  have e6 : v3 b.toNat c1.toNat c2.toNat < 65536 := by unfold v3; omega
  have e7 := valid_nat e6
  unfold runeAt Utf8.decode
  simp only [get_str, e4, e5]
  have g0 : (b :: c1 :: c2 :: t).getD (0 + 0) 0 = b := rfl
  have g1 : (b :: c1 :: c2 :: t).getD (0 + 1) 0 = c1 := rfl
  have g2 : (b :: c1 :: c2 :: t).getD (0 + 2) 0 = c2 := rfl
  rw [g0, g1, g2, e2, e7]
  generalize v3 b.toNat c1.toNat c2.toNat = V at *
  simp [h, e1, e1', k3, k4, k5, Utf8.runeError]

theorem no_kind_65533 : kindR 65533 = 0 := by kernel_rfl
theorem memB_none {l : List Nat} {c : Int} (hl : ∀ x ∈ l, x < 55296) (h : 55296 ≤ c) : memB l c = false := by
  unfold memB
  rw [List.any_eq_false]
  intro d hd
  have := hl d hd
  simp
  omega
theorem latin_low : ∀ x ∈ latinL, x < 55296 := of_decide_eq_true (by kernel_rfl)
theorem greek_low : ∀ x ∈ greekL, x < 55296 := of_decide_eq_true (by kernel_rfl)
theorem cyr_low : ∀ x ∈ cyrL, x < 55296 := of_decide_eq_true (by kernel_rfl)
theorem inB_false {c lo hi : Int} (h : ¬ (lo ≤ c ∧ c ≤ hi)) : inB c lo hi = false := by
  unfold inB
  rw [Bool.and_eq_false_iff]
  by_cases h1 : lo ≤ c
  · exact .inr (by simp; omega)
  · exact .inl (by simp; omega)
theorem kind_surrogate {c : Nat} (h : 55296 ≤ c) (h2 : c < 57344) : kindR (c : Int) = 0 := by
  unfold kindR clsR
  rw [inB_false (by omega), if_neg (by decide)]
  unfold clsN
  rw [inB_false (by omega), inB_false (by omega), inB_false (by omega), inB_false (by omega), inB_false (by omega), inB_false (by omega), inB_false (by omega), inB_false (by omega), inB_false (by omega), inB_false (by omega), inB_false (by omega),
    memB_none latin_low (by omega), memB_none greek_low (by omega), memB_none cyr_low (by omega)]
  have e : ∀ d : Int, d < 55296 ∨ 57344 ≤ d → ((c : Int) == d) = false := fun d hd => eqb_false (by omega)
  rw [e 32 (by omega), e 160 (by omega), e 178 (by omega), e 179 (by omega), e 185 (by omega), e 383 (by omega), e 64257 (by omega), e 64258 (by omega), e 803 (by omega), e 807 (by omega), e 808 (by omega)]
  rfl

theorem kind_big {c : Nat} (h : 65536 ≤ c) : kindR (c : Int) = 0 := by
  by_cases hk : kindR (c : Int) = 0
  · exact hk
  · have h1 : hasR (c : Int) = true := has_kind.2 hk
    have := has_range h1
    omega
theorem pair_snd {a b c d : Nat} (h : (a, b) = (c, d)) : b = d := congrArg Prod.snd h
theorem at_none_facts {t : List UInt8} (h0 : t ≠ []) (h : atR t = (0, 0)) :
    ¬ (t.getD 0 0).toNat < 128 ∧ (1 < t.length → is2 (t.getD 0 0).toNat (t.getD 1 0).toNat = false) ∧ (2 < t.length → is3 (t.getD 0 0).toNat (t.getD 1 0).toNat (t.getD 2 0).toNat = false) := by
  match t with
  | [] => exact absurd rfl h0
  | b :: t =>
    have hb : ¬ b.toNat < 128 := fun hb => by rw [at_ascii hb] at h; exact absurd (pair_snd h) (by decide)
    refine ⟨hb, ?_, ?_⟩
    · intro hl
      match t with
      | [] => simp at hl
      | c1 :: t =>
        show is2 b.toNat c1.toNat = false
        refine bool_false fun h2 => ?_
        rw [at_two hb h2] at h
        exact absurd (pair_snd h) (by decide)
    · intro hl
      match t with
      | [] => simp at hl
      | [_] => simp at hl
      | c1 :: c2 :: t =>
        show is3 b.toNat c1.toNat c2.toNat = false
        refine bool_false fun h3 => ?_
        have h2 : is2 b.toNat c1.toNat = false := is2_no (is3_of h3).1
        rw [at_three hb h2 h3] at h
        exact absurd (pair_snd h) (by decide)
theorem rune_none {t : List UInt8} (h0 : t ≠ []) (h : atR t = (0, 0)) : kindR ((runeAt t).1 : Int) = 0 := by
  obtain ⟨h1, h2, h3⟩ := at_none_facts h0 h
  have hl : (str t).size = t.length := rfl
  unfold runeAt Utf8.decode
  simp only [get_str, hl, Nat.zero_add]
  generalize (t.getD 0 0).toNat = b0 at *
  generalize (t.getD 1 0).toNat = b1 at *
  generalize (t.getD 2 0).toNat = b2 at *
  generalize (t.getD 3 0).toNat = b3 at *
  rw [if_neg h1]
  split
  · rename_i hc
    simp only [Bool.and_eq_true, beq_iff_eq, decide_eq_true_eq] at hc
    have h4 := of_decide_eq_false (h2 hc.2.1)
    rw [if_neg (by omega)]
    exact no_kind_65533
  · split
    · rename_i hc
      simp only [Bool.and_eq_true, beq_iff_eq, decide_eq_true_eq] at hc
      have h4 := of_decide_eq_false (h3 hc.2.1)
      unfold v3 at h4
      rw [if_neg (by
        simp only [Bool.and_eq_true, decide_eq_true_eq]
        rintro ⟨h5, _⟩
        omega)]
      exact no_kind_65533
    · split
      · split
        · rename_i hc
          simp only [Bool.and_eq_true, decide_eq_true_eq] at hc
          exact kind_big hc.1
        · exact no_kind_65533
      · exact no_kind_65533

/-- A character of a range is one of the repertoire exactly if the reference finds it there. -/
theorem rune_good {t : List UInt8} (h0 : t ≠ []) (h : kindR ((runeAt t).1 : Int) ≠ 0) : atR t = runeAt t := by
  rcases at_cases t with rfl | ⟨b, t, rfl, hb⟩ | ⟨b, c1, t, rfl, hb, h2⟩ | ⟨b, c1, c2, t, rfl, hb, h2, h3⟩ | ⟨_, hn⟩
  · exact absurd rfl h0
  · rw [at_ascii hb, rune_ascii hb]
  · rw [at_two hb h2, rune_two hb h2]
  · rw [at_three hb h2 h3, rune_three hb h3] at *
    split
    · rfl
    · rename_i hg
      rw [if_neg hg] at h
      exact absurd no_kind_65533 h
  · exact absurd (rune_none h0 hn) h
theorem rune_bad {t : List UInt8} (h0 : t ≠ []) (h : kindR ((runeAt t).1 : Int) = 0) : (atR t).2 = 0 ∨ kindR ((atR t).1 : Int) = 0 := by
  rcases at_cases t with rfl | ⟨b, t, rfl, hb⟩ | ⟨b, c1, t, rfl, hb, h2⟩ | ⟨b, c1, c2, t, rfl, hb, h2, h3⟩ | ⟨_, hn⟩
  · exact absurd rfl h0
  · rw [rune_ascii hb] at h
    rw [at_ascii hb]
    exact .inr h
  · rw [rune_two hb h2] at h
    rw [at_two hb h2]
    exact .inr h
  · rw [rune_three hb h3] at h
    rw [at_three hb h2 h3]
    by_cases hg : goodU (v3 b.toNat c1.toNat c2.toNat) = true
    · rw [if_pos hg] at h
      exact .inr h
    · refine .inr (kind_surrogate ?_ ?_)
      · unfold goodU at hg
        simp only [Bool.or_eq_true, decide_eq_true_eq, not_or] at hg
        show 55296 ≤ v3 _ _ _
        omega
      · unfold goodU at hg
        simp only [Bool.or_eq_true, decide_eq_true_eq, not_or] at hg
        show v3 _ _ _ < 57344
        omega
  · exact .inl (by rw [hn])
theorem Past.rune {s : List UInt8} {k c n : Nat} {l : List Nat} (h : Past s k l) (hk : k < s.length) (ha : Utf8.decode (str s) k = (c, n)) (hc : hasR (c : Int) = true) : Past s (k + n) (l ++ [c]) ∧ n ≠ 0 := by
  have hne : s.drop k ≠ [] := fun e => by rw [List.drop_eq_nil_iff] at e; omega
  rw [decode_drop] at ha
  have h1 := rune_good hne (by rw [ha]; exact has_kind.1 hc)
  rw [ha] at h1
  have h0 : n ≠ 0 := by
    intro h0
    subst h0
    rcases at_cases (s.drop k) with e | ⟨b, t, e, hb⟩ | ⟨b, c1, t, e, hb, h2⟩ | ⟨b, c1, c2, t, e, hb, h2, h3⟩ | ⟨_, hn⟩
    · exact hne e
    · rw [e, at_ascii hb] at h1; exact absurd (pair_snd h1) (by decide)
    · rw [e, at_two hb h2] at h1; exact absurd (pair_snd h1) (by decide)
    · rw [e, at_three hb h2 h3] at h1; exact absurd (pair_snd h1) (by decide)
    · rw [hn] at h1
      injection h1 with e1 e2
      rw [← e1] at hc
      exact absurd hc (by decide)
  exact ⟨h.next hk h1 h0 (has_kind.1 hc), h0⟩
theorem Past.rune_bad {s : List UInt8} {k c n : Nat} {l : List Nat} (h : Past s k l) (hk : k < s.length) (ha : Utf8.decode (str s) k = (c, n)) (hc : hasR (c : Int) = false) : decR s = none := by
  have hne : s.drop k ≠ [] := fun e => by rw [List.drop_eq_nil_iff] at e; omega
  rw [decode_drop] at ha
  have h1 := Go.Proofs.YtafnjbmeponobaaGreatDoor.rune_bad hne (by rw [ha]; exact has_kind_no hc)
  exact h.bad hk rfl h1

/-! Rows of the call's own beside an iterator. -/
theorem own_iter {w : World} {B e size n : Nat} {v : Value} {xs : List Value} {k : Nat} {s : ByteArray} {pos : Nat} (h : w.ownsRow B e size v n xs) (hk : w.heap[k]? = some (.stringIter s pos)) (pos' : Nat) : (w.iterAt k s pos').ownsRow B e size v n xs := by
  refine ⟨h.1, ?_⟩
  rcases h.2 with h0 | ⟨g, cap, cur, hv, hb, hg, rest⟩
  · exact .inl h0
  · exact .inr ⟨g, cap, cur, hv, hb, (Lib.iterAt_other _ _ _ _ _ (fun e => by subst e; rw [hk] at hg; cases hg)).trans hg, rest⟩
theorem own_not_iter {w : World} {B e size n : Nat} {v : Value} {xs : List Value} {k : Nat} {s : ByteArray} {pos : Nat} (h : w.ownsRow B e size v n xs) (hk : w.heap[k]? = some (.stringIter s pos)) : v.ownBlock ≠ some k := by
  rcases h.2 with ⟨rfl, _⟩ | ⟨g, cap, cur, rfl, hb, hg, rest⟩
  · simp [Value.ownBlock]
  · intro e
    simp only [Value.ownBlock, Option.some.injEq] at e
    subst e
    rw [hk] at hg
    cases hg

end Go.Proofs.YtafnjbmeponobaaGreatDoor
