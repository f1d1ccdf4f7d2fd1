/-
  The library's search for a byte.
  The library's search for a character of two bytes.
-/
import Derived.Test.YtpgaebdaakllaaaDoorNormStr
import Derived.Lib.Bytealg
import Derived.Lib.IndexLaws
import Derived.Lib.IndexBytes
import Derived.BigQuiet
import Derived.Laws.Runes
import Derived.WalkMore
import Derived.ScopeJumps
import Derived.LoopN
import Derived.Deep.RegionWith
namespace Go.Proofs.YtpgaebdaakllaaaDoor
open Go.RowKit

set_option maxRecDepth 20000 in
set_option maxHeartbeats 1600000 in
theorem slIndexByte_any (s : List UInt8) (c : UInt8) (w : World) :
    Calls Tryd.prog 82 #[.string (str s), .int .u8 (c.toNat : Int)] w fun e w' => e = .returned (.int .i64 (Lib.indexByte s c)) ∧ w' = w := by
  go_enter Tryd.func82, Tryd.ntmps82
  go_wp2
  rw [run_callFunc_extern Tryd.func84 (by kernel_rfl) (by kernel_rfl) (by kernel_rfl) (e := Extern.BytealgIndexByte.indexByte) (by kernel_rfl), Lib.run_indexByteString]
  simp only [Result.andThen]
  rw [Oper.upon_value]
  go_wp2
  go_ret
  refine ⟨?_, rfl⟩
  show Ending.returned _ = _
  congr 2

set_option maxRecDepth 20000 in
set_option maxHeartbeats 1600000 in
theorem indexByte_any (s : List UInt8) (c : UInt8) (w : World) :
    Calls Tryd.prog 77 #[.string (str s), .int .u8 (c.toNat : Int)] w fun e w' => e = .returned (.int .i64 (Lib.indexByte s c)) ∧ w' = w := by
  obtain ⟨K, hK⟩ : ∃ K, Lib.indexByte s c = K := ⟨_, rfl⟩
  have HC := slIndexByte_any s c w
  rw [hK] at HC ⊢
  have HC := Lib.hid HC
  clear hK
  go_enter Tryd.func77, Tryd.ntmps77
  go_wp2_with fail
  refine HC.out.mono ?_
  rintro e w1 ⟨rfl, rfl⟩
  go_wp2
  go_ret
  exact ⟨rfl, rfl⟩

set_option maxRecDepth 20000 in
set_option maxHeartbeats 1600000 in
theorem cutover_any (n : Nat) (w : World) (hn : n ≤ 1000000) :
    Calls Tryd.prog 79 #[.int .i64 (n : Int)] w fun e w' => e = .returned (.int .i64 (((n + 16) / 8 : Nat) : Int)) ∧ w' = w := by
  obtain ⟨q, hq⟩ : ∃ q, (n + 16) / 8 = q := ⟨_, rfl⟩
  have e1 : ((n : Int) + 16) / 8 = (q : Int) := by omega
  have e2 : ((n : Int) + 16).tdiv 8 = (q : Int) := by rw [Int.tdiv_eq_ediv_of_nonneg (by omega)]; exact e1
  rw [hq]
  clear hq
  go_enter Tryd.func79, Tryd.ntmps79
  go_wp2
  go_ret
  exact ⟨by first | rfl | (congr 2), rfl⟩

set_option maxRecDepth 20000 in
set_option maxHeartbeats 1600000 in
theorem validRune_any (c : Nat) (w : World) (hc : c < 55296) :
    Calls Tryd.prog 78 #[.int .i32 (c : Int)] w fun e w' => e = .returned (.bool true) ∧ w' = w := by
  have t1 : decide ((0 : Int) ≤ (c : Int)) = true := by simp
  have t2 : decide ((c : Int) < 55296) = true := by simp; omega
  go_enter Tryd.func78, Tryd.ntmps78
  go_wp2
  go_ret
  exact ⟨rfl, rfl⟩

set_option maxRecDepth 100000 in
set_option maxHeartbeats 1600000 in
theorem indexRune_ascii (s : List UInt8) (c : Nat) (w : World) (hc : c < 128) :
    Calls Tryd.prog 71 #[.string (str s), .int .i32 (c : Int)] w fun e w' => e = .returned (.int .i64 (Lib.indexByte s (UInt8.ofNat c))) ∧ w' = w := by
  have t1 : decide ((0 : Int) ≤ (c : Int)) = true := by simp
  have t2 : decide ((c : Int) < 128) = true := by simp; omega
  have HC := indexByte_any s (UInt8.ofNat c) w
  rw [byte_of (by omega : c < 256)] at HC
  obtain ⟨K, hK⟩ : ∃ K, Lib.indexByte s (UInt8.ofNat c) = K := ⟨_, rfl⟩
  rw [hK] at HC ⊢
  have HC := Lib.hid HC
  clear hK
  go_enter Tryd.func71, Tryd.ntmps71
  go_wp2_with fail
  refine HC.out.mono ?_
  rintro e w1 ⟨rfl, rfl⟩
  go_wp2
  go_ret
  exact ⟨rfl, rfl⟩

end Go.Proofs.YtpgaebdaakllaaaDoor

namespace Go.Proofs.YtpgaebdaakllaaaDoor
open Go.RowKit

theorem encode_two {c : Nat} (h1 : 128 ≤ c) (h2 : c < 2048) : Utf8.encode (c : Int) = str [UInt8.ofNat (192 + c / 64), UInt8.ofNat (128 + c % 64)] := by
  have hv : Utf8.valid (c : Int) = true := by unfold Utf8.valid; simp; omega
  unfold Utf8.encode
  rw [hv]
  simp only [if_true, Int.toNat_natCast]
  rw [if_neg (by omega), if_pos (by omega)]
  rfl
/-- A scope with one jump ahead. -/
theorem wp_scope_fwd {P : Program} {c rest : Code} {Q : Exit → Act → World → Prop} {a : Act} {w : World} (l : Nat) (hf : findLabel c l = some rest)
    (first : c.wp P (Exit.jump l (fun a w => rest.wp P (Exit.noGoto Q) a w) Q) a w) : (Code.scope c).wp P Q a w := by
  refine wp_scope_jumps l (fun a w => rest.wp P (Exit.noGoto Q) a w) (fun _ _ => 0) hf first fun a w h => ?_
  refine Code.wp_mono ?_ h
  intro e a' w' he
  cases e <;> first | exact he | exact he.elim
/-- These two bytes stand at t. -/
def occ2 (s : List UInt8) (b0 b1 : UInt8) (t : Nat) : Prop := s[t]? = some b0 ∧ s[t + 1]? = some b1
/-- No byte stands so often ahead of a place that the search would change its ways. -/
def Few (s : List UInt8) : Prop := ∀ i b, 128 ≤ b.toNat → b.toNat < 192 → s[i]? = some b → (s.take (i + 1)).count b ≤ (i + 17) / 8
theorem byte_ne {x y : UInt8} (h : ¬ x = y) : ((x.toNat : Int) != (y.toNat : Int)) = true := by
  have : x.toNat ≠ y.toNat := fun e => h (UInt8.toNat_inj.1 e)
  simp
  omega
theorem byte_same {x y : UInt8} (h : x = y) : ((x.toNat : Int) != (y.toNat : Int)) = false := by subst h; simp
theorem count_next {s : List UInt8} {i : Nat} {b : UInt8} (h : s[i]? = some b) : (s.take (i + 1)).count b = (s.take i).count b + 1 := by
  rw [take_next h, List.count_append]
  simp
theorem count_le {s : List UInt8} {i j : Nat} {b : UInt8} (h : i ≤ j) : (s.take i).count b ≤ (s.take j).count b := by
  have : s.take i = (s.take j).take i := by rw [List.take_take, Nat.min_eq_left h]
  rw [this]
  exact (List.take_sublist _ _).count_le _

theorem get_lt' {α : Type} {l : List α} {i : Nat} {x : α} (h : l[i]? = some x) : i < l.length := (List.getElem?_eq_some_iff.1 h).1
theorem string_tail {P : Program} {T : TypeId} (hT : P.underlying T = some .string) (s : List UInt8) (k : Nat) (h : k ≤ s.length) (W : World) :
    (Instr.sliceAt T (.string (str s)) (some (.int .i64 (k : Int))) none none).run P W = .ok (.string (str (s.drop k))) W := by
  rw [run_sliceAt_string W _ _ _ _ _ hT, run_slice_string_l W _ _ hT .i64 (k : Int) (by omega) (by show (k : Int) ≤ (s.length : Int); omega)]
  congr 2
  apply ByteArray.ext
  simp [str]
  exact List.take_of_length_le (by rw [List.length_drop]; exact Nat.le_refl _)
theorem quiet_same {P : Program} {f : FuncId} {args : Array Value} {w : World} {v : Value} (h : Calls P f args w fun e w' => e = .returned v ∧ w' = w) : Calls P f args w fun e w' => e = .returned v ∧ ∃ m, w' = w.drewN m :=
  h.mono fun _ _ ⟨he, hw⟩ => ⟨he, 0, hw⟩

set_option maxRecDepth 100000 in
set_option maxHeartbeats 12800000 in
theorem indexRune_two (s : List UInt8) (c : Nat) (b0 b1 : UInt8) (w : World) (h1 : 128 ≤ c) (h2 : c < 2048) (hb0 : UInt8.ofNat (192 + c / 64) = b0) (hb1 : UInt8.ofNat (128 + c % 64) = b1) (hl : s.length ≤ 1000) (hfew : Few s) :
    Calls Tryd.prog 71 #[.string (str s), .int .i32 (c : Int)] w fun e w' => (∃ z : Int, e = .returned (.int .i64 z) ∧ ((z = -1 ∧ ∀ t, ¬ occ2 s b0 b1 t) ∨ ∃ t : Nat, z = (t : Int) ∧ occ2 s b0 b1 t ∧ ∀ t', t' < t → ¬ occ2 s b0 b1 t')) ∧ ∃ q, w' = w.drewN q := by
  have t1 : decide ((0 : Int) ≤ (c : Int)) = true := by simp
  have t2 : decide ((c : Int) < 128) = false := by simp; omega
  have t3 : ((c : Int) == 65533) = false := eqb_false (by omega)
  have HV := Lib.hid (validRune_any c w (by omega))
  have HFew := Lib.hid hfew
  have HIB := Lib.hid (fun (k : Nat) W => indexByte_any (s.drop k) b1 W)
  have HCO := Lib.hid (fun (n : Nat) W (h : n ≤ 1000000) => cutover_any n W h)
  have he := encode_two h1 h2
  rw [hb0, hb1] at he
  have hsz : (str s).size = s.length := rfl
  obtain ⟨rb, hrb⟩ : ∃ rb, str [b0, b1] = rb := ⟨_, rfl⟩
  rw [hrb] at he
  have hs2 : rb.size = 2 := by rw [← hrb]; rfl
  have hr1 : ∀ h : 1 < rb.size, rb[1]'h = b1 := by subst hrb; intro _; rfl
  have hr0 : ∀ h : 0 < rb.size, rb[0]'h = b0 := by subst hrb; intro _; rfl
  clear hrb
  have HB1 : Hid (128 ≤ b1.toNat ∧ b1.toNat < 192) := Lib.hid (by rw [← hb1, byte_of (by omega)]; omega)
  clear hb0 hb1 hfew
  go_enter Tryd.func71, Tryd.ntmps71
  go_wp2_with fail
  refine HV.out.mono ?_
  rintro e w1 ⟨rfl, rfl⟩
  go_wp2
  go_step3
  go_wp2
  go_loopw [9, 10, 11, 12] (fun s9 s10 _ _ wr => ∃ i i0 f q : Nat, s9 = .int .i64 (i : Int) ∧ Hid (i = i0 + 1) ∧ s10 = .int .i64 (f : Int) ∧ Hid (wr = w1.drewN q) ∧ Hid (∀ t, t < i0 → ¬ occ2 s b0 b1 t) ∧ Hid (f ≤ (s.take (i0 + 1)).count b1) ∧ f ≤ 1000) (fun s9 _ _ _ _ => s.length + 1 - (intOf s9).toNat)
  case atStart => exact ⟨1, 0, 0, 0, by first | rfl | go_num, Lib.hid rfl, rfl, Lib.hid rfl, Lib.hid (by omega), Lib.hid (Nat.zero_le _), by omega⟩
  case round =>
    obtain ⟨i, i0, f, q, rfl, HII, rfl, HW, HO, HF, hf⟩ := hrel
    have hii := HII.out
    by_cases hlt : i < s.length
    · have t4 : decide ((i : Int) < (s.length : Int)) = true := by simp; omega
      have hi2 : i < (str s).size := hlt
      obtain ⟨x, hx⟩ : ∃ x, (str s)[i] = x := ⟨_, rfl⟩
      have hxs : s[i]? = some x := by rw [← hx]; exact str_at s _ hi2
      have HX := Lib.hid hxs
      by_cases hxb : x = b1
      · have t5 := byte_same hxb
        have HK : Hid (s[i0 + 1]? = some b1 ∧ i0 + 1 < s.length ∧ i0 ≤ i0 ∧ (∀ t, t < i0 → ¬ occ2 s b0 b1 t) ∧ f ≤ (s.take (i0 + 1)).count b1) := Lib.hid ⟨by rw [← hii, hxs, hxb], by omega, Nat.le_refl _, HO.out, HF.out⟩
        clear hxs hxb hii
        go_wp2
        refine wp_scope_fwd 0 rfl ?_
        go_wp2
        go_big_quiet (fail)
        obtain ⟨wZ, hwZ⟩ : ∃ wZ, wr.drewN nq = wZ := ⟨_, rfl⟩
        have HWZ : Hid (∃ n, wZ = w1.drewN n) := Lib.hid ⟨_, by rw [← hwZ, HW.out, World.drewN_drewN]⟩
        rw [hwZ]
        clear hwZ

        have hkl : i0 + 1 < s.length := HK.out.2.1
        have hk2 : i0 < (str s).size := by rw [hsz]; omega
        have hii := HII.out
        have ep : (i : Int) - 1 = (i0 : Int) := by omega
        obtain ⟨k2, hk22⟩ : ∃ k2, k2 = i0 + 2 := ⟨_, rfl⟩
        have HK2 := Lib.hid hk22
        obtain ⟨y, hy⟩ : ∃ y, (str s)[i0] = y := ⟨_, rfl⟩
        have hys : s[i0]? = some y := by rw [← hy]; exact str_at s _ hk2
        by_cases hyb : y = b0
        · have t7 := byte_same hyb
          have HE : Hid (occ2 s b0 b1 i0 ∧ ∀ t', t' < i0 → ¬ occ2 s b0 b1 t') := Lib.hid ⟨⟨by rw [hys, hyb], HK.out.1⟩, HK.out.2.2.2.1⟩
          clear hys hyb hii hk22
          go_wp2
          refine wp_loop_rounds 2 ?_
          rw [rounds_succ]
          go_wp2
          go_big_quiet (fail)
          go_wp2
          rw [rounds_succ]
          go_wp2
          simp +zetaDelta only [Exit.jump, Exit.inBlock, Exit.then, Exit.noGoto]
          refine bodyPost_ret (results_tmp rfl _ _ _) rfl ?_
          exact ⟨⟨(i0 : Int), rfl, .inr ⟨i0, rfl, HE.out⟩⟩, by obtain ⟨n, hn⟩ := HWZ.out; exact ⟨_, by rw [hn, World.drewN_drewN]⟩⟩
        · have t7 := byte_ne hyb
          obtain ⟨f1, hf1⟩ : ∃ f1, f1 = f + 1 := ⟨_, rfl⟩
          have ef : (f : Int) + 1 = (f1 : Int) := by omega
          have e3 : (i : Int) + 1 = (k2 : Int) := by omega
          have hcount := count_next HK.out.1
          have hfw := HFew.out (i0 + 1) b1 HB1.out.1 HB1.out.2 HK.out.1
          have hfk := HK.out.2.2.2.2
          obtain ⟨ct, hct⟩ : ∃ ct, (k2 + 16) / 8 = ct := ⟨_, rfl⟩
          have HCC := HCO.out k2
          rw [hct] at HCC
          have HCC := Lib.hid HCC
          have hfct : ¬ ct < f1 := by omega
          have t8 : decide ((ct : Int) < (f1 : Int)) = false := by simp; omega
          have t8n : decide (ct < f1) = false := by simp; omega
          have HO2 : Hid (∀ t, t < i0 + 1 → ¬ occ2 s b0 b1 t) := Lib.hid fun t ht hoc => by
            by_cases h : t < i0
            · exact HK.out.2.2.2.1 t h hoc
            · obtain rfl : t = i0 := by omega
              have := hoc.1
              rw [hys] at this
              injection this with this
              exact hyb this
          have HF2 : Hid (f1 ≤ (s.take (i0 + 1 + 1)).count b1) := Lib.hid (by omega)
          have hf1k : f1 ≤ 1000 := by omega
          have hik : i0 ≤ i0 := HK.out.2.2.1
          clear hys hyb hf1 hcount hfw hfk hct hii hk22
          go_wp2
          refine wp_loop_rounds 1 ?_
          rw [rounds_succ]
          go_wp2
          go_big_quiet (fail)
          go_wp2
          go_step3
          simp only [Exit.then, Exit.inBlock]
          refine ⟨rfl, ?_⟩
          go_wp2_with fail
          refine (HCC.out _ (by omega)).mono ?_
          rintro e w9 ⟨rfl, rfl⟩
          go_wp2
          go_roundw
          case rel =>
            obtain ⟨n, hn⟩ := HWZ.out
            (repeat apply Exists.intro)
            refine ⟨?_, rfl⟩
            exact ⟨k2, i0 + 1, f1, _, by go_num, HK2, by go_num, Lib.hid (by rw [hn, World.drewN_drewN]), HO2, HF2, hf1k⟩
          case measure => have hii := HII.out; have hk22 := HK2.out; have hii := HII.out; simp [intOf]; omega

      · have t5 := byte_ne hxb
        obtain ⟨j2, hj2⟩ : ∃ j2, j2 = i0 + 2 := ⟨_, rfl⟩
        have e1 : (i : Int) + 1 = (j2 : Int) := by omega
        have HI := HIB.out j2
        obtain ⟨K, hK⟩ : ∃ K, Lib.indexByte (s.drop j2) b1 = K := ⟨_, rfl⟩
        rw [hK] at HI
        have HI := Lib.hid HI
        have HSl : Hid (∀ W, (Instr.sliceAt 9 (.string (str s)) (some (.int .i64 (j2 : Int))) none none).run Tryd.prog W =   .ok (.string (str (s.drop j2))) W) := Lib.hid fun W => string_tail Tryd.underlying9 s j2 (by omega) W
        have hsl := HSl.out
        by_cases hK0 : K < 0
        · have t6 : decide (K < 0) = true := by simpa using hK0
          have HE : Hid (∀ t, ¬ occ2 s b0 b1 t) := Lib.hid fun t ht => by
            have hm1 : K = -1 := by have := Lib.indexByte_ge (s.drop j2) b1; omega
            have hno := Lib.indexByte_none (hK.trans hm1)
            have h0 : ¬ t < i0 := fun h => HO.out t h ht
            by_cases h1 : t = i0
            · rw [h1] at ht
              have := ht.2
              rw [← hii, hxs] at this
              injection this with this
              exact hxb this
            · have := hno (t - (i0 + 1))
              rw [List.getElem?_drop] at this
              exact this (by rw [show j2 + (t - (i0 + 1)) = t + 1 by omega]; exact ht.2)
          clear hK hK0 hxs hxb hj2 hii
          go_wp2
          refine wp_scope_fwd 0 rfl ?_
          go_wp2
          go_big_quiet (fail)
          obtain ⟨wA, hwA⟩ : ∃ wA, wr.drewN nq = wA := ⟨_, rfl⟩
          have HWA : Hid (∃ n, wA = w1.drewN n) := Lib.hid ⟨_, by rw [← hwA, HW.out, World.drewN_drewN]⟩
          rw [hwA]
          clear hwA

          go_wp2
          go_big_quiet (first | (go_at_call 77; exact Calls.quiet_of (quiet_same (HI.out _))))
          go_wp2
          simp +zetaDelta only [Exit.jump, Exit.inBlock, Exit.then, Exit.noGoto]
          refine bodyPost_ret (results_tmp rfl _ _ _) rfl ?_
          exact ⟨⟨-1, rfl, .inl ⟨rfl, HE.out⟩⟩, by obtain ⟨n, hn⟩ := HWA.out; exact ⟨_, by rw [hn, World.drewN_drewN]⟩⟩
        · have t6 : decide (K < 0) = false := by simpa using hK0
          obtain ⟨o, rfl⟩ : ∃ o : Nat, K = (o : Int) := ⟨K.toNat, by omega⟩
          obtain ⟨k0, hk0⟩ : ∃ k0, k0 = i0 + 1 + o := ⟨_, rfl⟩
          obtain ⟨k, hk⟩ : ∃ k, k = k0 + 1 := ⟨_, rfl⟩
          have HKK := Lib.hid hk
          have e2 : (i : Int) + ((o : Int) + 1) = (k : Int) := by omega
          have HK : Hid (s[k0 + 1]? = some b1 ∧ k0 + 1 < s.length ∧ i0 ≤ k0 ∧ (∀ t, t < k0 → ¬ occ2 s b0 b1 t) ∧ f ≤ (s.take (k0 + 1)).count b1) := Lib.hid (by
            obtain ⟨g1, g2⟩ := Lib.indexByte_some hK
            rw [List.getElem?_drop, show j2 + o = k0 + 1 by omega] at g1
            refine ⟨g1, get_lt' g1, by omega, fun t ht hoc => ?_, Nat.le_trans HF.out (count_le (by omega))⟩
            have h0 : ¬ t < i0 := fun h => HO.out t h hoc
            by_cases h1 : t = i0
            · rw [h1] at hoc
              have := hoc.2
              rw [← hii, hxs] at this
              injection this with this
              exact hxb this
            · have := g2 (t - (i0 + 1)) (by omega)
              rw [List.getElem?_drop] at this
              exact this (by rw [show j2 + (t - (i0 + 1)) = t + 1 by omega]; exact hoc.2))
          clear hK hK0 hxs hxb hk0 hk hj2 hii
          go_wp2
          refine wp_scope_fwd 0 rfl ?_
          go_wp2
          go_big_quiet (fail)
          obtain ⟨wA, hwA⟩ : ∃ wA, wr.drewN nq = wA := ⟨_, rfl⟩
          have HWA : Hid (∃ n, wA = w1.drewN n) := Lib.hid ⟨_, by rw [← hwA, HW.out, World.drewN_drewN]⟩
          rw [hwA]
          clear hwA

          go_wp2
          go_big_quiet (first | (go_at_call 77; exact Calls.quiet_of (quiet_same (HI.out _))))
          obtain ⟨wZ, hwZ⟩ : ∃ wZ, wA.drewN nq = wZ := ⟨_, rfl⟩
          have HWZ : Hid (∃ n, wZ = w1.drewN n) := Lib.hid (by obtain ⟨n, hn⟩ := HWA.out; exact ⟨_, by rw [← hwZ, hn, World.drewN_drewN]⟩)
          rw [hwZ]
          clear hwZ

          have hkl : k0 + 1 < s.length := HK.out.2.1
          have hk2 : k0 < (str s).size := by rw [hsz]; omega
          have hkk := HKK.out
          have ep : (k : Int) - 1 = (k0 : Int) := by omega
          obtain ⟨k2, hk22⟩ : ∃ k2, k2 = k0 + 2 := ⟨_, rfl⟩
          have HK2 := Lib.hid hk22
          obtain ⟨y, hy⟩ : ∃ y, (str s)[k0] = y := ⟨_, rfl⟩
          have hys : s[k0]? = some y := by rw [← hy]; exact str_at s _ hk2
          by_cases hyb : y = b0
          · have t7 := byte_same hyb
            have HE : Hid (occ2 s b0 b1 k0 ∧ ∀ t', t' < k0 → ¬ occ2 s b0 b1 t') := Lib.hid ⟨⟨by rw [hys, hyb], HK.out.1⟩, HK.out.2.2.2.1⟩
            clear hys hyb hkk hk22
            go_wp2
            refine wp_loop_rounds 2 ?_
            rw [rounds_succ]
            go_wp2
            go_big_quiet (fail)
            go_wp2
            rw [rounds_succ]
            go_wp2
            simp +zetaDelta only [Exit.jump, Exit.inBlock, Exit.then, Exit.noGoto]
            refine bodyPost_ret (results_tmp rfl _ _ _) rfl ?_
            exact ⟨⟨(k0 : Int), rfl, .inr ⟨k0, rfl, HE.out⟩⟩, by obtain ⟨n, hn⟩ := HWZ.out; exact ⟨_, by rw [hn, World.drewN_drewN]⟩⟩
          · have t7 := byte_ne hyb
            obtain ⟨f1, hf1⟩ : ∃ f1, f1 = f + 1 := ⟨_, rfl⟩
            have ef : (f : Int) + 1 = (f1 : Int) := by omega
            have e3 : (k : Int) + 1 = (k2 : Int) := by omega
            have hcount := count_next HK.out.1
            have hfw := HFew.out (k0 + 1) b1 HB1.out.1 HB1.out.2 HK.out.1
            have hfk := HK.out.2.2.2.2
            obtain ⟨ct, hct⟩ : ∃ ct, (k2 + 16) / 8 = ct := ⟨_, rfl⟩
            have HCC := HCO.out k2
            rw [hct] at HCC
            have HCC := Lib.hid HCC
            have hfct : ¬ ct < f1 := by omega
            have t8 : decide ((ct : Int) < (f1 : Int)) = false := by simp; omega
            have t8n : decide (ct < f1) = false := by simp; omega
            have HO2 : Hid (∀ t, t < k0 + 1 → ¬ occ2 s b0 b1 t) := Lib.hid fun t ht hoc => by
              by_cases h : t < k0
              · exact HK.out.2.2.2.1 t h hoc
              · obtain rfl : t = k0 := by omega
                have := hoc.1
                rw [hys] at this
                injection this with this
                exact hyb this
            have HF2 : Hid (f1 ≤ (s.take (k0 + 1 + 1)).count b1) := Lib.hid (by omega)
            have hf1k : f1 ≤ 1000 := by omega
            have hik : i0 ≤ k0 := HK.out.2.2.1
            clear hys hyb hf1 hcount hfw hfk hct hkk hk22
            go_wp2
            refine wp_loop_rounds 1 ?_
            rw [rounds_succ]
            go_wp2
            go_big_quiet (fail)
            go_wp2
            go_step3
            simp only [Exit.then, Exit.inBlock]
            refine ⟨rfl, ?_⟩
            go_wp2_with fail
            refine (HCC.out _ (by omega)).mono ?_
            rintro e w9 ⟨rfl, rfl⟩
            go_wp2
            go_roundw
            case rel =>
              obtain ⟨n, hn⟩ := HWZ.out
              (repeat apply Exists.intro)
              refine ⟨?_, rfl⟩
              exact ⟨k2, k0 + 1, f1, _, by go_num, HK2, by go_num, Lib.hid (by rw [hn, World.drewN_drewN]), HO2, HF2, hf1k⟩
            case measure => have hkk := HKK.out; have hk22 := HK2.out; have hii := HII.out; simp [intOf]; omega

    · have t4 : decide ((i : Int) < (s.length : Int)) = false := by simp; omega
      have HE : Hid (∀ t, ¬ occ2 s b0 b1 t) := Lib.hid fun t ht => by
        by_cases h : t < i0
        · exact HO.out t h ht
        · have := get_lt' ht.2
          omega
      clear hii
      go_wp2
      simp +zetaDelta only [Exit.inBlock, Exit.noGoto]
      refine bodyPost_ret (results_tmp rfl _ _ _) rfl ?_
      exact ⟨⟨-1, rfl, .inl ⟨rfl, HE.out⟩⟩, _, HW.out⟩

end Go.Proofs.YtpgaebdaakllaaaDoor
