/-
  An argument that is a slice of operations; the bodies at arguments as the model holds them.
  The body of EditBounds.
  The body of EditSubsequence.
-/
import Derived.Test.YtlloofmmblhnjaaPkAS
import Derived.Test.YtlloofmmblhnjaaProg
import Derived.ChangeSame
import Derived.Test.YtlloofmmblhnjaaPkAR
import Derived.Test.YtlloofmmblhnjaaPkAD
import Derived.Test.YtlloofmmblhnjaaPkAP
import Derived.Lib.MinMax
namespace Go.Proofs.Ytlloofmmblhnjaa
open Go.RowKit Go.ChangeShapes Go.WideShapes Go.Deep Go.Joins

/-- The operations of an argument. -/
structure GivenO (W : World) (A : Option Addr) (n c : Nat) (l : List OpI) : Prop where
  arr : SArr 2 ov W W.heap.size (.slice A n c) l

set_option maxRecDepth 100000 in
theorem op_elem {H : Type} {enc : TypeId × Value → H} {W : World} {base : Nat} {spare : Nat → Bool} {held : Bool} (n : Nat) (cs : List Value) (x : DataW H × List MemPlace)
    (h : DataW.trod enc Try.prog W base spare held n 61 cs = some x) : ∃ u : OpI, cs = ov u ∧ True := by
  have k2 : Try.prog.cellsOf 61 = 2 := by kernel_rfl
  have k3 : Try.prog.cellsOf 3 = 1 := by kernel_rfl
  obtain ⟨y0, y1, m, _, hl, h0, h1⟩ := trod_struct2 Try.underlying61 h
  rw [k2] at hl
  obtain ⟨c0, c1, rfl⟩ : ∃ c0 c1, cs = [c0, c1] := by
    match cs, hl with
    | [c0, c1], _ => exact ⟨c0, c1, rfl⟩
  simp only [k3] at h0 h1
  obtain ⟨s0, e0, _, w0⟩ := DataW.trod_int Try.underlying3 h0
  obtain ⟨s1, e1, _, w1⟩ := DataW.trod_int Try.underlying3 h1
  simp at e0 e1
  subst e0 e1
  exact ⟨(s0, s1), rfl, trivial⟩
theorem ops_open {H : Type} {enc : TypeId × Value → H} {W : World} {base : Nat} {spare : Nat → Bool} {held : Bool} {fuel : Nat} {cs : List Value} {x : DataW H × List MemPlace}
    (h : DataW.trod enc Try.prog W base spare held fuel 33 cs = some x) : ∃ A n c t, cs = [.slice A n c] ∧ GivenO W A n c t := by
  obtain ⟨A, n, c, t, h1, h2, _, _, _⟩ := sarr_open (val := ov) (sz := 2) (fun _ : OpI => True) Try.underlying33 (by kernel_rfl) (by decide) ov_len op_elem h
  exact ⟨A, n, c, t, h1, ⟨h2⟩⟩

theorem len_of {b : ByteArray} (h : b.size ≤ maxLen) : b.data.toList.length ≤ 9223372036854775807 := by
  unfold maxLen at h
  have : b.data.toList.length = b.size := rfl
  omega
theorem editText_u (b d : ByteArray) (w : World) (h : b.size ≤ maxLen) (h2 : d.size ≤ maxLen) :
    Calls Try.prog 4 #[.string b, .string d] w fun e w' => e = .returned (.bool true) ∧ Below w.heap.size w w' := by
  rw [← str_data b, ← str_data d]
  exact editText_v b.data.toList d.data.toList w (len_of h) (len_of h2)

end Go.Proofs.Ytlloofmmblhnjaa

namespace Go.Proofs.Ytlloofmmblhnjaa
open Go.RowKit

set_option maxRecDepth 20000 in
set_option maxHeartbeats 3200000 in
theorem editBounds_v (A A2 A3 : Option Addr) (n c m c2 p c3 : Nat) (a b x : List Int) (w : World) (h : Arr iv w w.heap.size (.slice A n c) a) (h2 : Arr iv w w.heap.size (.slice A2 m c2) b) (h3 : Arr iv w w.heap.size (.slice A3 p c3) x) :
    Calls Try.prog 8 #[.slice A n c, .slice A2 m c2, .slice A3 p c3] w fun e w' => e = .returned (.bool true) ∧ Below w.heap.size w w' := by
  have HAw := Lib.hid (awake11_any w)
  have HA := Lib.hid h
  have HB := Lib.hid h2
  have HC := Lib.hid h3
  clear h h2 h3
  by_cases g1 : 30 < n
  · have t1 : decide ((30 : Int) < (n : Int)) = true := decide_eq_true (by omega)
    have t1n : decide (30 < n) = true := decide_eq_true g1
    clear g1
    go_enter Try.func8, Try.ntmps8
    go_wp2_with fail
    refine HAw.out.mono ?_
    rintro e w1 ⟨rfl, k1⟩
    go_wp2
    go_ret
    exact ⟨rfl, k1⟩
  have t1 : decide ((30 : Int) < (n : Int)) = false := decide_eq_false (by omega)
  have t1n : decide (30 < n) = false := decide_eq_false g1
  by_cases g2 : 30 < m
  · have t2 : decide ((30 : Int) < (m : Int)) = true := decide_eq_true (by omega)
    have t2n : decide (30 < m) = true := decide_eq_true g2
    clear g1 g2
    go_enter Try.func8, Try.ntmps8
    go_wp2_with fail
    refine HAw.out.mono ?_
    rintro e w1 ⟨rfl, k1⟩
    go_wp2
    go_ret
    exact ⟨rfl, k1⟩
  have t2 : decide ((30 : Int) < (m : Int)) = false := decide_eq_false (by omega)
  have t2n : decide (30 < m) = false := decide_eq_false g2
  by_cases g3 : 30 < p
  · have t3 : decide ((30 : Int) < (p : Int)) = true := decide_eq_true (by omega)
    have t3n : decide (30 < p) = true := decide_eq_true g3
    clear g1 g2 g3
    go_enter Try.func8, Try.ntmps8
    go_wp2_with fail
    refine HAw.out.mono ?_
    rintro e w1 ⟨rfl, k1⟩
    go_wp2
    go_ret
    exact ⟨rfl, k1⟩
  have t3 : decide ((30 : Int) < (p : Int)) = false := decide_eq_false (by omega)
  have t3n : decide (30 < p) = false := decide_eq_false g3
  have L1 := HA.out.len
  have L2 := HB.out.len
  have L3 := HC.out.len
  have HLA := Lib.hid (show a.length = n from L1)
  have HLB := Lib.hid (show b.length = m from L2)
  have HLC := Lib.hid (show x.length = p from L3)
  have HLCA : Hid ((x ++ a).length = p + n) := Lib.hid (by rw [List.length_append, L3, L1])
  have HLCB : Hid ((x ++ b).length = p + m) := Lib.hid (by rw [List.length_append, L3, L2])
  have HLAC : Hid ((a ++ x).length = n + p) := Lib.hid (by rw [List.length_append, L3, L1])
  have HLBC : Hid ((b ++ x).length = m + p) := Lib.hid (by rw [List.length_append, L3, L2])
  have HG : Hid (n ≤ 30 ∧ m ≤ 30 ∧ p ≤ 30) := Lib.hid (by omega)
  have H1 := Lib.hid (fun W hA hB => prDistance_any A A2 n c m c2 a b W hA hB (by omega) (by omega))
  have H2 := Lib.hid (fun R d R' d' W hA hB => prDistance_any R R' (p + n) d (p + m) d' (x ++ a) (x ++ b) W hA hB (by omega) (by omega))
  have H3 := Lib.hid (fun R d R' d' W hA hB => prDistance_any R R' (n + p) d (m + p) d' (a ++ x) (b ++ x) W hA hB (by omega) (by omega))
  have H4 := Lib.hid (fun R d R' d' W hA hB => prDistance_any R R' (p + n) d (m + p) d' (x ++ a) (b ++ x) W hA hB (by omega) (by omega))
  have H5 := Lib.hid (fun W hA hB => prDistance_any A3 A2 p c3 m c2 x b W hA hB (by omega) (by omega))
  have H6 := Lib.hid (fun W hA hB => prDistance_any A A3 n c p c3 a x W hA hB (by omega) (by omega))
  rw [ed_front] at H2
  rw [ed_behind] at H3
  have u1 := ed_low a b
  have u2 := ed_low2 a b
  have u3 := ed_high a b
  have u4 := ed_join x b a x
  have u5 := ed_high x b
  have u6 := ed_high a x
  rw [L1, L2] at u1 u2 u3
  rw [L3, L2] at u5
  rw [L1, L3] at u6
  obtain ⟨D, hD⟩ : ∃ D, edD a b = D := ⟨_, rfl⟩
  obtain ⟨X, hX⟩ : ∃ D, edD (x ++ a) (b ++ x) = D := ⟨_, rfl⟩
  obtain ⟨Y, hY⟩ : ∃ D, edD x b = D := ⟨_, rfl⟩
  obtain ⟨Z, hZ⟩ : ∃ D, edD a x = D := ⟨_, rfl⟩
  obtain ⟨M, hM⟩ : ∃ D, max n m = D := ⟨_, rfl⟩
  rw [hD] at H1 H2 H3 u1 u2 u3
  rw [hX] at H4 u4
  rw [hY] at H5 u4 u5
  rw [hZ] at H6 u4 u6
  rw [hM] at u3
  have hMz : max (n : Int) (m : Int) = (M : Int) := by omega
  have q1 : IntKind.i64.wrap ((n : Int) - (m : Int)) = (n : Int) - (m : Int) := wraps_i64 _ (by omega) (by omega)
  have q2 : IntKind.i64.wrap ((m : Int) - (n : Int)) = (m : Int) - (n : Int) := wraps_i64 _ (by omega) (by omega)
  have q3 : decide ((D : Int) < (n : Int) - (m : Int)) = false := decide_eq_false (by omega)
  have q4 : decide ((D : Int) < (m : Int) - (n : Int)) = false := decide_eq_false (by omega)
  have q5 : decide ((M : Int) < (D : Int)) = false := decide_eq_false (by omega)
  have q5n : decide (M < D) = false := decide_eq_false (by omega)
  have q6 : ((D : Int) != (D : Int)) = false := by simp
  have q7 : IntKind.i64.wrap ((Y : Int) + (Z : Int)) = (Y : Int) + (Z : Int) := wraps_i64 _ (by omega) (by omega)
  have q8 : decide ((X : Int) ≤ (Y : Int) + (Z : Int)) = true := decide_eq_true (by omega)
  clear g1 g2 g3 u1 u2 u3 u4 u5 u6 L1 L2 L3 hD hX hY hZ hM
  go_enter Try.func8, Try.ntmps8
  go_wp2_with fail
  refine HAw.out.mono ?_
  rintro e w1 ⟨rfl, k1⟩
  have b1 := k1
  go_wp2_with fail
  refine (H1.out _ (HA.out.up b1) (HB.out.up b1)).mono ?_
  rintro e w2 ⟨rfl, k2⟩
  have b2 := below_next b1 k2
  have z3 := (own_empty w2 3)
  have kz3 : Below w2.heap.size w2 (w2.alloc (.cells #[] 3)) := (Below.refl _ _).alloc (Nat.le_refl _) _
  have X3 := Lib.hid ((HC.out.up b2).up kz3)
  have Y3 := Lib.hid (fun W hW => Arr.up (w := W) (HA.out.up b2) hW)
  go_wp2_with (first
    | (at_builtin; refine append_arr (val := iv) 22 3 (.int .i64 0) 8 Try.underlying22 info_int rfl (by decide) one_ivE (w2.alloc (.cells #[] 3)) rfl (.tmp 30) (.tmp 31) rfl w2.heap.size _ (.slice (some ⟨w2.heap.size, 0, none⟩) 0 0) [] rfl z3 x (.slice A3 p c3) rfl X3.out (by have := HLC.out; have := HG.out; simp; omega) kz3.size ?_; intro va3 wa3 ha3 ka3; have kb3 := kz3.trans ka3; have kc3 := kb3.size; rw [List.nil_append] at ha3; have Ha3 := Lib.hid ha3; obtain ⟨P3, p3, hp3⟩ := (Arr.of_own ha3).form; rw [HLC.out] at hp3; subst hp3; clear ha3 z3)
    | (at_builtin; refine append_arr (val := iv) 22 3 (.int .i64 0) 8 Try.underlying22 info_int rfl (by decide) one_ivE wa3 rfl (.tmp 32) (.tmp 33) rfl w2.heap.size _ (.slice P3 p p3) x rfl Ha3.out a (.slice A n c) rfl (Y3.out _ kb3) (by have := HLC.out; have := HLA.out; have := HG.out; omega) kc3 ?_; intro v3 w3 h3 kd3; have b3 := below_next b2 (kb3.trans kd3); have ke3 := Lib.hid (kb3.trans kd3); have N3 := Lib.hid (Arr.of_own h3); obtain ⟨R3, d3, hv3⟩ := N3.out.form; have hl3 := HLCA.out; rw [hl3] at hv3; subst hv3; clear h3 hl3; have z4 := (own_empty w3 3); have kz4 : Below w3.heap.size w3 (w3.alloc (.cells #[] 3)) := (Below.refl _ _).alloc (Nat.le_refl _) _; have X4 := Lib.hid ((HC.out.up b3).up kz4); have Y4 := Lib.hid (fun W hW => Arr.up (w := W) (HB.out.up b3) hW))
    | (at_builtin; refine append_arr (val := iv) 22 3 (.int .i64 0) 8 Try.underlying22 info_int rfl (by decide) one_ivE (w3.alloc (.cells #[] 3)) rfl (.tmp 35) (.tmp 36) rfl w3.heap.size _ (.slice (some ⟨w3.heap.size, 0, none⟩) 0 0) [] rfl z4 x (.slice A3 p c3) rfl X4.out (by have := HLC.out; have := HG.out; simp; omega) kz4.size ?_; intro va4 wa4 ha4 ka4; have kb4 := kz4.trans ka4; have kc4 := kb4.size; rw [List.nil_append] at ha4; have Ha4 := Lib.hid ha4; obtain ⟨P4, p4, hp4⟩ := (Arr.of_own ha4).form; rw [HLC.out] at hp4; subst hp4; clear ha4 z4)
    | (at_builtin; refine append_arr (val := iv) 22 3 (.int .i64 0) 8 Try.underlying22 info_int rfl (by decide) one_ivE wa4 rfl (.tmp 37) (.tmp 38) rfl w3.heap.size _ (.slice P4 p p4) x rfl Ha4.out b (.slice A2 m c2) rfl (Y4.out _ kb4) (by have := HLC.out; have := HLB.out; have := HG.out; omega) kc4 ?_; intro v4 w4 h4 kd4; have b4 := below_next b3 (kb4.trans kd4); have ke4 := Lib.hid (kb4.trans kd4); have N4 := Lib.hid (Arr.of_own h4); obtain ⟨R4, d4, hv4⟩ := N4.out.form; have hl4 := HLCB.out; rw [hl4] at hv4; subst hv4; clear h4 hl4; have z5 := (own_empty w4 3); have kz5 : Below w4.heap.size w4 (w4.alloc (.cells #[] 3)) := (Below.refl _ _).alloc (Nat.le_refl _) _; have X5 := Lib.hid ((HA.out.up b4).up kz5); have Y5 := Lib.hid (fun W hW => Arr.up (w := W) (HC.out.up b4) hW))
    | (at_builtin; refine append_arr (val := iv) 22 3 (.int .i64 0) 8 Try.underlying22 info_int rfl (by decide) one_ivE (w4.alloc (.cells #[] 3)) rfl (.tmp 40) (.tmp 41) rfl w4.heap.size _ (.slice (some ⟨w4.heap.size, 0, none⟩) 0 0) [] rfl z5 a (.slice A n c) rfl X5.out (by have := HLA.out; have := HG.out; simp; omega) kz5.size ?_; intro va5 wa5 ha5 ka5; have kb5 := kz5.trans ka5; have kc5 := kb5.size; rw [List.nil_append] at ha5; have Ha5 := Lib.hid ha5; obtain ⟨P5, p5, hp5⟩ := (Arr.of_own ha5).form; rw [HLA.out] at hp5; subst hp5; clear ha5 z5)
    | (at_builtin; refine append_arr (val := iv) 22 3 (.int .i64 0) 8 Try.underlying22 info_int rfl (by decide) one_ivE wa5 rfl (.tmp 42) (.tmp 43) rfl w4.heap.size _ (.slice P5 n p5) a rfl Ha5.out x (.slice A3 p c3) rfl (Y5.out _ kb5) (by have := HLA.out; have := HLC.out; have := HG.out; omega) kc5 ?_; intro v5 w5 h5 kd5; have b5 := below_next b4 (kb5.trans kd5); have ke5 := Lib.hid (kb5.trans kd5); have N5 := Lib.hid (Arr.of_own h5); obtain ⟨R5, d5, hv5⟩ := N5.out.form; have hl5 := HLAC.out; rw [hl5] at hv5; subst hv5; clear h5 hl5; have z6 := (own_empty w5 3); have kz6 : Below w5.heap.size w5 (w5.alloc (.cells #[] 3)) := (Below.refl _ _).alloc (Nat.le_refl _) _; have X6 := Lib.hid ((HB.out.up b5).up kz6); have Y6 := Lib.hid (fun W hW => Arr.up (w := W) (HC.out.up b5) hW))
    | (at_builtin; refine append_arr (val := iv) 22 3 (.int .i64 0) 8 Try.underlying22 info_int rfl (by decide) one_ivE (w5.alloc (.cells #[] 3)) rfl (.tmp 45) (.tmp 46) rfl w5.heap.size _ (.slice (some ⟨w5.heap.size, 0, none⟩) 0 0) [] rfl z6 b (.slice A2 m c2) rfl X6.out (by have := HLB.out; have := HG.out; simp; omega) kz6.size ?_; intro va6 wa6 ha6 ka6; have kb6 := kz6.trans ka6; have kc6 := kb6.size; rw [List.nil_append] at ha6; have Ha6 := Lib.hid ha6; obtain ⟨P6, p6, hp6⟩ := (Arr.of_own ha6).form; rw [HLB.out] at hp6; subst hp6; clear ha6 z6)
    | (at_builtin; refine append_arr (val := iv) 22 3 (.int .i64 0) 8 Try.underlying22 info_int rfl (by decide) one_ivE wa6 rfl (.tmp 47) (.tmp 48) rfl w5.heap.size _ (.slice P6 m p6) b rfl Ha6.out x (.slice A3 p c3) rfl (Y6.out _ kb6) (by have := HLB.out; have := HLC.out; have := HG.out; omega) kc6 ?_; intro v6 w6 h6 kd6; have b6 := below_next b5 (kb6.trans kd6); have ke6 := Lib.hid (kb6.trans kd6); have N6 := Lib.hid (Arr.of_own h6); obtain ⟨R6, d6, hv6⟩ := N6.out.form; have hl6 := HLBC.out; rw [hl6] at hv6; subst hv6; clear h6 hl6))
  have e56 := ke6.out
  have e46 := below_next ke5.out ke6.out
  have e36 := below_next ke4.out e46
  have Q3 := Lib.hid (N3.out.up e36)
  have Q4 := Lib.hid (N4.out.up e46)
  have Q5 := Lib.hid (N5.out.up e56)
  have Q6 := Lib.hid N6.out
  have b6' := b6
  go_wp2_with fail
  refine (H2.out _ _ _ _ _ Q3.out Q4.out).mono ?_
  rintro e w7 ⟨rfl, k7⟩
  have b7 := below_next b6 k7
  go_wp2_with fail
  refine (H3.out _ _ _ _ _ (Q5.out.up k7) (Q6.out.up k7)).mono ?_
  rintro e w8 ⟨rfl, k8⟩
  have b8 := below_next b7 k8
  have k78 := below_next k7 k8
  go_wp2_with fail
  refine (H4.out _ _ _ _ _ (Q3.out.up k78) (Q6.out.up k78)).mono ?_
  rintro e w9 ⟨rfl, k9⟩
  have b9 := below_next b8 k9
  go_wp2_with fail
  refine (H5.out _ (HC.out.up b9) (HB.out.up b9)).mono ?_
  rintro e w10 ⟨rfl, k10⟩
  have b10 := below_next b9 k10
  go_wp2_with fail
  refine (H6.out _ (HA.out.up b10) (HC.out.up b10)).mono ?_
  rintro e w11 ⟨rfl, k11⟩
  have b11 := below_next b10 k11
  go_wp2
  go_ret
  exact ⟨rfl, b11⟩

end Go.Proofs.Ytlloofmmblhnjaa

namespace Go.Proofs.Ytlloofmmblhnjaa
open Go.RowKit

set_option maxRecDepth 20000 in
set_option maxHeartbeats 3200000 in
theorem editSubsequence_v (A A2 A3 : Option Addr) (n c m c2 p c3 : Nat) (a b x : List Int) (w : World) (h : Arr iv w w.heap.size (.slice A n c) a) (h2 : Arr iv w w.heap.size (.slice A2 m c2) b) (h3 : Arr iv w w.heap.size (.slice A3 p c3) x) :
    Calls Try.prog 10 #[.slice A n c, .slice A2 m c2, .slice A3 p c3] w fun e w' => e = .returned (.bool true) ∧ Below w.heap.size w w' := by
  have HAw := Lib.hid (awake11_any w)
  have HF := Lib.hid (fun W => few_of A A2 n c m c2 W)
  have HG := Lib.hid (fun W => few_of A3 none p c3 0 0 W)
  have HA := Lib.hid h
  have HB := Lib.hid h2
  have HC := Lib.hid h3
  clear h h2 h3
  by_cases hs : n ≤ 60 ∧ m ≤ 60
  · obtain ⟨hn, hm⟩ := hs
    rw [decide_eq_true hn, decide_eq_true hm] at HF
    by_cases hp : p ≤ 60
    · rw [decide_eq_true hp, decide_eq_true (show 0 ≤ 60 by omega)] at HG
      have L1 := HA.out.len
      have L2 := HB.out.len
      have L3 := HC.out.len
      obtain ⟨s1, s2, s3⟩ := sub_facts a b
      have i1 : insideE (subD a b) a = true := (inside_iff _ _).2 s1
      have i2 : insideE (subD a b) b = true := (inside_iff _ _).2 s2
      have hsl : (subD a b).length ≤ 60 := by have := s1.length_le; omega
      have u1 := sub_low a b
      have u2 := sub_high a b
      have u3 := ed_high a b
      have hmost := fun e1 e2 => lcs_most a b x ((inside_iff _ _).1 e1) ((inside_iff _ _).1 e2)
      rw [← s3, L3] at hmost
      have HSb := Lib.hid (fun W hA hB => prSubsequence_any A A2 n c m c2 a b W hA hB (by omega) (by omega))
      have HI1 := Lib.hid (fun R r g W hA hB (hq : r ≤ 1000) => refInside11_any A R r g n c (subD a b) a W hA hB (by omega) (by omega))
      have HI2 := Lib.hid (fun R r g W hA hB (hq : r ≤ 1000) => refInside11_any A2 R r g m c2 (subD a b) b W hA hB (by omega) (by omega))
      rw [i1] at HI1
      rw [i2] at HI2
      have HI3 := Lib.hid (fun W hA hB => refInside11_any A A3 p c3 n c x a W hA hB (by omega) (by omega))
      have HI4 := Lib.hid (fun W hA hB => refInside11_any A2 A3 p c3 m c2 x b W hA hB (by omega) (by omega))
      have HD := Lib.hid (fun W hA hB => prDistance_any A A2 n c m c2 a b W hA hB (by omega) (by omega))
      obtain ⟨D, hD⟩ : ∃ D, edD a b = D := ⟨_, rfl⟩
      obtain ⟨S, hS⟩ : ∃ D, subD a b = D := ⟨_, rfl⟩
      obtain ⟨Z, hZ⟩ : ∃ D, S.length = D := ⟨_, rfl⟩
      obtain ⟨I, hI⟩ : ∃ D, insideE x a = D := ⟨_, rfl⟩
      obtain ⟨J, hJ⟩ : ∃ D, insideE x b = D := ⟨_, rfl⟩
      obtain ⟨M, hM⟩ : ∃ D, max n m = D := ⟨_, rfl⟩
      rw [hS] at HSb HI1 HI2 hsl u1 u2 hmost
      rw [hZ] at hsl u1 u2 hmost
      rw [hD] at HD u1 u2 u3
      rw [L1, L2] at u1 u2 u3
      rw [hM] at u1 u3
      rw [hI] at HI3 hmost
      rw [hJ] at HI4 hmost
      have HZ := Lib.hid hZ
      have hMz : max (n : Int) (m : Int) = (M : Int) := by omega
      have q1 : IntKind.i64.wrap ((M : Int) - (Z : Int)) = (M : Int) - (Z : Int) := wraps_i64 _ (by omega) (by omega)
      have q2 : decide ((M : Int) - (Z : Int) ≤ (D : Int)) = true := decide_eq_true (by omega)
      have q3 : IntKind.i64.wrap ((n : Int) + (m : Int)) = (n : Int) + (m : Int) := wraps_i64 _ (by omega) (by omega)
      have q4 : IntKind.i64.wrap (2 * (Z : Int)) = 2 * (Z : Int) := wraps_i64 _ (by omega) (by omega)
      have q5 : IntKind.i64.wrap ((n : Int) + (m : Int) - 2 * (Z : Int)) = (n : Int) + (m : Int) - 2 * (Z : Int) := wraps_i64 _ (by omega) (by omega)
      have q6 : decide ((D : Int) ≤ (n : Int) + (m : Int) - 2 * (Z : Int)) = true := decide_eq_true (by omega)
      have HSl := Lib.hid hsl
      cases I with
      | false =>
        clear hn hm hp hsl u1 u2 u3 hD hS hZ hI hJ hM i1 i2 s1 s2 s3 L1 L2 L3 hmost
        go_enter Try.func10, Try.ntmps10
        go_wp2_with fail
        refine HAw.out.mono ?_
        rintro e w1 ⟨rfl, k1⟩
        have b1 := k1
        go_wp2_with fail
        refine (HF.out _).mono ?_
        rintro e _ ⟨rfl, rfl⟩
        go_wp2_with fail
        refine (HG.out _).mono ?_
        rintro e _ ⟨rfl, rfl⟩
        go_wp2_with fail
        refine (HSb.out _ (HA.out.up b1) (HB.out.up b1)).mono ?_
        rintro e w2 ⟨R2, r2, g2, rfl, hR2, k2⟩
        have b2 := below_next b1 k2
        have HR2 := Lib.hid hR2
        clear hR2
        obtain rfl : r2 = Z := by have := HR2.out.len; have := HZ.out; omega
        go_wp2_with fail
        refine (HI1.out _ _ _ _ HR2.out (HA.out.up b2) (by have := HSl.out; omega)).mono ?_
        rintro e w3 ⟨rfl, k3⟩
        have b3 := below_next b2 k3
        go_wp2_with fail
        refine (HI2.out _ _ _ _ (HR2.out.up k3) (HB.out.up b3) (by have := HSl.out; omega)).mono ?_
        rintro e w4 ⟨rfl, k4⟩
        have b4 := below_next b3 k4
        go_wp2_with fail
        refine (HI3.out _ (HC.out.up b4) (HA.out.up b4)).mono ?_
        rintro e w5 ⟨rfl, k5⟩
        have b5 := below_next b4 k5
        go_wp2_with fail
        refine (HD.out _ (HA.out.up b5) (HB.out.up b5)).mono ?_
        rintro e w6 ⟨rfl, k6⟩
        have b6 := below_next b5 k6
        go_wp2
        go_ret
        exact ⟨rfl, b6⟩
      | true =>
        cases J with
        | false =>
          clear hn hm hp hsl u1 u2 u3 hD hS hZ hI hJ hM i1 i2 s1 s2 s3 L1 L2 L3 hmost
          go_enter Try.func10, Try.ntmps10
          go_wp2_with fail
          refine HAw.out.mono ?_
          rintro e w1 ⟨rfl, k1⟩
          have b1 := k1
          go_wp2_with fail
          refine (HF.out _).mono ?_
          rintro e _ ⟨rfl, rfl⟩
          go_wp2_with fail
          refine (HG.out _).mono ?_
          rintro e _ ⟨rfl, rfl⟩
          go_wp2_with fail
          refine (HSb.out _ (HA.out.up b1) (HB.out.up b1)).mono ?_
          rintro e w2 ⟨R2, r2, g2, rfl, hR2, k2⟩
          have b2 := below_next b1 k2
          have HR2 := Lib.hid hR2
          clear hR2
          obtain rfl : r2 = Z := by have := HR2.out.len; have := HZ.out; omega
          go_wp2_with fail
          refine (HI1.out _ _ _ _ HR2.out (HA.out.up b2) (by have := HSl.out; omega)).mono ?_
          rintro e w3 ⟨rfl, k3⟩
          have b3 := below_next b2 k3
          go_wp2_with fail
          refine (HI2.out _ _ _ _ (HR2.out.up k3) (HB.out.up b3) (by have := HSl.out; omega)).mono ?_
          rintro e w4 ⟨rfl, k4⟩
          have b4 := below_next b3 k4
          go_wp2_with fail
          refine (HI3.out _ (HC.out.up b4) (HA.out.up b4)).mono ?_
          rintro e w5 ⟨rfl, k5⟩
          have b5 := below_next b4 k5
          go_wp2_with fail
          refine (HI4.out _ (HC.out.up b5) (HB.out.up b5)).mono ?_
          rintro e w6 ⟨rfl, k6⟩
          have b6 := below_next b5 k6
          go_wp2_with fail
          refine (HD.out _ (HA.out.up b6) (HB.out.up b6)).mono ?_
          rintro e w7 ⟨rfl, k7⟩
          have b7 := below_next b6 k7
          go_wp2
          go_ret
          exact ⟨rfl, b7⟩
        | true =>
          have hpz := hmost rfl rfl
          have q7 : decide ((Z : Int) < (p : Int)) = false := decide_eq_false (by omega)
          have q7n : decide (Z < p) = false := decide_eq_false (by omega)
          clear hn hm hp hsl u1 u2 u3 hD hS hZ hI hJ hM i1 i2 s1 s2 s3 L1 L2 L3 hmost hpz
          go_enter Try.func10, Try.ntmps10
          go_wp2_with fail
          refine HAw.out.mono ?_
          rintro e w1 ⟨rfl, k1⟩
          have b1 := k1
          go_wp2_with fail
          refine (HF.out _).mono ?_
          rintro e _ ⟨rfl, rfl⟩
          go_wp2_with fail
          refine (HG.out _).mono ?_
          rintro e _ ⟨rfl, rfl⟩
          go_wp2_with fail
          refine (HSb.out _ (HA.out.up b1) (HB.out.up b1)).mono ?_
          rintro e w2 ⟨R2, r2, g2, rfl, hR2, k2⟩
          have b2 := below_next b1 k2
          have HR2 := Lib.hid hR2
          clear hR2
          obtain rfl : r2 = Z := by have := HR2.out.len; have := HZ.out; omega
          go_wp2_with fail
          refine (HI1.out _ _ _ _ HR2.out (HA.out.up b2) (by have := HSl.out; omega)).mono ?_
          rintro e w3 ⟨rfl, k3⟩
          have b3 := below_next b2 k3
          go_wp2_with fail
          refine (HI2.out _ _ _ _ (HR2.out.up k3) (HB.out.up b3) (by have := HSl.out; omega)).mono ?_
          rintro e w4 ⟨rfl, k4⟩
          have b4 := below_next b3 k4
          go_wp2_with fail
          refine (HI3.out _ (HC.out.up b4) (HA.out.up b4)).mono ?_
          rintro e w5 ⟨rfl, k5⟩
          have b5 := below_next b4 k5
          go_wp2_with fail
          refine (HI4.out _ (HC.out.up b5) (HB.out.up b5)).mono ?_
          rintro e w6 ⟨rfl, k6⟩
          have b6 := below_next b5 k6
          go_wp2_with fail
          refine (HD.out _ (HA.out.up b6) (HB.out.up b6)).mono ?_
          rintro e w7 ⟨rfl, k7⟩
          have b7 := below_next b6 k7
          go_wp2
          go_ret
          exact ⟨rfl, b7⟩
    · rw [decide_eq_false hp] at HG
      clear hn hm hp
      go_enter Try.func10, Try.ntmps10
      go_wp2_with fail
      refine HAw.out.mono ?_
      rintro e w1 ⟨rfl, k1⟩
      go_wp2_with fail
      refine (HF.out _).mono ?_
      rintro e _ ⟨rfl, rfl⟩
      go_wp2_with fail
      refine (HG.out _).mono ?_
      rintro e _ ⟨rfl, rfl⟩
      go_wp2
      go_ret
      exact ⟨rfl, k1⟩
  · have hf : (decide (n ≤ 60) && decide (m ≤ 60)) = false := by simp; omega
    rw [hf] at HF
    clear hs hf
    go_enter Try.func10, Try.ntmps10
    go_wp2_with fail
    refine HAw.out.mono ?_
    rintro e w1 ⟨rfl, k1⟩
    go_wp2_with fail
    refine (HF.out _).mono ?_
    rintro e _ ⟨rfl, rfl⟩
    go_wp2
    go_ret
    exact ⟨rfl, k1⟩

end Go.Proofs.Ytlloofmmblhnjaa
