/-
  The program's Key, Compare, Primary.
  What the laws of collate build on: the given tailorings, the examples of the document, few, Own.
  The body of CollateBeginnings.
  Arguments that came in: slices of integers as lists, strings.
-/
import Derived.Test.YtafnjbmeponobaaDoorPkBA
import Derived.Test.YtafnjbmeponobaaDoorPkAE
import Derived.Test.YtafnjbmeponobaaDoorPkAJ
import Derived.Test.YtafnjbmeponobaaDoorWords
import Derived.ProofKit
import Derived.OpenShut
import Derived.SliceStrings
import Derived.ChangeArms
namespace Go.Proofs.YtafnjbmeponobaaDoor
open Go.RowKit

/-- A tailoring that is handed over. -/
structure Tab8 (w : World) (A : Option Addr) (n c : Nat) (t : List RuleL) : Prop where
  arr : SArr 2 rv w w.heap.size (.slice A n c) t
  few : n ≤ 1000
  short : ∀ x ∈ t, x.1.length ≤ 1000 ∧ x.2.length ≤ 1000
theorem Tab8.up {W w : World} {A : Option Addr} {n c : Nat} {t : List RuleL} (h : Tab8 W A n c t) (hb : Below W.heap.size W w) : Tab8 w A n c t := ⟨h.arr.up hb, h.few, h.short⟩
theorem Tab8.nil_ (w : World) : Tab8 w none 0 0 [] := ⟨SArr.nil_ _ _, by omega, by simp⟩
theorem nKey_good {t : List RuleL} {s : List UInt8} (h : goodT t s = true) : nKey t s = keyB t s := if_pos h
theorem nKey_bad {t : List RuleL} {s : List UInt8} (h : goodT t s = false) : nKey t s = [] := if_neg (by rw [h]; exact Bool.false_ne_true)
theorem nPrim_bad {t : List RuleL} {s : List UInt8} (h : goodT t s = false) : nPrim t s = [] := if_neg (by rw [h]; exact Bool.false_ne_true)
theorem good_of {t : List RuleL} {s : List UInt8} (h1 : validT t = true) (h2 : (decR s).isSome = true) : goodT t s = true := by unfold goodT; rw [h1, h2]; rfl
theorem good_no1 {t : List RuleL} {s : List UInt8} (h1 : validT t = false) : goodT t s = false := by unfold goodT; rw [h1, Bool.and_false]
theorem good_no2 {t : List RuleL} {s : List UInt8} (h2 : (decR s).isSome = false) : goodT t s = false := by unfold goodT; rw [h2]; rfl
theorem nCmp_bad {t : List RuleL} {a b : List UInt8} (h : goodT t a = false ∨ goodT t b = false) : nCmp t a b = 0 := by
  refine if_neg fun h2 => ?_
  rcases h with h | h
  · rw [h] at h2; cases h2.1
  · rw [h] at h2; cases h2.2

set_option maxRecDepth 20000 in
set_option maxHeartbeats 3200000 in
theorem prKeyX_any (A : Option Addr) (n c : Nat) (t : List RuleL) (s : List UInt8) (w : World) (hS : Spans w) (h : Tab8 w A n c t) (hs : s.length ≤ 500) :
    Calls Tryd.prog 12 #[.slice A n c, .string (str s)] w fun e w' => ∃ A' n' c', e = .returned (.slice A' n' c') ∧ Arr bv w' w'.heap.size (.slice A' n' c') (nKey t s) ∧ Below w.heap.size w w' := by
  have HV := Lib.hid (prValid_any A n c t w hS h.arr h.few h.short)
  cases hv : validT t with
  | false =>
    rw [hv] at HV
    rw [nKey_bad (good_no1 hv)]
    clear hS h hv
    go_enter Tryd.func12, Tryd.ntmps12
    go_wp2_with fail
    refine HV.out.mono ?_
    rintro e w1 ⟨rfl, k1⟩
    go_wp2
    go_ret
    exact ⟨_, _, _, rfl, .inl ⟨rfl, rfl⟩, k1⟩
  | true =>
    rw [hv] at HV
    have HE := Lib.hid (fun (W : World) (hW : Below w.heap.size w W) => prEncoded_any s W (hS.below hW) (by omega))
    cases he : (decR s).isSome with
    | false =>
      rw [he] at HE
      rw [nKey_bad (good_no2 he)]
      clear hS h hv he
      go_enter Tryd.func12, Tryd.ntmps12
      go_wp2_with fail
      refine HV.out.mono ?_
      rintro e w1 ⟨rfl, k1⟩
      go_wp2_with fail
      refine (HE.out _ k1).mono ?_
      rintro e w2 ⟨rfl, k2⟩
      go_wp2
      go_ret
      exact ⟨_, _, _, rfl, .inl ⟨rfl, rfl⟩, below_next k1 k2⟩
    | true =>
      rw [he] at HE
      rw [nKey_good (good_of hv he)]
      have HP := Lib.hid (fun (W : World) (hW : Below w.heap.size w W) => prPrepare_any A n c t W (hS.below hW) (h.arr.up hW) hv)
      have HK := Lib.hid (fun (W : World) (hW : Below w.heap.size w W) (A' : Option Addr) (n' c' : Nat) (hL : Ltt W W.heap.size (.slice A' n' c') (t.map letL)) => prKey_any A' n' c' t s W (hS.below hW) hL hv hs)
      clear hS h hv he
      go_enter Tryd.func12, Tryd.ntmps12
      go_wp2_with fail
      refine HV.out.mono ?_
      rintro e w1 ⟨rfl, k1⟩
      go_wp2_with fail
      refine (HE.out _ k1).mono ?_
      rintro e w2 ⟨rfl, k2⟩
      have b2 := below_next k1 k2
      go_wp2_with fail
      refine (HP.out _ b2).mono ?_
      rintro e w3 ⟨A3, n3, c3, rfl, hL3, k3⟩
      have b3 := below_next b2 k3
      have HK3 := Lib.hid (HK.out _ b3 A3 n3 c3 hL3)
      go_wp2_with fail
      refine HK3.out.mono ?_
      rintro e w4 ⟨A4, n4, c4, rfl, hA4, k4⟩
      have HA4 := Lib.hid hA4
      clear hA4
      go_wp2
      go_ret
      exact ⟨_, _, _, rfl, HA4.out, below_next b3 k4⟩

set_option maxRecDepth 20000 in
set_option maxHeartbeats 3200000 in
theorem prCompare_any (A : Option Addr) (n c : Nat) (t : List RuleL) (a b : List UInt8) (w : World) (hS : Spans w) (h : Tab8 w A n c t) (ha : a.length ≤ 500) (hb : b.length ≤ 500) :
    Calls Tryd.prog 7 #[.slice A n c, .string (str a), .string (str b)] w fun e w' => e = .returned (.int .i64 (nCmp t a b)) ∧ Below w.heap.size w w' := by
  have HV := Lib.hid (prValid_any A n c t w hS h.arr h.few h.short)
  cases hv : validT t with
  | false =>
    rw [hv] at HV
    rw [nCmp_bad (.inl (good_no1 hv))]
    clear hS h hv
    go_enter Tryd.func7, Tryd.ntmps7
    go_wp2_with fail
    refine HV.out.mono ?_
    rintro e w1 ⟨rfl, k1⟩
    go_wp2
    go_ret
    exact ⟨rfl, k1⟩
  | true =>
    rw [hv] at HV
    have HE := Lib.hid (fun (W : World) (hW : Below w.heap.size w W) => prEncoded_any a W (hS.below hW) (by omega))
    have HE2 := Lib.hid (fun (W : World) (hW : Below w.heap.size w W) => prEncoded_any b W (hS.below hW) (by omega))
    cases he : (decR a).isSome with
    | false =>
      rw [he] at HE
      rw [nCmp_bad (.inl (good_no2 he))]
      clear hS h hv he
      go_enter Tryd.func7, Tryd.ntmps7
      go_wp2_with fail
      refine HV.out.mono ?_
      rintro e w1 ⟨rfl, k1⟩
      go_wp2_with fail
      refine (HE.out _ k1).mono ?_
      rintro e w2 ⟨rfl, k2⟩
      go_wp2
      go_ret
      exact ⟨rfl, below_next k1 k2⟩
    | true =>
      rw [he] at HE
      cases he2 : (decR b).isSome with
      | false =>
        rw [he2] at HE2
        rw [nCmp_bad (.inr (good_no2 he2))]
        clear hS h hv he he2
        go_enter Tryd.func7, Tryd.ntmps7
        go_wp2_with fail
        refine HV.out.mono ?_
        rintro e w1 ⟨rfl, k1⟩
        go_wp2_with fail
        refine (HE.out _ k1).mono ?_
        rintro e w2 ⟨rfl, k2⟩
        have b2 := below_next k1 k2
        go_wp2_with fail
        refine (HE2.out _ b2).mono ?_
        rintro e w3 ⟨rfl, k3⟩
        go_wp2
        go_ret
        exact ⟨rfl, below_next b2 k3⟩
      | true =>
        rw [he2] at HE2
        have HO : Hid (ordB (keyB t a) (keyB t b) = nCmp t a b) := Lib.hid (by
          have h1 := nKey_order (good_of hv he) (good_of hv he2)
          rwa [nKey_good (good_of hv he), nKey_good (good_of hv he2)] at h1)
        have HP := Lib.hid (fun (W : World) (hW : Below w.heap.size w W) => prPrepare_any A n c t W (hS.below hW) (h.arr.up hW) hv)
        have HK := Lib.hid (fun (W : World) (hW : Below w.heap.size w W) (A' : Option Addr) (n' c' : Nat) (hL : Ltt W W.heap.size (.slice A' n' c') (t.map letL)) => prKey_any A' n' c' t a W (hS.below hW) hL hv ha)
        have HK2 := Lib.hid (fun (W : World) (hW : Below w.heap.size w W) (A' : Option Addr) (n' c' : Nat) (hL : Ltt W W.heap.size (.slice A' n' c') (t.map letL)) => prKey_any A' n' c' t b W (hS.below hW) hL hv hb)
        clear hS h hv he he2
        go_enter Tryd.func7, Tryd.ntmps7
        go_wp2_with fail
        refine HV.out.mono ?_
        rintro e w1 ⟨rfl, k1⟩
        go_wp2_with fail
        refine (HE.out _ k1).mono ?_
        rintro e w2 ⟨rfl, k2⟩
        have b2 := below_next k1 k2
        go_wp2_with fail
        refine (HE2.out _ b2).mono ?_
        rintro e w3 ⟨rfl, k3⟩
        have b3 := below_next b2 k3
        go_wp2_with fail
        refine (HP.out _ b3).mono ?_
        rintro e w4 ⟨A4, n4, c4, rfl, hL4, k4⟩
        have b4 := below_next b3 k4
        have HK4 := Lib.hid (HK.out _ b4 A4 n4 c4 hL4)
        have HL4 := Lib.hid hL4
        clear hL4
        go_wp2_with fail
        refine HK4.out.mono ?_
        rintro e w5 ⟨A5, n5, c5, rfl, hA5, k5⟩
        have b5 := below_next b4 k5
        have HK5 := Lib.hid (HK2.out _ b5 A4 n4 c4 (HL4.out.up k5))
        have HA5 := Lib.hid hA5
        clear hA5
        go_wp2_with fail
        refine HK5.out.mono ?_
        rintro e w6 ⟨A6, n6, c6, rfl, hA6, k6⟩
        have b6 := below_next b5 k6
        have HC := Lib.hid (bytesCompare_any A5 n5 c5 A6 n6 c6 _ _ _ w6 (HA5.out.up k6) hA6)
        rw [HO.out] at HC
        clear hA6
        go_wp2_with fail
        refine HC.out.mono ?_
        rintro e w7 ⟨rfl, rfl⟩
        go_wp2
        go_ret
        exact ⟨rfl, b6⟩

end Go.Proofs.YtafnjbmeponobaaDoor

namespace Go.Proofs.YtafnjbmeponobaaDoor
open Go.RowKit

def sweT : List RuleL := [([97, 204, 138], [122]), ([97, 204, 136], [122]), ([111, 204, 136], [122])]
def czeT : List RuleL := [([99, 204, 140], [99]), ([99, 104], [104]), ([114, 204, 140], [114]), ([115, 204, 140], [115]), ([122, 204, 140], [122])]
theorem box_rules {w w0 : World} {t : TypeId} {cs : Array Value} (T : List RuleL) (n : Nat) (hn : T.length = n) (hcs : cs = (T.flatMap rv).toArray) (hb : Box w0 w.heap.size t cs) (hz : w.heap.size + 1 ≤ w0.heap.size) :
    SArr 2 rv w0 w0.heap.size (.slice (some ⟨w.heap.size, 0, none⟩) n n) T := by
  have h := SArr.of_box (val := rv) (sz := 2) (xs := T) (n := n) (c := n) hb hn (Nat.le_refl _) (fun i u hu j x hx => by
    have h1 := flat_at rv_len T i u j x hu hx
    rw [hcs]
    simpa using h1)
  exact h.more hz

set_option maxRecDepth 20000 in
set_option maxHeartbeats 3200000 in
theorem prSwedish_any (w : World) : Calls Tryd.prog 9 #[] w fun e w' => ∃ A, e = .returned (.slice A 3 3) ∧ Tab8 w' A 3 3 sweT ∧ Below w.heap.size w w' := by
  go_enter Tryd.func9, Tryd.ntmps9
  go_wp2
  go_ret
  exact ⟨_, rfl, ⟨box_rules sweT 3 rfl (by kernel_rfl) (Box.made w _ _) (by simp), by omega, by decide⟩, (Below.refl _ _).alloc (Nat.le_refl _) _⟩

set_option maxRecDepth 20000 in
set_option maxHeartbeats 3200000 in
theorem prCzech_any (w : World) : Calls Tryd.prog 10 #[] w fun e w' => ∃ A, e = .returned (.slice A 5 5) ∧ Tab8 w' A 5 5 czeT ∧ Below w.heap.size w w' := by
  go_enter Tryd.func10, Tryd.ntmps10
  go_wp2
  go_ret
  exact ⟨_, rfl, ⟨box_rules czeT 5 rfl (by kernel_rfl) (Box.made w _ _) (by simp), by omega, by decide⟩, (Below.refl _ _).alloc (Nat.le_refl _) _⟩

theorem aw1 : nCmp [] [99, 111, 116, 101] [99, 111, 116, 195, 169] = -1 := by kernel_rfl
theorem aw2 : nCmp [] [99, 111, 116, 195, 169] [67, 111, 116, 195, 169] = -1 := by kernel_rfl
theorem aw3 : nCmp [] [67, 111, 116, 195, 169] [99, 111, 116, 101, 115] = -1 := by kernel_rfl
theorem aw4 : nCmp sweT [122, 111, 110] [195, 165, 107, 97] = -1 := by kernel_rfl
theorem aw5 : nCmp czeT [99, 104, 97, 116, 97] [105, 109, 97, 103, 111] = -1 := by kernel_rfl
theorem aw6 : nCmp czeT [104, 111, 114, 97] [99, 104, 97, 116, 97] = -1 := by kernel_rfl
theorem aw7 : validT czeT = true := by kernel_rfl
theorem aw8 : (nKey [] [97]).length = 11 := by kernel_rfl
theorem cmp_at {A : Option Addr} {n c : Nat} {t : List RuleL} {a b : List UInt8} {r : Int} (hr : nCmp t a b = r) (sa sb : ByteArray) (ea : str a = sa) (eb : str b = sb) (ha : a.length ≤ 500) (hb : b.length ≤ 500) (W : World) (hS : Spans W) (h : Tab8 W A n c t) :
    Calls Tryd.prog 7 #[.slice A n c, .string sa, .string sb] W fun e w' => e = .returned (.int .i64 r) ∧ Below W.heap.size W w' := by
  subst ea eb hr
  exact prCompare_any A n c t a b W hS h ha hb

set_option maxRecDepth 20000 in
set_option maxHeartbeats 6400000 in
theorem awake8_any (w : World) (hS : Spans w) : Calls Tryd.prog 4 #[] w fun e w' => e = .returned (.bool true) ∧ Below w.heap.size w w' := by
  have HS := Lib.hid hS
  have H1 := Lib.hid (cmp_at aw1 ⟨#[99, 111, 116, 101]⟩ ⟨#[99, 111, 116, 195, 169]⟩ rfl rfl (by decide) (by decide) w hS (Tab8.nil_ w))
  go_enter Tryd.func4, Tryd.ntmps4
  go_wp2_with fail
  refine H1.out.mono ?_
  rintro e w1 ⟨rfl, k1⟩
  have H2 := Lib.hid (cmp_at aw2 ⟨#[99, 111, 116, 195, 169]⟩ ⟨#[67, 111, 116, 195, 169]⟩ rfl rfl (by decide) (by decide) w1 (HS.out.below k1) (Tab8.nil_ w1))
  go_wp2_with fail
  refine H2.out.mono ?_
  rintro e w2 ⟨rfl, k2⟩
  have b2 := below_next k1 k2
  have H3 := Lib.hid (cmp_at aw3 ⟨#[67, 111, 116, 195, 169]⟩ ⟨#[99, 111, 116, 101, 115]⟩ rfl rfl (by decide) (by decide) w2 (HS.out.below b2) (Tab8.nil_ w2))
  go_wp2_with fail
  refine H3.out.mono ?_
  rintro e w3 ⟨rfl, k3⟩
  have b3 := below_next b2 k3
  have H4 := Lib.hid (prSwedish_any w3)
  go_wp2_with fail
  refine H4.out.mono ?_
  rintro e w4 ⟨A4, rfl, hT4, k4⟩
  have b4 := below_next b3 k4
  have H5 := Lib.hid (cmp_at aw4 ⟨#[122, 111, 110]⟩ ⟨#[195, 165, 107, 97]⟩ rfl rfl (by decide) (by decide) w4 (HS.out.below b4) hT4)
  clear hT4
  go_wp2_with fail
  refine H5.out.mono ?_
  rintro e w5 ⟨rfl, k5⟩
  have b5 := below_next b4 k5
  have H6 := Lib.hid (prCzech_any w5)
  go_wp2_with fail
  refine H6.out.mono ?_
  rintro e w6 ⟨A6, rfl, hT6, k6⟩
  have b6 := below_next b5 k6
  have H7 := Lib.hid (cmp_at aw5 ⟨#[99, 104, 97, 116, 97]⟩ ⟨#[105, 109, 97, 103, 111]⟩ rfl rfl (by decide) (by decide) w6 (HS.out.below b6) hT6)
  clear hT6
  go_wp2_with fail
  refine H7.out.mono ?_
  rintro e w7 ⟨rfl, k7⟩
  have b7 := below_next b6 k7
  have H8 := Lib.hid (prCzech_any w7)
  go_wp2_with fail
  refine H8.out.mono ?_
  rintro e w8 ⟨A8, rfl, hT8, k8⟩
  have b8 := below_next b7 k8
  have H9 := Lib.hid (cmp_at aw6 ⟨#[104, 111, 114, 97]⟩ ⟨#[99, 104, 97, 116, 97]⟩ rfl rfl (by decide) (by decide) w8 (HS.out.below b8) hT8)
  clear hT8
  go_wp2_with fail
  refine H9.out.mono ?_
  rintro e w9 ⟨rfl, k9⟩
  have b9 := below_next b8 k9
  have H10 := Lib.hid (prCzech_any w9)
  go_wp2_with fail
  refine H10.out.mono ?_
  rintro e w10 ⟨A10, rfl, hT10, k10⟩
  have b10 := below_next b9 k10
  have H11 := Lib.hid (prValid_any A10 5 5 czeT w10 (HS.out.below b10) hT10.arr hT10.few hT10.short)
  rw [aw7] at H11
  clear hT10
  go_wp2_with fail
  refine H11.out.mono ?_
  rintro e w11 ⟨rfl, k11⟩
  have b11 := below_next b10 k11
  have h12 := prKeyX_any none 0 0 [] [97] w11 (HS.out.below b11) (Tab8.nil_ w11) (by decide)
  have e97 : str [97] = ⟨#[97]⟩ := rfl
  rw [e97] at h12
  have H12 := Lib.hid h12
  clear h12 e97
  go_wp2_with fail
  refine H12.out.mono ?_
  rintro e w12 ⟨A12, n12, c12, rfl, hA12, k12⟩
  obtain rfl : n12 = 11 := by have h1 := hA12.len; rw [aw8] at h1; exact h1.symm
  have b12 := below_next b11 k12
  clear hA12
  go_wp2
  go_ret
  exact ⟨rfl, b12⟩

/-! few. -/
def shortR (x : RuleL) : Bool := decide (x.1.length ≤ 20) && decide (x.2.length ≤ 20)
def fewT (t : List RuleL) (l : List (List UInt8)) : Bool := t.all shortR && l.all (fun s => decide (s.length ≤ 40)) && decide (t.length ≤ 45)
structure Given8 (w : World) (A : Option Addr) (n c : Nat) (t : List RuleL) : Prop where
  arr : SArr 2 rv w w.heap.size (.slice A n c) t
  few : n ≤ 9223372036854775807
  short : ∀ x ∈ t, x.1.length ≤ 9223372036854775807 ∧ x.2.length ≤ 9223372036854775807
theorem Given8.up {W w : World} {A : Option Addr} {n c : Nat} {t : List RuleL} (h : Given8 W A n c t) (hb : Below W.heap.size W w) : Given8 w A n c t := ⟨h.arr.up hb, h.few, h.short⟩
theorem few_parts {t : List RuleL} {l : List (List UInt8)} (h : fewT t l = true) : t.length ≤ 45 ∧ (∀ x ∈ t, x.1.length ≤ 20 ∧ x.2.length ≤ 20) ∧ ∀ s ∈ l, s.length ≤ 40 := by
  unfold fewT shortR at h
  simp only [Bool.and_eq_true, decide_eq_true_eq, List.all_eq_true] at h
  exact ⟨h.2, h.1.1, h.1.2⟩
theorem Given8.tab {w : World} {A : Option Addr} {n c : Nat} {t : List RuleL} {l : List (List UInt8)} (h : Given8 w A n c t) (hf : fewT t l = true) : Tab8 w A n c t := by
  obtain ⟨h1, h2, _⟩ := few_parts hf
  have := h.arr.len
  exact ⟨h.arr, by omega, fun x hx => by have := h2 x hx; omega⟩
theorem few_no1 {t : List RuleL} {l : List (List UInt8)} {k : Nat} {x : RuleL} (hx : t[k]? = some x) (h : shortR x = false) : fewT t l = false := by
  unfold fewT
  cases ha : t.all shortR with
  | false => rfl
  | true => rw [List.all_eq_true] at ha; rw [ha x (List.mem_of_getElem? hx)] at h; cases h
theorem few_no2 {t : List RuleL} {l : List (List UInt8)} {k : Nat} {s : List UInt8} (hx : l[k]? = some s) (h : ¬ s.length ≤ 40) : fewT t l = false := by
  unfold fewT
  cases ha : l.all (fun s => decide (s.length ≤ 40)) with
  | false => rw [Bool.and_false]; rfl
  | true => rw [List.all_eq_true] at ha; exact absurd (of_decide_eq_true (ha s (List.mem_of_getElem? hx))) h

theorem info_let8 : (Tryd.prog.info? 48).map (fun i => (i.zero, i.size, i.bytes)) = some (some (.agg #[.string ⟨#[]⟩, .string ⟨#[]⟩]), 2, 32) := by kernel_rfl

end Go.Proofs.YtafnjbmeponobaaDoor

namespace Go.Proofs.YtafnjbmeponobaaDoor
open Go.RowKit

/-- Integers that are all in the repertoire are characters. -/
theorem all_nats8 : ∀ xs : List Int, xs.all hasR = true → ∃ l : List Nat, xs = l.map (fun d : Nat => (d : Int)) ∧ ∀ c ∈ l, hasN c = true
  | [], _ => ⟨[], rfl, by simp⟩
  | x :: xs, h => by
    rw [List.all_cons, Bool.and_eq_true] at h
    obtain ⟨l, h1, h2⟩ := all_nats8 xs h.2
    have hr := has_range h.1
    refine ⟨x.toNat :: l, by rw [List.map_cons, ← h1]; congr 1; omega, fun c hc => ?_⟩
    rcases List.mem_cons.1 hc with rfl | hc
    · rw [← hasN_eq, show ((x.toNat : Nat) : Int) = x by omega]
      exact h.1
    · exact h2 c hc

set_option maxRecDepth 100000 in
set_option maxHeartbeats 6400000 in
theorem collateBeginnings_v (A : Option Addr) (n c : Nat) (xs : List Int) (a : Nat) (w : World) (hS : Spans w) (h : Arr iv w w.heap.size (.slice A n c) xs) (hn : n ≤ 1000000000000000000) (ha : a < 256) :
    Calls Tryd.prog 3 #[.slice A n c, .int .u8 (a : Int)] w fun e w' => e = .returned (.bool true) ∧ Below w.heap.size w w' := by
  have hxl := h.len
  have HAw := Lib.hid (awake8_any w hS)
  have HEn := Lib.hid (fun (W : World) (hW : Below w.heap.size w W) => refEncode_any A n c xs W (h.up hW) hn)
  cases hr : xs.all hasR with
  | false =>
    have HE : Hid (encR xs = none) := Lib.hid (by unfold encR; rw [if_neg]; rw [hr]; decide)
    clear hr hxl hS h
    go_enter Tryd.func3, Tryd.ntmps3
    go_wp2_with fail
    refine HAw.out.mono ?_
    rintro e w1 ⟨rfl, k1⟩
    go_wp2_with fail
    refine (HEn.out _ k1).mono ?_
    rintro e w2 ⟨he, k2⟩
    rw [HE.out] at he
    obtain rfl := show e = _ from he
    go_wp2
    go_ret
    exact ⟨rfl, below_next k1 k2⟩
  | true =>
    obtain ⟨l, rfl, hl⟩ := all_nats8 xs hr
    rw [List.length_map] at hxl
    have hok : ∀ x ∈ l, okC x := fun x hx => ok_of_has (hl x hx)
    have HE : Hid (encR (l.map fun d : Nat => (d : Int)) = some (encL l)) := Lib.hid (encR_nats hok)
    obtain ⟨S, hSS⟩ : ∃ S, encL l = S := ⟨_, rfl⟩
    rw [hSS] at HE
    by_cases h0 : n = 0
    · subst h0
      clear hr hxl hok hl hSS hS h
      go_enter Tryd.func3, Tryd.ntmps3
      go_wp2_with fail
      refine HAw.out.mono ?_
      rintro e w1 ⟨rfl, k1⟩
      go_wp2_with fail
      refine (HEn.out _ k1).mono ?_
      rintro e w2 ⟨he, k2⟩
      rw [HE.out] at he
      obtain rfl := show e = _ from he
      go_wp2
      go_ret
      exact ⟨rfl, below_next k1 k2⟩
    have t0 : ((n : Int) == 0) = false := eqb_false (by omega)
    by_cases h20 : 20 < n
    · have t1 : decide (20 < (n : Int)) = true := by simp; omega
      have t1n : decide (20 < n) = true := by simpa using h20
      clear hr hxl hok hl hSS hS h
      go_enter Tryd.func3, Tryd.ntmps3
      go_wp2_with fail
      refine HAw.out.mono ?_
      rintro e w1 ⟨rfl, k1⟩
      go_wp2_with fail
      refine (HEn.out _ k1).mono ?_
      rintro e w2 ⟨he, k2⟩
      rw [HE.out] at he
      obtain rfl := show e = _ from he
      go_wp2
      go_ret
      exact ⟨rfl, below_next k1 k2⟩
    · have t1 : decide (20 < (n : Int)) = false := by simp; omega
      have t1n : decide (20 < n) = false := by simpa using h20
      obtain ⟨k, hk⟩ : ∃ k, a % n = k := ⟨_, rfl⟩
      have hkn : k < n := by rw [← hk]; exact Nat.mod_lt _ (by omega)
      have hmod : (a : Int) % (n : Int) = (k : Int) := by rw [← hk]; simp
      have hdz : ¬ ((n : Int) = 0) := by omega
      have kz : (k : Int) < (n : Int) := by omega
      have kz0 : (0 : Int) ≤ (k : Int) := by omega
      obtain ⟨x, hx⟩ : ∃ x, l[k]? = some x := ⟨_, List.getElem?_eq_getElem (by omega)⟩
      have hA := h.nat
      obtain ⟨a0, o0, rfl, hA0, hca⟩ := hA.some_ (by omega)
      have d0 : w.cell? ⟨a0, o0 + k, none⟩ = some (.int .i64 (x : Int)) := hca k x hx
      have HS := Lib.hid hS
      have hcl : clsR (x : Int) = (scN x, kN x) := by rw [clsF_eq]; rfl
      have HCl := Lib.hid (fun W => class_any (x : Int) W)
      rw [hcl] at HCl
      unfold two at HCl
      have hSl : S.length ≤ 60 := by
        have h1 := encL_len l
        rw [hSS] at h1
        omega
      obtain ⟨kk, hkk⟩ : ∃ kk, kN x = kk := ⟨_, rfl⟩
      obtain ⟨sc, hsc⟩ : ∃ sc, scN x = sc := ⟨_, rfl⟩
      simp only [hkk, hsc] at HCl
      by_cases hm : kk = 2
      · subst hm
        clear hr hxl hok hl hSS hS h hk hx hA hca hcl hkk hsc
        go_enter Tryd.func3, Tryd.ntmps3
        go_wp2_with fail
        refine HAw.out.mono ?_
        rintro e w1 ⟨rfl, k1⟩
        go_wp2_with fail
        refine (HEn.out _ k1).mono ?_
        rintro e w2 ⟨he, k2⟩
        rw [HE.out] at he
        obtain rfl := show e = _ from he
        have b2 := below_next k1 k2
        have d2 := (b2.cell (p := ⟨a0, o0 + k, none⟩) hA0).trans d0
        clear he d0
        go_wp2_with fail
        refine (HCl.out _).mono ?_
        rintro e w3 ⟨rfl, q3, rfl⟩
        go_wp2
        go_ret
        exact ⟨rfl, below_drewN b2 _⟩
      · have tm : ((kk : Int) == 2) = false := eqb_false (by omega)
        have hbeg := col_begin hl hx (by rw [hkk]; exact hm)
        rw [hSS] at hbeg
        have hdS : decR S = some l := by rw [← hSS]; exact dec_enc l hok
        have hct : cutR S (k : Int) = encL (l.take k) := by
          by_cases hk0 : k = 0
          · subst hk0
            rw [cutR_less (by omega)]
            rfl
          · rw [cutR_some hdS (by omega)]
            simp
        have hcl2 : (encL (l.take k)).length ≤ 60 := by
          have h1 := encL_len (l.take k)
          rw [List.length_take] at h1
          omega
        have HCu := Lib.hid (fun W => refCut_any S (k : Int) W (by omega))
        rw [hct] at HCu
        have HCm := Lib.hid (fun (a b : List UInt8) (ha : a.length ≤ 500) (hb : b.length ≤ 500) (W : World) (hW : Below w.heap.size w W) => prCompare_any none 0 0 [] a b W (HS.out.below hW) (Tab8.nil_ W) ha hb)
        obtain ⟨P, hP⟩ : ∃ P, encL (l.take k) = P := ⟨_, rfl⟩
        rw [hP] at HCu hbeg hcl2
        have HBeg := Lib.hid hbeg
        clear hr hxl hok hl hSS hS h hk hx hA hca hcl hkk hsc hbeg hdS hct hP
        go_enter Tryd.func3, Tryd.ntmps3
        go_wp2_with fail
        refine HAw.out.mono ?_
        rintro e w1 ⟨rfl, k1⟩
        go_wp2_with fail
        refine (HEn.out _ k1).mono ?_
        rintro e w2 ⟨he, k2⟩
        rw [HE.out] at he
        obtain rfl := show e = _ from he
        have b2 := below_next k1 k2
        have d2 := (b2.cell (p := ⟨a0, o0 + k, none⟩) hA0).trans d0
        clear he d0
        go_wp2_with fail
        refine (HCl.out _).mono ?_
        rintro e w3 ⟨rfl, q3, rfl⟩
        have b3 := below_drewN b2 q3
        go_wp2_with fail
        refine (HCu.out _).mono ?_
        rintro e w4 ⟨rfl, k4⟩
        have b4 := below_next b3 k4
        have H5 := Lib.hid (HCm.out P S (by omega) (by omega) w4 b4)
        rw [HBeg.out] at H5
        go_wp2_with fail
        refine H5.out.mono ?_
        rintro e w5 ⟨rfl, k5⟩
        go_wp2
        go_ret
        exact ⟨rfl, below_next b4 k5⟩

theorem collateBeginnings_i (A : Option Addr) (n c : Nat) (a : Int) (xs : List Int) (w : World) (hS : Spans w) (h : Arr iv w w.heap.size (.slice A n c) xs) (hn : n ≤ 1000000000000000000) (h0 : 0 ≤ a) (ha : a < 256) :
    Calls Tryd.prog 3 #[.slice A n c, .int .u8 a] w fun e w' => e = .returned (.bool true) ∧ Below w.heap.size w w' := by
  obtain ⟨m, rfl⟩ : ∃ m : Nat, a = (m : Int) := ⟨a.toNat, by omega⟩
  exact collateBeginnings_v A n c xs m w hS h hn (by omega)

end Go.Proofs.YtafnjbmeponobaaDoor

namespace Go.Proofs.YtafnjbmeponobaaDoor
open Go.RowKit

theorem cell_block {W : World} {a : Addr} {v : Value} (h : W.cell? a = some v) : a.block < W.heap.size := World.block_lt_of_cell? W a h

theorem arr_of_ints {W : World} {x : Addr} {l c : Nat} {zs : List Int} (hl : l ≤ c) (hz : zs.length = c) (hcell : ∀ i, i < zs.length → W.cell? (x.add i) = some (.int .i64 (zs.getD i 0))) :
    ∃ xs, Arr iv W W.heap.size (.slice (some x) l c) xs ∧ xs.length = l := by
  have hlen : (zs.take l).length = l := by rw [List.length_take]; omega
  refine ⟨zs.take l, .inr ⟨x, c, by rw [hlen], by rw [hlen]; exact hl, fun h0 => ?_, fun i u hu => ?_⟩, hlen⟩
  · rw [hlen] at h0
    have := cell_block (hcell 0 (by omega))
    rwa [add_block] at this
  · have hi : i < l := by rw [← hlen]; exact (List.getElem?_eq_some_iff.1 hu).1
    rw [hcell i (by omega)]
    rw [List.getElem?_take, if_pos hi, List.getElem?_eq_getElem (show i < zs.length by omega)] at hu
    simp only [Option.some.injEq] at hu
    have hz' : zs.getD i 0 = zs[i]'(by omega) := by simp [List.getD, List.getElem?_eq_getElem (show i < zs.length by omega)]
    rw [hz', hu]
    rfl

theorem open_i {W : World} {x : Addr} {l c : Nat} {zs : List Int} (hl : l ≤ c) (hm : c ≤ maxLen) (hz : zs.length = c) (hcell : ∀ i, i < zs.length → W.cell? (x.add i) = some (.int .i64 (zs.getD i 0))) :
    ∃ xs, Arr iv W W.heap.size (.slice (some x) l c) xs ∧ xs.length = l ∧ l ≤ 9223372036854775807 := by
  obtain ⟨xs, h1, h2⟩ := arr_of_ints hl hz hcell
  unfold maxLen at hm
  exact ⟨xs, h1, h2, by omega⟩

theorem arr_of_texts {W : World} {x : Addr} {l c : Nat} {ss : List ByteArray} (hl : l ≤ c) (hz : l ≤ ss.length) (hcell : ∀ i, i < ss.length → W.cell? (x.add i) = some (.string (ss.getD i ByteArray.empty)))
    (hws : ∀ s ∈ ss, s.size ≤ maxLen) : ∃ xs, Arr sv W W.heap.size (.slice (some x) l c) xs ∧ xs.length = l ∧ ∀ s ∈ xs, s.length ≤ maxLen := by
  have hlen : ((ss.take l).map fun b => b.data.toList).length = l := by rw [List.length_map, List.length_take]; omega
  refine ⟨(ss.take l).map fun b => b.data.toList, .inr ⟨x, c, by rw [hlen], by rw [hlen]; exact hl, fun h0 => ?_, fun i u hu => ?_⟩, hlen, fun s hs => ?_⟩
  · rw [hlen] at h0
    have := cell_block (hcell 0 (by omega))
    rwa [add_block] at this
  · have hi : i < l := by rw [← hlen]; exact (List.getElem?_eq_some_iff.1 hu).1
    rw [hcell i (by omega)]
    rw [List.getElem?_map, List.getElem?_take, if_pos hi, List.getElem?_eq_getElem (show i < ss.length by omega)] at hu
    simp only [Option.map_some, Option.some.injEq] at hu
    have hz' : ss.getD i ByteArray.empty = ss[i]'(by omega) := by simp [List.getD, List.getElem?_eq_getElem (show i < ss.length by omega)]
    rw [hz', ← hu]
    unfold sv
    rw [str_data]
  · obtain ⟨b, hb, rfl⟩ := List.mem_map.1 hs
    have := hws b (List.mem_of_mem_take hb)
    exact this
theorem open_t {W : World} {x : Addr} {l c : Nat} {ss : List ByteArray} (hl : l ≤ c) (hm : c ≤ maxLen) (hz : l ≤ ss.length) (hcell : ∀ i, i < ss.length → W.cell? (x.add i) = some (.string (ss.getD i ByteArray.empty)))
    (hws : ∀ s ∈ ss, s.size ≤ maxLen) : ∃ xs, Arr sv W W.heap.size (.slice (some x) l c) xs ∧ xs.length = l ∧ l ≤ 9223372036854775807 ∧ ∀ s ∈ xs, s.length ≤ maxLen := by
  obtain ⟨bs, h1, h2, h3⟩ := arr_of_texts hl hz hcell hws
  unfold maxLen at hm
  exact ⟨bs, h1, h2, by omega, h3⟩

theorem open_b8 {W : World} {x : Addr} {l c : Nat} {zs : List Int} (hl : l ≤ c) (hm : c ≤ maxLen) (hz : zs.length = c) (hcell : ∀ i, i < zs.length → W.cell? (x.add i) = some (.int .u8 (zs.getD i 0)))
    (hwz : ∀ n ∈ zs, (Lit.int .u8 n).wf = true) : ∃ bs, Arr bv W W.heap.size (.slice (some x) l c) bs ∧ bs.length = l ∧ l ≤ 9223372036854775807 := by
  have hlen : ((zs.take l).map fun z => UInt8.ofNat z.toNat).length = l := by rw [List.length_map, List.length_take]; omega
  unfold maxLen at hm
  refine ⟨(zs.take l).map fun z => UInt8.ofNat z.toNat, .inr ⟨x, c, by rw [hlen], by rw [hlen]; exact hl, fun h0 => ?_, fun i u hu => ?_⟩, hlen, by omega⟩
  · rw [hlen] at h0
    have := cell_block (hcell 0 (by omega))
    rwa [add_block] at this
  · have hi : i < l := by rw [← hlen]; exact (List.getElem?_eq_some_iff.1 hu).1
    rw [hcell i (by omega)]
    rw [List.getElem?_map, List.getElem?_take, if_pos hi, List.getElem?_eq_getElem (show i < zs.length by omega)] at hu
    simp only [Option.map_some, Option.some.injEq] at hu
    have hz' : zs.getD i 0 = zs[i]'(by omega) := by simp [List.getD, List.getElem?_eq_getElem (show i < zs.length by omega)]
    rw [hz']
    have hb := Go.bounds_u8 (hwz _ (List.getElem_mem (show i < zs.length by omega)))
    subst hu
    unfold bv
    rw [UInt8.toNat_ofNat', Nat.mod_eq_of_lt (by omega), Int.toNat_of_nonneg hb.1]

end Go.Proofs.YtafnjbmeponobaaDoor
