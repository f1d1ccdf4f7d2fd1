/-
  The program's Key, Compare, Primary.
  What the laws of collate build on: the given tailorings, the examples of the document, few, Own.
-/
import Derived.Test.YtafnjbmeponobaaGreatDoorPkBG
namespace Go.Proofs.YtafnjbmeponobaaGreatDoor
open Go.RowKit

/-- A tailoring that is handed over. -/
structure Tab8 (w : World) (A : Option Addr) (n c : Nat) (t : List RuleL) : Prop where
  arr : SArr 2 rv w w.heap.size (.slice A n c) t
  few : n ≤ 1000
  short : ∀ x ∈ t, x.1.length ≤ 1000 ∧ x.2.length ≤ 1000
theorem Tab8.up {W w : World} {A : Option Addr} {n c : Nat} {t : List RuleL} (h : Tab8 W A n c t) (hb : Below W.heap.size W w) : Tab8 w A n c t := ⟨h.arr.up hb, h.few, h.short⟩
theorem Tab8.nil_ (w : World) : Tab8 w none 0 0 [] := ⟨SArr.nil_ _ _, by omega, by simp⟩
theorem nKey_good {t : List RuleL} {s : List UInt8} (h : goodT t s = true) : nKey t s = keyB t s := if_pos h
theorem nKey_bad {t : List RuleL} {s : List UInt8} (h : goodT t s = false) : nKey t s = [] := if_neg (by rw [h]; exact Bool.false_ne_true)
theorem nPrim_bad {t : List RuleL} {s : List UInt8} (h : goodT t s = false) : nPrim t s = [] := if_neg (by rw [h]; exact Bool.false_ne_true)
theorem good_of {t : List RuleL} {s : List UInt8} (h1 : validT t = true) (h2 : (decR s).isSome = true) : goodT t s = true := by unfold goodT; rw [h1, h2]; rfl
theorem good_no1 {t : List RuleL} {s : List UInt8} (h1 : validT t = false) : goodT t s = false := by unfold goodT; rw [h1, Bool.and_false]
theorem good_no2 {t : List RuleL} {s : List UInt8} (h2 : (decR s).isSome = false) : goodT t s = false := by unfold goodT; rw [h2]; rfl
theorem nCmp_bad {t : List RuleL} {a b : List UInt8} (h : goodT t a = false ∨ goodT t b = false) : nCmp t a b = 0 := by
  refine if_neg fun h2 => ?_
  rcases h with h | h
  · rw [h] at h2; cases h2.1
  · rw [h] at h2; cases h2.2

set_option maxRecDepth 20000 in
set_option maxHeartbeats 3200000 in
theorem prKeyX_any (A : Option Addr) (n c : Nat) (t : List RuleL) (s : List UInt8) (w : World) (hS : Spans w) (h : Tab8 w A n c t) (hs : s.length ≤ 500) :
    Calls Tryz.prog 16 #[.slice A n c, .string (str s)] w fun e w' => ∃ A' n' c', e = .returned (.slice A' n' c') ∧ Arr bv w' w'.heap.size (.slice A' n' c') (nKey t s) ∧ Below w.heap.size w w' := by
  have HV := Lib.hid (prValid_any A n c t w hS h.arr h.few h.short)
  cases hv : validT t with
  | false =>
    rw [hv] at HV
    rw [nKey_bad (good_no1 hv)]
    clear hS h hv
    go_enter Tryz.func16, Tryz.ntmps16
    go_wp2_with fail
    refine HV.out.mono ?_
    rintro e w1 ⟨rfl, k1⟩
    go_wp2
    go_ret
    exact ⟨_, _, _, rfl, .inl ⟨rfl, rfl⟩, k1⟩
  | true =>
    rw [hv] at HV
    have HE := Lib.hid (fun (W : World) (hW : Below w.heap.size w W) => prEncoded_any s W (hS.below hW) (by omega))
    cases he : (decR s).isSome with
    | false =>
      rw [he] at HE
      rw [nKey_bad (good_no2 he)]
      clear hS h hv he
      go_enter Tryz.func16, Tryz.ntmps16
      go_wp2_with fail
      refine HV.out.mono ?_
      rintro e w1 ⟨rfl, k1⟩
      go_wp2_with fail
      refine (HE.out _ k1).mono ?_
      rintro e w2 ⟨rfl, k2⟩
      go_wp2
      go_ret
      exact ⟨_, _, _, rfl, .inl ⟨rfl, rfl⟩, below_next k1 k2⟩
    | true =>
      rw [he] at HE
      rw [nKey_good (good_of hv he)]
      have HP := Lib.hid (fun (W : World) (hW : Below w.heap.size w W) => prPrepare_any A n c t W (hS.below hW) (h.arr.up hW) hv)
      have HK := Lib.hid (fun (W : World) (hW : Below w.heap.size w W) (A' : Option Addr) (n' c' : Nat) (hL : Ltt W W.heap.size (.slice A' n' c') (t.map letL)) => prKey_any A' n' c' t s W (hS.below hW) hL hv hs)
      clear hS h hv he
      go_enter Tryz.func16, Tryz.ntmps16
      go_wp2_with fail
      refine HV.out.mono ?_
      rintro e w1 ⟨rfl, k1⟩
      go_wp2_with fail
      refine (HE.out _ k1).mono ?_
      rintro e w2 ⟨rfl, k2⟩
      have b2 := below_next k1 k2
      go_wp2_with fail
      refine (HP.out _ b2).mono ?_
      rintro e w3 ⟨A3, n3, c3, rfl, hL3, k3⟩
      have b3 := below_next b2 k3
      have HK3 := Lib.hid (HK.out _ b3 A3 n3 c3 hL3)
      go_wp2_with fail
      refine HK3.out.mono ?_
      rintro e w4 ⟨A4, n4, c4, rfl, hA4, k4⟩
      have HA4 := Lib.hid hA4
      clear hA4
      go_wp2
      go_ret
      exact ⟨_, _, _, rfl, HA4.out, below_next b3 k4⟩

set_option maxRecDepth 20000 in
set_option maxHeartbeats 3200000 in
theorem prCompare_any (A : Option Addr) (n c : Nat) (t : List RuleL) (a b : List UInt8) (w : World) (hS : Spans w) (h : Tab8 w A n c t) (ha : a.length ≤ 500) (hb : b.length ≤ 500) :
    Calls Tryz.prog 21 #[.slice A n c, .string (str a), .string (str b)] w fun e w' => e = .returned (.int .i64 (nCmp t a b)) ∧ Below w.heap.size w w' := by
  have HV := Lib.hid (prValid_any A n c t w hS h.arr h.few h.short)
  cases hv : validT t with
  | false =>
    rw [hv] at HV
    rw [nCmp_bad (.inl (good_no1 hv))]
    clear hS h hv
    go_enter Tryz.func21, Tryz.ntmps21
    go_wp2_with fail
    refine HV.out.mono ?_
    rintro e w1 ⟨rfl, k1⟩
    go_wp2
    go_ret
    exact ⟨rfl, k1⟩
  | true =>
    rw [hv] at HV
    have HE := Lib.hid (fun (W : World) (hW : Below w.heap.size w W) => prEncoded_any a W (hS.below hW) (by omega))
    have HE2 := Lib.hid (fun (W : World) (hW : Below w.heap.size w W) => prEncoded_any b W (hS.below hW) (by omega))
    cases he : (decR a).isSome with
    | false =>
      rw [he] at HE
      rw [nCmp_bad (.inl (good_no2 he))]
      clear hS h hv he
      go_enter Tryz.func21, Tryz.ntmps21
      go_wp2_with fail
      refine HV.out.mono ?_
      rintro e w1 ⟨rfl, k1⟩
      go_wp2_with fail
      refine (HE.out _ k1).mono ?_
      rintro e w2 ⟨rfl, k2⟩
      go_wp2
      go_ret
      exact ⟨rfl, below_next k1 k2⟩
    | true =>
      rw [he] at HE
      cases he2 : (decR b).isSome with
      | false =>
        rw [he2] at HE2
        rw [nCmp_bad (.inr (good_no2 he2))]
        clear hS h hv he he2
        go_enter Tryz.func21, Tryz.ntmps21
        go_wp2_with fail
        refine HV.out.mono ?_
        rintro e w1 ⟨rfl, k1⟩
        go_wp2_with fail
        refine (HE.out _ k1).mono ?_
        rintro e w2 ⟨rfl, k2⟩
        have b2 := below_next k1 k2
        go_wp2_with fail
        refine (HE2.out _ b2).mono ?_
        rintro e w3 ⟨rfl, k3⟩
        go_wp2
        go_ret
        exact ⟨rfl, below_next b2 k3⟩
      | true =>
        rw [he2] at HE2
        have HO : Hid (ordB (keyB t a) (keyB t b) = nCmp t a b) := Lib.hid (by
          have h1 := nKey_order (good_of hv he) (good_of hv he2)
          rwa [nKey_good (good_of hv he), nKey_good (good_of hv he2)] at h1)
        have HP := Lib.hid (fun (W : World) (hW : Below w.heap.size w W) => prPrepare_any A n c t W (hS.below hW) (h.arr.up hW) hv)
        have HK := Lib.hid (fun (W : World) (hW : Below w.heap.size w W) (A' : Option Addr) (n' c' : Nat) (hL : Ltt W W.heap.size (.slice A' n' c') (t.map letL)) => prKey_any A' n' c' t a W (hS.below hW) hL hv ha)
        have HK2 := Lib.hid (fun (W : World) (hW : Below w.heap.size w W) (A' : Option Addr) (n' c' : Nat) (hL : Ltt W W.heap.size (.slice A' n' c') (t.map letL)) => prKey_any A' n' c' t b W (hS.below hW) hL hv hb)
        clear hS h hv he he2
        go_enter Tryz.func21, Tryz.ntmps21
        go_wp2_with fail
        refine HV.out.mono ?_
        rintro e w1 ⟨rfl, k1⟩
        go_wp2_with fail
        refine (HE.out _ k1).mono ?_
        rintro e w2 ⟨rfl, k2⟩
        have b2 := below_next k1 k2
        go_wp2_with fail
        refine (HE2.out _ b2).mono ?_
        rintro e w3 ⟨rfl, k3⟩
        have b3 := below_next b2 k3
        go_wp2_with fail
        refine (HP.out _ b3).mono ?_
        rintro e w4 ⟨A4, n4, c4, rfl, hL4, k4⟩
        have b4 := below_next b3 k4
        have HK4 := Lib.hid (HK.out _ b4 A4 n4 c4 hL4)
        have HL4 := Lib.hid hL4
        clear hL4
        go_wp2_with fail
        refine HK4.out.mono ?_
        rintro e w5 ⟨A5, n5, c5, rfl, hA5, k5⟩
        have b5 := below_next b4 k5
        have HK5 := Lib.hid (HK2.out _ b5 A4 n4 c4 (HL4.out.up k5))
        have HA5 := Lib.hid hA5
        clear hA5
        go_wp2_with fail
        refine HK5.out.mono ?_
        rintro e w6 ⟨A6, n6, c6, rfl, hA6, k6⟩
        have b6 := below_next b5 k6
        have HC := Lib.hid (bytesCompare_any A5 n5 c5 A6 n6 c6 _ _ _ w6 (HA5.out.up k6) hA6)
        rw [HO.out] at HC
        clear hA6
        go_wp2_with fail
        refine HC.out.mono ?_
        rintro e w7 ⟨rfl, rfl⟩
        go_wp2
        go_ret
        exact ⟨rfl, b6⟩

set_option maxRecDepth 20000 in
set_option maxHeartbeats 6400000 in
theorem prPrimary_any (A : Option Addr) (n c : Nat) (t : List RuleL) (s : List UInt8) (w : World) (hS : Spans w) (h : Tab8 w A n c t) (hs : s.length ≤ 500) :
    Calls Tryz.prog 19 #[.slice A n c, .string (str s)] w fun e w' => ∃ A' n' c', e = .returned (.slice A' n' c') ∧ Arr nv w' w'.heap.size (.slice A' n' c') (nPrim t s) ∧ Below w.heap.size w w' := by
  have HV := Lib.hid (prValid_any A n c t w hS h.arr h.few h.short)
  cases hv : validT t with
  | false =>
    rw [hv] at HV
    rw [nPrim_bad (good_no1 hv)]
    clear hS h hv
    go_enter Tryz.func19, Tryz.ntmps19
    go_wp2_with fail
    refine HV.out.mono ?_
    rintro e w1 ⟨rfl, k1⟩
    go_wp2
    go_ret
    exact ⟨_, _, _, rfl, .inl ⟨rfl, rfl⟩, k1⟩
  | true =>
    rw [hv] at HV
    have HE := Lib.hid (fun (W : World) (hW : Below w.heap.size w W) => prEncoded_any s W (hS.below hW) (by omega))
    cases he : (decR s).isSome with
    | false =>
      rw [he] at HE
      rw [nPrim_bad (good_no2 he)]
      clear hS h hv he
      go_enter Tryz.func19, Tryz.ntmps19
      go_wp2_with fail
      refine HV.out.mono ?_
      rintro e w1 ⟨rfl, k1⟩
      go_wp2_with fail
      refine (HE.out _ k1).mono ?_
      rintro e w2 ⟨rfl, k2⟩
      go_wp2
      go_ret
      exact ⟨_, _, _, rfl, .inl ⟨rfl, rfl⟩, below_next k1 k2⟩
    | true =>
      rw [he] at HE
      have HG : Hid (nPrim t s = primL (elsT t s)) := Lib.hid (if_pos (good_of hv he))
      rw [HG.out]
      have hnl := nD_len s
      have hdl : (dcF (nL s)).length ≤ 1000 := by
        have h1 := dcF_len (nL s)
        have h2 := nL_len s
        omega
      have HP := Lib.hid (fun (W : World) (hW : Below w.heap.size w W) => prPrepare_any A n c t W (hS.below hW) (h.arr.up hW) hv)
      have HD := Lib.hid (fun (W : World) (hW : Below w.heap.size w W) => prDecompose_s s W (hS.below hW) (by omega))
      have HEls := Lib.hid (fun (W : World) (hW : Below w.heap.size w W) (A' : Option Addr) (n' c' : Nat) (hL : Ltt W W.heap.size (.slice A' n' c') (t.map letL)) => prElements_any A' n' c' (t.map letL) (nD s) (dcF (nL s)) W (hS.below hW) hL (valid_let hv) (dec_enc _ (dcF_ok s)) (fun c hc => ⟨(dc_facts s c hc).1, (dc_facts s c hc).2⟩) (by omega))
      have hee : elemsL (t.map letL) (dcF (nL s)) = elsT t s := rfl
      rw [hee] at HEls
      obtain ⟨els, hels⟩ : ∃ els, elsT t s = els := ⟨_, rfl⟩
      rw [hels] at HEls ⊢
      clear hS h hv he HG hee hels hnl
      go_enter Tryz.func19, Tryz.ntmps19
      go_wp2_with fail
      refine HV.out.mono ?_
      rintro e w1 ⟨rfl, k1⟩
      go_wp2_with fail
      refine (HE.out _ k1).mono ?_
      rintro e w2 ⟨rfl, k2⟩
      have b2 := below_next k1 k2
      go_wp2_with fail
      refine (HP.out _ b2).mono ?_
      rintro e w3 ⟨A3, n3, c3, rfl, hL3, k3⟩
      have b3 := below_next b2 k3
      have HL3 := Lib.hid hL3
      clear hL3
      go_wp2_with fail
      refine (HD.out _ b3).mono ?_
      rintro e w4 ⟨rfl, k4⟩
      have b4 := below_next b3 k4
      have HE4 := Lib.hid (HEls.out _ b4 A3 n3 c3 (HL3.out.up k4))
      go_wp2_with fail
      refine HE4.out.mono ?_
      rintro e w5 ⟨A5, n5, c5, rfl, hE5, hn5, k5⟩
      have b5 := below_next b4 k5
      have HN := Lib.hid hE5.len
      have hn3 : n5 ≤ 3000 := by omega
      clear hn5
      go_wp2
      go_loopw [5, 22] (fun pv iv_ wr => ∃ (k : Nat) (o : List Nat), k ≤ n5 ∧ iv_ = .int .i64 (k : Int) ∧ Hid (primL (els.take k) = o) ∧ o.length ≤ k ∧ wr.ownsRow w5.heap.size 3 1 pv o.length (o.map nv) ∧ Below w5.heap.size w5 wr) (fun _ iv_ _ => n5 - (intOf iv_).toNat)
      case atStart => exact ⟨0, [], by omega, rfl, Lib.hid rfl, by simp, World.ownsRow_nil _ _ _ _, Below.refl _ _⟩
      case round =>
        obtain ⟨k, o, hk, rfl, HO, hol, hown, hb⟩ := hrel
        have hbs := hb.size
        by_cases hlt : k < n5
        · have t1 : decide ((k : Int) < (n5 : Int)) = true := by simp; omega
          have t1' : decide (k < n5) = true := by simpa using hlt
          have kz : (k : Int) < (n5 : Int) := by omega
          obtain ⟨a0, o0, rfl, hA0, hca⟩ := hE5.some_ ev_len (by decide) (by omega)
          obtain ⟨y, hy⟩ : ∃ y, els[k]? = some y := ⟨_, List.getElem?_eq_getElem (by have := HN.out; omega)⟩
          have c0 : wr.cell? ⟨a0, o0 + k * 3, none⟩ = some (.int .i64 (y.1 : Int)) := (hb.cell (p := ⟨a0, o0 + k * 3, none⟩) hA0).trans (hca k y hy 0 _ rfl)
          have c1 : wr.cell? ⟨a0, o0 + k * 3 + 1, none⟩ = some (.int .i64 (y.2.1 : Int)) := (hb.cell (p := ⟨a0, o0 + k * 3 + 1, none⟩) hA0).trans (hca k y hy 1 _ rfl)
          have c2 : wr.cell? ⟨a0, o0 + k * 3 + 2, none⟩ = some (.int .i64 (y.2.2 : Int)) := (hb.cell (p := ⟨a0, o0 + k * 3 + 2, none⟩) hA0).trans (hca k y hy 2 _ rfl)
          have hprim : primL (els.take (k + 1)) = primL (els.take k) ++ primL [y] := by rw [take_next hy, prim_app]
          have hownV := own_keep_below hown ((Below.refl wr.heap.size wr).alloc (Nat.le_refl _) (.cells #[.int .i64 (y.1 : Int), .int .i64 (y.2.1 : Int), .int .i64 (y.2.2 : Int)] 75))
          have hbV := hb.alloc hbs (.cells #[.int .i64 (y.1 : Int), .int .i64 (y.2.1 : Int), .int .i64 (y.2.2 : Int)] 75)
          have hbox := Box.made wr 75 #[.int .i64 (y.1 : Int), .int .i64 (y.2.1 : Int), .int .i64 (y.2.2 : Int)]
          obtain ⟨V, hV⟩ : ∃ V, wr.alloc (.cells #[.int .i64 (y.1 : Int), .int .i64 (y.2.1 : Int), .int .i64 (y.2.2 : Int)] 75) = V := ⟨_, rfl⟩
          rw [hV] at hownV hbV hbox
          have e0 : V.cell? ⟨wr.heap.size, 0, none⟩ = some (.int .i64 (y.1 : Int)) := hbox.cell 0
          have hVs := hbV.size
          obtain ⟨p, sc, te⟩ := y
          simp only at c0 c1 c2 e0 hV hprim
          by_cases hp : p = 0
          · subst hp
            have HO2 : Hid (primL (els.take (k + 1)) = o) := Lib.hid (by rw [hprim, HO.out]; simp [primL])
            have e0' : V.cell? ⟨wr.heap.size, 0, none⟩ = some (.int .i64 0) := e0
            have c0' : wr.cell? ⟨a0, o0 + k * 3, none⟩ = some (.int .i64 0) := c0
            have hV' : wr.alloc (.cells #[.int .i64 0, .int .i64 (sc : Int), .int .i64 (te : Int)] 75) = V := hV
            clear hca hy hown hbox hprim e0 c0 hV
            go_wp2
            go_roundw
            case rel => exact ⟨k + 1, o, by omega, by go_num, HO2, by omega, hownV, hbV⟩
            case measure => simp [intOf]; omega
          · have t2 : ((p : Int) != 0) = true := by simp; omega
            have HO2 : Hid (primL (els.take (k + 1)) = o ++ [p]) := Lib.hid (by rw [hprim, HO.out]; simp [primL, beq_false hp])
            have hol1 : o.length ≤ 1000000000000 - 1 := by omega
            clear hca hy hown hbox hprim hp
            go_wp2_with (at_builtin; refine append_int V rfl (.tmp 29) (.tmp 32) rfl w5.heap.size u5 o rfl hownV p _ rfl rfl (by omega) hVs ?_; intro v7 w7 hown7 hb7)
            go_wp2
            go_roundw
            case rel => exact ⟨k + 1, o ++ [p], by omega, by go_num, HO2, by rw [List.length_append]; simp; omega, hown7, hbV.trans hb7⟩
            case measure => simp [intOf]; omega
        · obtain rfl : k = n5 := by omega
          have t1 : decide ((k : Int) < (k : Int)) = false := by simp
          have t1' : decide (k < k) = false := by simp
          have HE : Hid (primL els = o) := Lib.hid (by have h5 := HO.out; rwa [List.take_of_length_le (by rw [HN.out]; exact Nat.le_refl _)] at h5)
          have hA := Arr.of_own hown
          obtain ⟨A7, c7, h7⟩ := hA.form
          subst h7
          have HA := Lib.hid hA
          clear hA
          go_wp2
          go_ret
          rw [HE.out]
          exact ⟨_, _, _, rfl, HA.out, below_next b5 hb⟩

end Go.Proofs.YtafnjbmeponobaaGreatDoor

namespace Go.Proofs.YtafnjbmeponobaaGreatDoor
open Go.RowKit

def sweT : List RuleL := [([97, 204, 138], [122]), ([97, 204, 136], [122]), ([111, 204, 136], [122])]
def czeT : List RuleL := [([99, 204, 140], [99]), ([99, 104], [104]), ([114, 204, 140], [114]), ([115, 204, 140], [115]), ([122, 204, 140], [122])]
theorem box_rules {w w0 : World} {t : TypeId} {cs : Array Value} (T : List RuleL) (n : Nat) (hn : T.length = n) (hcs : cs = (T.flatMap rv).toArray) (hb : Box w0 w.heap.size t cs) (hz : w.heap.size + 1 ≤ w0.heap.size) :
    SArr 2 rv w0 w0.heap.size (.slice (some ⟨w.heap.size, 0, none⟩) n n) T := by
  have h := SArr.of_box (val := rv) (sz := 2) (xs := T) (n := n) (c := n) hb hn (Nat.le_refl _) (fun i u hu j x hx => by
    have h1 := flat_at rv_len T i u j x hu hx
    rw [hcs]
    simpa using h1)
  exact h.more hz

set_option maxRecDepth 20000 in
set_option maxHeartbeats 3200000 in
theorem prSwedish_any (w : World) : Calls Tryz.prog 34 #[] w fun e w' => ∃ A, e = .returned (.slice A 3 3) ∧ Tab8 w' A 3 3 sweT ∧ Below w.heap.size w w' := by
  go_enter Tryz.func34, Tryz.ntmps34
  go_wp2
  go_ret
  exact ⟨_, rfl, ⟨box_rules sweT 3 rfl (by kernel_rfl) (Box.made w _ _) (by simp), by omega, by decide⟩, (Below.refl _ _).alloc (Nat.le_refl _) _⟩

set_option maxRecDepth 20000 in
set_option maxHeartbeats 3200000 in
theorem prCzech_any (w : World) : Calls Tryz.prog 35 #[] w fun e w' => ∃ A, e = .returned (.slice A 5 5) ∧ Tab8 w' A 5 5 czeT ∧ Below w.heap.size w w' := by
  go_enter Tryz.func35, Tryz.ntmps35
  go_wp2
  go_ret
  exact ⟨_, rfl, ⟨box_rules czeT 5 rfl (by kernel_rfl) (Box.made w _ _) (by simp), by omega, by decide⟩, (Below.refl _ _).alloc (Nat.le_refl _) _⟩

theorem aw1 : nCmp [] [99, 111, 116, 101] [99, 111, 116, 195, 169] = -1 := by kernel_rfl
theorem aw2 : nCmp [] [99, 111, 116, 195, 169] [67, 111, 116, 195, 169] = -1 := by kernel_rfl
theorem aw3 : nCmp [] [67, 111, 116, 195, 169] [99, 111, 116, 101, 115] = -1 := by kernel_rfl
theorem aw4 : nCmp sweT [122, 111, 110] [195, 165, 107, 97] = -1 := by kernel_rfl
theorem aw5 : nCmp czeT [99, 104, 97, 116, 97] [105, 109, 97, 103, 111] = -1 := by kernel_rfl
theorem aw6 : nCmp czeT [104, 111, 114, 97] [99, 104, 97, 116, 97] = -1 := by kernel_rfl
theorem aw7 : validT czeT = true := by kernel_rfl
theorem aw8 : (nKey [] [97]).length = 11 := by kernel_rfl
theorem cmp_at {A : Option Addr} {n c : Nat} {t : List RuleL} {a b : List UInt8} {r : Int} (hr : nCmp t a b = r) (sa sb : ByteArray) (ea : str a = sa) (eb : str b = sb) (ha : a.length ≤ 500) (hb : b.length ≤ 500) (W : World) (hS : Spans W) (h : Tab8 W A n c t) :
    Calls Tryz.prog 21 #[.slice A n c, .string sa, .string sb] W fun e w' => e = .returned (.int .i64 r) ∧ Below W.heap.size W w' := by
  subst ea eb hr
  exact prCompare_any A n c t a b W hS h ha hb

set_option maxRecDepth 20000 in
set_option maxHeartbeats 6400000 in
theorem awake8_any (w : World) (hS : Spans w) : Calls Tryz.prog 10 #[] w fun e w' => e = .returned (.bool true) ∧ Below w.heap.size w w' := by
  have HS := Lib.hid hS
  have H1 := Lib.hid (cmp_at aw1 ⟨#[99, 111, 116, 101]⟩ ⟨#[99, 111, 116, 195, 169]⟩ rfl rfl (by decide) (by decide) w hS (Tab8.nil_ w))
  go_enter Tryz.func10, Tryz.ntmps10
  go_wp2_with fail
  refine H1.out.mono ?_
  rintro e w1 ⟨rfl, k1⟩
  have H2 := Lib.hid (cmp_at aw2 ⟨#[99, 111, 116, 195, 169]⟩ ⟨#[67, 111, 116, 195, 169]⟩ rfl rfl (by decide) (by decide) w1 (HS.out.below k1) (Tab8.nil_ w1))
  go_wp2_with fail
  refine H2.out.mono ?_
  rintro e w2 ⟨rfl, k2⟩
  have b2 := below_next k1 k2
  have H3 := Lib.hid (cmp_at aw3 ⟨#[67, 111, 116, 195, 169]⟩ ⟨#[99, 111, 116, 101, 115]⟩ rfl rfl (by decide) (by decide) w2 (HS.out.below b2) (Tab8.nil_ w2))
  go_wp2_with fail
  refine H3.out.mono ?_
  rintro e w3 ⟨rfl, k3⟩
  have b3 := below_next b2 k3
  have H4 := Lib.hid (prSwedish_any w3)
  go_wp2_with fail
  refine H4.out.mono ?_
  rintro e w4 ⟨A4, rfl, hT4, k4⟩
  have b4 := below_next b3 k4
  have H5 := Lib.hid (cmp_at aw4 ⟨#[122, 111, 110]⟩ ⟨#[195, 165, 107, 97]⟩ rfl rfl (by decide) (by decide) w4 (HS.out.below b4) hT4)
  clear hT4
  go_wp2_with fail
  refine H5.out.mono ?_
  rintro e w5 ⟨rfl, k5⟩
  have b5 := below_next b4 k5
  have H6 := Lib.hid (prCzech_any w5)
  go_wp2_with fail
  refine H6.out.mono ?_
  rintro e w6 ⟨A6, rfl, hT6, k6⟩
  have b6 := below_next b5 k6
  have H7 := Lib.hid (cmp_at aw5 ⟨#[99, 104, 97, 116, 97]⟩ ⟨#[105, 109, 97, 103, 111]⟩ rfl rfl (by decide) (by decide) w6 (HS.out.below b6) hT6)
  clear hT6
  go_wp2_with fail
  refine H7.out.mono ?_
  rintro e w7 ⟨rfl, k7⟩
  have b7 := below_next b6 k7
  have H8 := Lib.hid (prCzech_any w7)
  go_wp2_with fail
  refine H8.out.mono ?_
  rintro e w8 ⟨A8, rfl, hT8, k8⟩
  have b8 := below_next b7 k8
  have H9 := Lib.hid (cmp_at aw6 ⟨#[104, 111, 114, 97]⟩ ⟨#[99, 104, 97, 116, 97]⟩ rfl rfl (by decide) (by decide) w8 (HS.out.below b8) hT8)
  clear hT8
  go_wp2_with fail
  refine H9.out.mono ?_
  rintro e w9 ⟨rfl, k9⟩
  have b9 := below_next b8 k9
  have H10 := Lib.hid (prCzech_any w9)
  go_wp2_with fail
  refine H10.out.mono ?_
  rintro e w10 ⟨A10, rfl, hT10, k10⟩
  have b10 := below_next b9 k10
  have H11 := Lib.hid (prValid_any A10 5 5 czeT w10 (HS.out.below b10) hT10.arr hT10.few hT10.short)
  rw [aw7] at H11
  clear hT10
  go_wp2_with fail
  refine H11.out.mono ?_
  rintro e w11 ⟨rfl, k11⟩
  have b11 := below_next b10 k11
  have h12 := prKeyX_any none 0 0 [] [97] w11 (HS.out.below b11) (Tab8.nil_ w11) (by decide)
  have e97 : str [97] = ⟨#[97]⟩ := rfl
  rw [e97] at h12
  have H12 := Lib.hid h12
  clear h12 e97
  go_wp2_with fail
  refine H12.out.mono ?_
  rintro e w12 ⟨A12, n12, c12, rfl, hA12, k12⟩
  obtain rfl : n12 = 11 := by have h1 := hA12.len; rw [aw8] at h1; exact h1.symm
  have b12 := below_next b11 k12
  clear hA12
  go_wp2
  go_ret
  exact ⟨rfl, b12⟩

/-! few. -/
def shortR (x : RuleL) : Bool := decide (x.1.length ≤ 20) && decide (x.2.length ≤ 20)
def fewT (t : List RuleL) (l : List (List UInt8)) : Bool := t.all shortR && l.all (fun s => decide (s.length ≤ 40)) && decide (t.length ≤ 45)
structure Given8 (w : World) (A : Option Addr) (n c : Nat) (t : List RuleL) : Prop where
  arr : SArr 2 rv w w.heap.size (.slice A n c) t
  few : n ≤ 9223372036854775807
  short : ∀ x ∈ t, x.1.length ≤ 9223372036854775807 ∧ x.2.length ≤ 9223372036854775807
theorem Given8.up {W w : World} {A : Option Addr} {n c : Nat} {t : List RuleL} (h : Given8 W A n c t) (hb : Below W.heap.size W w) : Given8 w A n c t := ⟨h.arr.up hb, h.few, h.short⟩
theorem few_parts {t : List RuleL} {l : List (List UInt8)} (h : fewT t l = true) : t.length ≤ 45 ∧ (∀ x ∈ t, x.1.length ≤ 20 ∧ x.2.length ≤ 20) ∧ ∀ s ∈ l, s.length ≤ 40 := by
  unfold fewT shortR at h
  simp only [Bool.and_eq_true, decide_eq_true_eq, List.all_eq_true] at h
  exact ⟨h.2, h.1.1, h.1.2⟩
theorem Given8.tab {w : World} {A : Option Addr} {n c : Nat} {t : List RuleL} {l : List (List UInt8)} (h : Given8 w A n c t) (hf : fewT t l = true) : Tab8 w A n c t := by
  obtain ⟨h1, h2, _⟩ := few_parts hf
  have := h.arr.len
  exact ⟨h.arr, by omega, fun x hx => by have := h2 x hx; omega⟩
theorem few_no1 {t : List RuleL} {l : List (List UInt8)} {k : Nat} {x : RuleL} (hx : t[k]? = some x) (h : shortR x = false) : fewT t l = false := by
  unfold fewT
  cases ha : t.all shortR with
  | false => rfl
  | true => rw [List.all_eq_true] at ha; rw [ha x (List.mem_of_getElem? hx)] at h; cases h
theorem few_no2 {t : List RuleL} {l : List (List UInt8)} {k : Nat} {s : List UInt8} (hx : l[k]? = some s) (h : ¬ s.length ≤ 40) : fewT t l = false := by
  unfold fewT
  cases ha : l.all (fun s => decide (s.length ≤ 40)) with
  | false => rw [Bool.and_false]; rfl
  | true => rw [List.all_eq_true] at ha; exact absurd (of_decide_eq_true (ha s (List.mem_of_getElem? hx))) h

set_option maxRecDepth 20000 in
set_option maxHeartbeats 3200000 in
theorem few8_any (A : Option Addr) (n c : Nat) (t : List RuleL) (A' : Option Addr) (m c' : Nat) (l : List (List UInt8)) (w : World) (h : Given8 w A n c t) (hl : Arr sv w w.heap.size (.slice A' m c') l) (hm : m ≤ 9223372036854775807) (hls : ∀ s ∈ l, s.length ≤ 9223372036854775807) :
    Calls Tryz.prog 11 #[.slice A n c, .slice A' m c'] w fun e w' => e = .returned (.bool (fewT t l)) ∧ Below w.heap.size w w' := by
  have HL := Lib.hid h.arr.len
  have HM := Lib.hid hl.len
  have hn := h.few
  have HSh := Lib.hid h.short
  have HLs := Lib.hid hls
  have h := h.arr
  obtain ⟨R, hR⟩ : ∃ R, fewT t l = R := ⟨_, rfl⟩
  rw [hR]
  have HR := Lib.hid hR
  clear hR hls
  go_enter Tryz.func11, Tryz.ntmps11
  go_wp2
  go_loopw [11] (fun i wr => ∃ k : Nat, k ≤ n ∧ i = .int .i64 (k : Int) ∧ Hid ((t.take k).all shortR = true) ∧ Below w.heap.size w wr) (fun i _ => n - (intOf i).toNat)
  case atStart => exact ⟨0, by omega, rfl, Lib.hid rfl, Below.refl _ _⟩
  case round =>
    obtain ⟨k, hk, rfl, HK, hb⟩ := hrel
    by_cases hlt : k < n
    · have i1 : decide ((k : Int) < (n : Int)) = true := by simp; omega
      have kz : (k : Int) < (n : Int) := by omega
      obtain ⟨b0, o0, rfl, hB0, hc0⟩ := lets_cells h (by omega)
      obtain ⟨x, hx⟩ : ∃ a, t[k]? = some a := ⟨_, List.getElem?_eq_getElem (by have := HL.out; omega)⟩
      have hxs := HSh.out x (List.mem_of_getElem? hx)
      have d0 := (hb.cell (p := ⟨b0, o0 + k * 2, none⟩) hB0).trans (hc0 k x hx).1
      have d1 := (hb.cell (p := ⟨b0, o0 + k * 2 + 1, none⟩) hB0).trans (hc0 k x hx).2
      have hbV := below_new hb (.cells #[.string (str x.1), .string (str x.2)] 53)
      have s1 : (str x.1).size = x.1.length := rfl
      have s2 : (str x.2).size = x.2.length := rfl
      by_cases g1 : x.1.length ≤ 20
      · have t2 : decide (20 < (x.1.length : Int)) = false := by simp; omega
        by_cases g2 : x.2.length ≤ 20
        · have t3 : decide (20 < (x.2.length : Int)) = false := by simp; omega
          have HK2 : Hid ((t.take (k + 1)).all shortR = true) := Lib.hid (by
            rw [take_next hx, List.all_append, HK.out]
            simp [shortR, g1, g2])
          clear hc0 hx
          go_wp2
          go_roundw
          case rel => exact ⟨k + 1, by omega, by go_num, HK2, hbV⟩
          case measure => simp [intOf]; omega
        · have t3 : decide (20 < (x.2.length : Int)) = true := by simp; omega
          have HE : Hid (R = false) := Lib.hid (by rw [← HR.out]; exact few_no1 hx (by unfold shortR; rw [decide_eq_false g2, Bool.and_false]))
          clear hc0 hx
          go_wp2
          go_ret
          rw [HE.out]
          exact ⟨rfl, hbV⟩
      · have t2 : decide (20 < (x.1.length : Int)) = true := by simp; omega
        have HE : Hid (R = false) := Lib.hid (by rw [← HR.out]; exact few_no1 hx (by unfold shortR; rw [decide_eq_false g1, Bool.false_and]))
        clear hc0 hx
        go_wp2
        go_ret
        rw [HE.out]
        exact ⟨rfl, hbV⟩
    · obtain rfl : k = n := by omega
      have i1 : decide ((k : Int) < (k : Int)) = false := by simp
      have HAll : Hid (t.all shortR = true) := Lib.hid (by have hp := HK.out; rwa [List.take_of_length_le (by rw [HL.out]; exact Nat.le_refl _)] at hp)
      obtain ⟨w3, hw3⟩ : ∃ x : World, x = wr := ⟨_, rfl⟩
      subst hw3
      go_wp2
      go_loopw [28] (fun i wi => ∃ q : Nat, q ≤ m ∧ i = .int .i64 (q : Int) ∧ Hid ((l.take q).all (fun s => decide (s.length ≤ 40)) = true) ∧ Below w.heap.size w wi) (fun i _ => m - (intOf i).toNat)
      case atStart => exact ⟨0, by omega, rfl, Lib.hid rfl, hb⟩
      case round =>
        obtain ⟨q, hq, rfl, HQ, hbi⟩ := hrel
        by_cases hlt : q < m
        · have i2 : decide ((q : Int) < (m : Int)) = true := by simp; omega
          have qz : (q : Int) < (m : Int) := by omega
          obtain ⟨b1, o1, rfl, hB1, hc1⟩ := hl.some_ (by omega)
          obtain ⟨s, hs⟩ : ∃ a, l[q]? = some a := ⟨_, List.getElem?_eq_getElem (by have := HM.out; omega)⟩
          have hss := HLs.out s (List.mem_of_getElem? hs)
          have d0 : wr.cell? ⟨b1, o1 + q, none⟩ = some (.string (str s)) := (hbi.cell (p := ⟨b1, o1 + q, none⟩) hB1).trans (hc1 q s hs)
          have s1 : (str s).size = s.length := rfl
          by_cases g1 : s.length ≤ 40
          · have t2 : decide (40 < (s.length : Int)) = false := by simp; omega
            have HQ2 : Hid ((l.take (q + 1)).all (fun s => decide (s.length ≤ 40)) = true) := Lib.hid (by
              rw [take_next hs, List.all_append, HQ.out]
              simp [g1])
            clear hc1 hs
            go_wp2
            go_roundw
            case rel => exact ⟨q + 1, by omega, by go_num, HQ2, hbi⟩
            case measure => simp [intOf]; omega
          · have t2 : decide (40 < (s.length : Int)) = true := by simp; omega
            have HE : Hid (R = false) := Lib.hid (by rw [← HR.out]; exact few_no2 hs g1)
            clear hc1 hs
            go_wp2
            go_ret
            rw [HE.out]
            exact ⟨rfl, hbi⟩
        · obtain rfl : q = m := by omega
          have i2 : decide ((q : Int) < (q : Int)) = false := by simp
          have HE : Hid (R = decide ((k : Int) ≤ 45)) := Lib.hid (by
            have hp := HQ.out
            rw [List.take_of_length_le (by rw [HM.out]; exact Nat.le_refl _)] at hp
            rw [← HR.out]
            unfold fewT
            rw [hp, HAll.out, HL.out, Bool.true_and, Bool.true_and, Bool.eq_iff_iff]
            simp
            omega)
          go_wp2
          go_ret
          rw [HE.out]
          exact ⟨rfl, hbi⟩

theorem info_let8 : (Tryz.prog.info? 60).map (fun i => (i.zero, i.size, i.bytes)) = some (some (.agg #[.string ⟨#[]⟩, .string ⟨#[]⟩]), 2, 32) := by kernel_rfl

set_option maxRecDepth 20000 in
set_option maxHeartbeats 3200000 in
theorem own8_any (A : Option Addr) (n c : Nat) (t : List RuleL) (w : World) (h : Tab8 w A n c t) :
    Calls Tryz.prog 13 #[.slice A n c] w fun e w' => ∃ A' c', e = .returned (.slice A' n c') ∧ Tab8 w' A' n c' t ∧ Below w.heap.size w w' := by
  have HL := Lib.hid h.arr.len
  have hn := h.few
  have HSh := Lib.hid h.short
  have h := h.arr
  go_enter Tryz.func13, Tryz.ntmps13
  go_wp2
  go_loopw [3, 8] (fun v i wr => ∃ k : Nat, k ≤ n ∧ i = .int .i64 (k : Int) ∧ wr.ownsRow w.heap.size 60 2 v (t.take k).length ((t.take k).flatMap rv) ∧ Below w.heap.size w wr) (fun _ i _ => n - (intOf i).toNat)
  case atStart => exact ⟨0, by omega, rfl, World.ownsRow_nil _ _ _ _, Below.refl _ _⟩
  case round =>
    obtain ⟨k, hk, rfl, hown, hb⟩ := hrel
    have hbs := hb.size
    by_cases hlt : k < n
    · have i1 : decide ((k : Int) < (n : Int)) = true := by simp; omega
      have kz : (k : Int) < (n : Int) := by omega
      obtain ⟨b0, o0, rfl, hB0, hc0⟩ := lets_cells h (by omega)
      obtain ⟨x, hx⟩ : ∃ a, t[k]? = some a := ⟨_, List.getElem?_eq_getElem (by have := HL.out; omega)⟩
      have d0 := (hb.cell (p := ⟨b0, o0 + k * 2, none⟩) hB0).trans (hc0 k x hx).1
      have d1 := (hb.cell (p := ⟨b0, o0 + k * 2 + 1, none⟩) hB0).trans (hc0 k x hx).2
      have HX : Hid (t.take (k + 1) = t.take k ++ [x]) := Lib.hid (take_next hx)
      have hrl : (t.take k).length ≤ 1000 := by rw [List.length_take]; omega
      obtain ⟨O, hO⟩ : ∃ O, t.take k = O := ⟨_, rfl⟩
      rw [hO] at hown HX hrl
      clear hc0 hx hO
      obtain ⟨A4, c4, h4⟩ := (SArr.of_own rv_len hown).form
      obtain ⟨M, hM⟩ : ∃ M, O.length = M := ⟨_, rfl⟩
      have HM := Lib.hid hM
      rw [hM] at h4 hrl
      subst h4
      clear hM
      have hol : O.length ≤ 1000000000000 - 1 := by rw [HM.out]; omega
      have hb0 := (Below.refl wr.heap.size wr).alloc (Nat.le_refl _) (.cells #[.string (str x.1), .string (str x.2)] 53)
      have hown' := own_keep_below hown hb0
      have hbase : w.heap.size ≤ (wr.alloc (.cells #[.string (str x.1), .string (str x.2)] 53)).heap.size := by simp; omega
      have hbel := hb.alloc hbs (.cells #[.string (str x.1), .string (str x.2)] 53)
      have hN1 : (wr.alloc (.cells #[.string (str x.1), .string (str x.2)] 53)).heap.size = wr.heap.size + 1 := by simp
      clear hb0
      go_wp2_with (at_builtin; refine append_struct (val := rv) 26 60 (.agg #[.string ⟨#[]⟩, .string ⟨#[]⟩]) 32 Tryz.underlying26 info_let8 rfl (by decide) (by decide) rv_len rv_one (wr.alloc (.cells #[.string (str x.1), .string (str x.2)] 53)) rfl (.tmp 12) (.tmp 14) rfl w.heap.size (.slice A4 M c4) O rfl hown' x _ rfl (wr.heap.size + 1) hN1 rfl hol hbase ?_; intro r3 w6 hown6 hb6)
      go_roundw
      case rel => exact ⟨k + 1, by omega, by go_num, (by rw [HX.out]; exact hown6), hbel.trans hb6⟩
      case measure => simp [intOf]; omega
    · obtain rfl : k = n := by omega
      rw [List.take_of_length_le (by rw [HL.out]; omega)] at hown
      have hA := SArr.of_own rv_len hown
      obtain ⟨A2, c2, h2⟩ := hA.form
      rw [HL.out] at h2
      subst h2
      have HT2 := Lib.hid (⟨hA, hn, HSh.out⟩ : Tab8 _ A2 k c2 t)
      clear hA hown
      go_wp2
      go_ret
      exact ⟨_, _, rfl, HT2.out, hb⟩

end Go.Proofs.YtafnjbmeponobaaGreatDoor
