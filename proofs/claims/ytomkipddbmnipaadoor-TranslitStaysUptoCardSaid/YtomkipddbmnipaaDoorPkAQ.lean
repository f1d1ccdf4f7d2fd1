/-
  The calls of translit and of its reference from one world on; few, own, awake of the statements.
  awake, and the bodies of TranslitTo, TranslitRound.
  The bodies of TranslitTables, TranslitCyrillic.
-/
import Derived.Test.YtomkipddbmnipaaDoorPkAP
namespace Go.Proofs.YtomkipddbmnipaaDoor
open Go.RowKit

section
variable (W : World) (A : Option Addr) (n c : Nat) (t : List RuleL) (s : List UInt8) (w : World)
theorem prValid7_at (hS : Ready7 W) (h : Table W A n c t) (hk : Below W.heap.size W w) (v : Bool) (hr : validL t = v) :
    Calls Tryd.prog 13 #[.slice A n c] w fun e w' => e = .returned (.bool v) ∧ Below W.heap.size W w' := by
  subst hr; exact (prValid7_any A n c t w (hS.below hk) (h.up hk)).mono fun _ _ ⟨h1, h2⟩ => ⟨h1, below_next hk h2⟩
theorem prRev7_at (hS : Ready7 W) (h : Table W A n c t) (hk : Below W.heap.size W w) (v : Bool) (hr : revB t = v) :
    Calls Tryd.prog 15 #[.slice A n c] w fun e w' => e = .returned (.bool v) ∧ Below W.heap.size W w' := by
  subst hr; exact (prRev7_any A n c t w (hS.below hk) (h.up hk)).mono fun _ _ ⟨h1, h2⟩ => ⟨h1, below_next hk h2⟩
theorem prTo7_at (hS : Ready7 W) (h : Table W A n c t) (hk : Below W.heap.size W w) (hlen : s.length ≤ 5000) (v : List UInt8) (hr : toL t s = v) :
    Calls Tryd.prog 17 #[.slice A n c, .string (str s)] w fun e w' => e = .returned (.string (str v)) ∧ Below W.heap.size W w' := by
  subst hr; exact (prTo7_any A n c t s w (hS.below hk) (h.up hk) hlen).mono fun _ _ ⟨h1, h2⟩ => ⟨h1, below_next hk h2⟩
theorem prBack7_at (hS : Ready7 W) (h : Table W A n c t) (hk : Below W.heap.size W w) (hlen : s.length ≤ 5000) (v : List UInt8) (hr : backL t s = v) :
    Calls Tryd.prog 19 #[.slice A n c, .string (str s)] w fun e w' => e = .returned (.string (str v)) ∧ Below W.heap.size W w' := by
  subst hr; exact (prBack7_any A n c t s w (hS.below hk) (h.up hk) hlen).mono fun _ _ ⟨h1, h2⟩ => ⟨h1, below_next hk h2⟩
theorem prCovers7_at (hS : Ready7 W) (h : Table W A n c t) (hk : Below W.heap.size W w) (hlen : s.length ≤ 5000) (v : Bool) (hr : coversL t s = v) :
    Calls Tryd.prog 21 #[.slice A n c, .string (str s)] w fun e w' => e = .returned (.bool v) ∧ Below W.heap.size W w' := by
  subst hr; exact (prCovers7_any A n c t s w (hS.below hk) (h.up hk) hlen).mono fun _ _ ⟨h1, h2⟩ => ⟨h1, below_next hk h2⟩
theorem refValid7_at (h : Table W A n c t) (hk : Below W.heap.size W w) (v : Bool) (hr : validL t = v) :
    Calls Tryd.prog 14 #[.slice A n c] w fun e w' => e = .returned (.bool v) ∧ Below W.heap.size W w' := by
  subst hr; exact (refValid7_any A n c t w (h.up hk)).mono fun _ _ ⟨h1, h2⟩ => ⟨h1, below_next hk h2⟩
theorem refRev7_at (h : Table W A n c t) (hk : Below W.heap.size W w) (v : Bool) (hr : revB t = v) :
    Calls Tryd.prog 16 #[.slice A n c] w fun e w' => e = .returned (.bool v) ∧ Below W.heap.size W w' := by
  subst hr; exact (refReversible_any A n c t w (h.up hk)).mono fun _ _ ⟨h1, h2⟩ => ⟨h1, below_next hk h2⟩
theorem refTo7_at (h : Table W A n c t) (hk : Below W.heap.size W w) (hlen : s.length ≤ 5000) (v : List UInt8) (hr : toL t s = v) :
    Calls Tryd.prog 18 #[.slice A n c, .string (str s)] w fun e w' => e = .returned (.string (str v)) ∧ Below W.heap.size W w' := by
  subst hr; exact (refTo7_any A n c t s w (h.up hk) hlen).mono fun _ _ ⟨h1, h2⟩ => ⟨h1, below_next hk h2⟩
theorem refBack7_at (h : Table W A n c t) (hk : Below W.heap.size W w) (hlen : s.length ≤ 5000) (v : List UInt8) (hr : backL t s = v) :
    Calls Tryd.prog 20 #[.slice A n c, .string (str s)] w fun e w' => e = .returned (.string (str v)) ∧ Below W.heap.size W w' := by
  subst hr; exact (refBack7_any A n c t s w (h.up hk) hlen).mono fun _ _ ⟨h1, h2⟩ => ⟨h1, below_next hk h2⟩
theorem refCovers7_at (h : Table W A n c t) (hk : Below W.heap.size W w) (hlen : s.length ≤ 5000) (v : Bool) (hr : coversL t s = v) :
    Calls Tryd.prog 22 #[.slice A n c, .string (str s)] w fun e w' => e = .returned (.bool v) ∧ Below W.heap.size W w' := by
  subst hr; exact (refCovers7_any A n c t s w (h.up hk) hlen).mono fun _ _ ⟨h1, h2⟩ => ⟨h1, below_next hk h2⟩
end

/-! few, own. -/
def shortB (x : RuleL) : Bool := decide (x.1.length ≤ 30) && decide (x.2.length ≤ 30)
def fewL (t : List RuleL) : Bool := t.all shortB && decide (t.length ≤ 90)
theorem few_of {t : List RuleL} (h : fewL t = true) : t.length ≤ 90 ∧ ∀ x ∈ t, x.1.length ≤ 30 ∧ x.2.length ≤ 30 := by
  unfold fewL shortB at h
  rw [Bool.and_eq_true, List.all_eq_true] at h
  refine ⟨of_decide_eq_true h.2, fun x hx => ?_⟩
  have := h.1 x hx
  rw [Bool.and_eq_true] at this
  exact ⟨of_decide_eq_true this.1, of_decide_eq_true this.2⟩
theorem few_no {t : List RuleL} {k : Nat} {x : RuleL} (hx : t[k]? = some x) (h : shortB x = false) : fewL t = false := by
  cases hf : fewL t with
  | false => rfl
  | true =>
    obtain ⟨h1, h2⟩ := few_of hf
    have := h2 x (List.mem_of_getElem? hx)
    unfold shortB at h
    rw [decide_eq_true this.1, decide_eq_true this.2] at h
    cases h
/-- A slice of rules that came in. -/
structure Given (w : World) (A : Option Addr) (n c : Nat) (t : List RuleL) : Prop where
  arr : SArr 2 rv w w.heap.size (.slice A n c) t
  few : n ≤ 9223372036854775807
  short : ∀ x ∈ t, x.1.length ≤ 9223372036854775807 ∧ x.2.length ≤ 9223372036854775807
theorem Given.up {W w : World} {A : Option Addr} {n c : Nat} {t : List RuleL} (h : Given W A n c t) (hb : Below W.heap.size W w) : Given w A n c t := ⟨h.arr.up hb, h.few, h.short⟩
theorem Given.cells {w : World} {A : Option Addr} {n c : Nat} {t : List RuleL} (h : Given w A n c t) (h0 : 0 < n) :
    ∃ b off, A = some ⟨b, off, none⟩ ∧ b < w.heap.size ∧ ∀ (i : Nat) (x : RuleL), t[i]? = some x → w.cell? ⟨b, off + i * 2, none⟩ = some (.string (str x.1)) ∧ w.cell? ⟨b, off + i * 2 + 1, none⟩ = some (.string (str x.2)) := by
  obtain ⟨b, off, e, hb, hc⟩ := h.arr.some_ rv_len (by decide) h0
  exact ⟨b, off, e, hb, fun i x hx => ⟨hc i x hx 0 _ rfl, hc i x hx 1 _ rfl⟩⟩
theorem Given.table {w : World} {A : Option Addr} {n c : Nat} {t : List RuleL} (h : Given w A n c t) (hf : fewL t = true) : Table w A n c t := by
  obtain ⟨h1, h2⟩ := few_of hf
  have := h.arr.len
  exact ⟨h.arr, by omega, fun x hx => by have := h2 x hx; omega⟩

set_option maxRecDepth 20000 in
set_option maxHeartbeats 1600000 in
theorem few7_any (A : Option Addr) (n c : Nat) (t : List RuleL) (w : World) (h : Given w A n c t) :
    Calls Tryd.prog 11 #[.slice A n c] w fun e w' => e = .returned (.bool (fewL t)) ∧ w = w' := by
  have HL := Lib.hid h.arr.len
  have hn := h.few
  have HSh := Lib.hid h.short
  obtain ⟨R, hR⟩ : ∃ R, fewL t = R := ⟨_, rfl⟩
  rw [hR]
  have HR := Lib.hid hR
  clear hR
  go_enter Tryd.func11, Tryd.ntmps11
  go_wp2
  go_loop [6] (fun i => ∃ k : Nat, k ≤ n ∧ i = .int .i64 (k : Int) ∧ Hid ((t.take k).all shortB = true)) (fun i => n - (intOf i).toNat)
  case atStart => exact ⟨0, by omega, rfl, Lib.hid rfl⟩
  case round =>
    obtain ⟨k, hk, rfl, HK⟩ := hrel
    by_cases hlt : k < n
    · have i1 : decide ((k : Int) < (n : Int)) = true := by simp; omega
      have kz : (k : Int) < (n : Int) := by omega
      obtain ⟨b0, o0, rfl, hB0, hc0⟩ := h.cells (by omega)
      obtain ⟨x, hx⟩ : ∃ a, t[k]? = some a := ⟨_, List.getElem?_eq_getElem (by have := HL.out; omega)⟩
      have hxs := HSh.out x (List.mem_of_getElem? hx)
      have d0 := (hc0 k x hx).1
      have d1 := (hc0 k x hx).2
      have s1 : (str x.1).size = x.1.length := rfl
      have s2 : (str x.2).size = x.2.length := rfl
      by_cases g1 : x.1.length ≤ 30
      · have t2 : decide (30 < (x.1.length : Int)) = false := by simp; omega
        by_cases g2 : x.2.length ≤ 30
        · have t3 : decide (30 < (x.2.length : Int)) = false := by simp; omega
          have HK2 : Hid ((t.take (k + 1)).all shortB = true) := Lib.hid (by
            rw [take_next hx, List.all_append, HK.out]
            simp [shortB, g1, g2])
          clear hc0 hx
          go_wp2
          go_round
          case rel => exact ⟨k + 1, by omega, by go_num, HK2⟩
          case measure => simp [intOf]; omega
        · have t3 : decide (30 < (x.2.length : Int)) = true := by simp; omega
          have HE : Hid (R = false) := Lib.hid (by rw [← HR.out]; exact few_no hx (by unfold shortB; rw [decide_eq_false g2, Bool.and_false]))
          clear hc0 hx
          go_wp2
          go_ret
          rw [HE.out]
          exact ⟨rfl, rfl⟩
      · have t2 : decide (30 < (x.1.length : Int)) = true := by simp; omega
        have HE : Hid (R = false) := Lib.hid (by rw [← HR.out]; exact few_no hx (by unfold shortB; rw [decide_eq_false g1, Bool.false_and]))
        clear hc0 hx
        go_wp2
        go_ret
        rw [HE.out]
        exact ⟨rfl, rfl⟩
    · obtain rfl : k = n := by omega
      have HE : Hid (R = decide ((k : Int) ≤ 90)) := Lib.hid (by
        have hp := HK.out
        rw [List.take_of_length_le (by rw [HL.out]; omega)] at hp
        rw [← HR.out]
        unfold fewL
        rw [hp, HL.out, Bool.true_and, Bool.eq_iff_iff]
        simp
        omega)
      go_wp2
      go_ret
      rw [HE.out]
      exact ⟨rfl, rfl⟩

theorem info_rule7' : (Tryd.prog.info? 41).map (fun i => (i.zero, i.size, i.bytes)) = some (some (.agg #[.string ⟨#[]⟩, .string ⟨#[]⟩]), 2, 32) := by kernel_rfl

set_option maxRecDepth 20000 in
set_option maxHeartbeats 3200000 in
theorem own7_any (A : Option Addr) (n c : Nat) (t : List RuleL) (w : World) (h : Table w A n c t) :
    Calls Tryd.prog 12 #[.slice A n c] w fun e w' => ∃ A' c', e = .returned (.slice A' n c') ∧ Table w' A' n c' t ∧ Below w.heap.size w w' := by
  have HL := Lib.hid h.arr.len
  have hn := h.few
  have HSh := Lib.hid h.short
  go_enter Tryd.func12, Tryd.ntmps12
  go_wp2
  go_loopw [3, 8] (fun v i wr => ∃ k : Nat, k ≤ n ∧ i = .int .i64 (k : Int) ∧ wr.ownsRow w.heap.size 41 2 v (t.take k).length ((t.take k).flatMap rv) ∧ Below w.heap.size w wr) (fun _ i _ => n - (intOf i).toNat)
  case atStart => exact ⟨0, by omega, rfl, World.ownsRow_nil _ _ _ _, Below.refl _ _⟩
  case round =>
    obtain ⟨k, hk, rfl, hown, hb⟩ := hrel
    have hbs := hb.size
    by_cases hlt : k < n
    · have i1 : decide ((k : Int) < (n : Int)) = true := by simp; omega
      have kz : (k : Int) < (n : Int) := by omega
      obtain ⟨b0, o0, rfl, hB0, hc0⟩ := h.cells (by omega)
      obtain ⟨x, hx⟩ : ∃ a, t[k]? = some a := ⟨_, List.getElem?_eq_getElem (by have := HL.out; omega)⟩
      have d0 := (hb.cell (p := ⟨b0, o0 + k * 2, none⟩) hB0).trans (hc0 k x hx).1
      have d1 := (hb.cell (p := ⟨b0, o0 + k * 2 + 1, none⟩) hB0).trans (hc0 k x hx).2
      have HX : Hid (t.take (k + 1) = t.take k ++ [x]) := Lib.hid (take_next hx)
      have hrl : (t.take k).length ≤ 1000 := by rw [List.length_take]; omega
      obtain ⟨O, hO⟩ : ∃ O, t.take k = O := ⟨_, rfl⟩
      rw [hO] at hown HX hrl
      clear hc0 hx hO
      obtain ⟨A4, c4, h4⟩ := (SArr.of_own rv_len hown).form
      obtain ⟨M, hM⟩ : ∃ M, O.length = M := ⟨_, rfl⟩
      have HM := Lib.hid hM
      rw [hM] at h4 hrl
      subst h4
      clear hM
      have hol : O.length ≤ 1000000000000 - 1 := by rw [HM.out]; omega
      have hb0 := (Below.refl wr.heap.size wr).alloc (Nat.le_refl _) (.cells #[.string (str x.1), .string (str x.2)] 34)
      have hown' := own_keep_below hown hb0
      have hbase : w.heap.size ≤ (wr.alloc (.cells #[.string (str x.1), .string (str x.2)] 34)).heap.size := by simp; omega
      have hbel := hb.alloc hbs (.cells #[.string (str x.1), .string (str x.2)] 34)
      have hN1 : (wr.alloc (.cells #[.string (str x.1), .string (str x.2)] 34)).heap.size = wr.heap.size + 1 := by simp
      clear hb0
      go_wp2_with (at_builtin; refine append_struct (val := rv) 25 41 (.agg #[.string ⟨#[]⟩, .string ⟨#[]⟩]) 32 Tryd.underlying25 info_rule7' rfl (by decide) (by decide) rv_len rv_one (wr.alloc (.cells #[.string (str x.1), .string (str x.2)] 34)) rfl (.tmp 12) (.tmp 14) rfl w.heap.size (.slice A4 M c4) O rfl hown' x _ rfl (wr.heap.size + 1) hN1 rfl hol hbase ?_; intro r3 w6 hown6 hb6)
      go_roundw
      case rel => exact ⟨k + 1, by omega, by go_num, (by rw [HX.out]; exact hown6), hbel.trans hb6⟩
      case measure => simp [intOf]; omega
    · obtain rfl : k = n := by omega
      rw [List.take_of_length_le (by rw [HL.out]; omega)] at hown
      have hA := SArr.of_own rv_len hown
      obtain ⟨A2, c2, h2⟩ := hA.form
      rw [HL.out] at h2
      subst h2
      have HT2 := Lib.hid (⟨hA, hn, HSh.out⟩ : Table _ A2 k c2 t)
      clear hA hown
      go_wp2
      go_ret
      exact ⟨_, _, rfl, HT2.out, hb⟩

end Go.Proofs.YtomkipddbmnipaaDoor

namespace Go.Proofs.YtomkipddbmnipaaDoor
open Go.RowKit

theorem ta1 : toL cyrT [208, 162, 208, 190, 208, 187, 209, 129, 209, 130, 208, 190, 208, 185] = [84, 111, 108, 115, 116, 111, 106] := by kernel_rfl
theorem ta2 : toL greekT [206, 191, 207, 133, 207, 129, 206, 177, 206, 189, 206, 191, 207, 130] = [111, 117, 114, 97, 110, 111, 115] := by kernel_rfl
theorem ta3 : revB cyrT = true := by unfold revB; rw [cyr_free0, cyr_valid]; rfl
theorem ta4 : backL cyrT [84, 111, 108, 115, 116, 111, 106] = [208, 162, 208, 190, 208, 187, 209, 129, 209, 130, 208, 190, 208, 185] := by kernel_rfl
theorem ta5 : coversL greekT [206, 191, 207, 133] = true := by kernel_rfl

set_option maxRecDepth 20000 in
set_option maxHeartbeats 3200000 in
theorem awake7_any (w : World) (hS : Ready7 w) : Calls Tryd.prog 10 #[] w fun e w' => e = .returned (.bool true) ∧ Below w.heap.size w w' := by
  have q1 : ((str [84, 111, 108, 115, 116, 111, 106]).toList == [84, 111, 108, 115, 116, 111, 106]) = true := by rw [str_toList]; rfl
  have q2 : ((str [111, 117, 114, 97, 110, 111, 115]).toList == [111, 117, 114, 97, 110, 111, 115]) = true := by rw [str_toList]; rfl
  have q3 : ((str [208, 162, 208, 190, 208, 187, 209, 129, 209, 130, 208, 190, 208, 185]).toList == [208, 162, 208, 190, 208, 187, 209, 129, 209, 130, 208, 190, 208, 185]) = true := by rw [str_toList]; rfl
  go_enter Tryd.func10, Tryd.ntmps10
  go_wp2_with fail
  refine (prCyr7_any _ hS).mono ?_
  rintro e u1 ⟨A1, c1, rfl, T1, b1⟩
  have p1 := b1
  go_wp2_with fail
  refine (prTo7_at u1 A1 64 c1 cyrT [208, 162, 208, 190, 208, 187, 209, 129, 209, 130, 208, 190, 208, 185] _ (hS.below p1) T1 (Below.refl _ _) (by decide) _ ta1).mono ?_
  rintro e v1 ⟨rfl, d1⟩
  have r1 := below_next p1 d1
  go_wp2_with fail
  refine (prGreek7_any _ (hS.below r1)).mono ?_
  rintro e u2 ⟨A2, c2, rfl, T2, b2⟩
  have p2 := (below_next r1 b2)
  go_wp2_with fail
  refine (prTo7_at u2 A2 28 c2 greekT [206, 191, 207, 133, 207, 129, 206, 177, 206, 189, 206, 191, 207, 130] _ (hS.below p2) T2 (Below.refl _ _) (by decide) _ ta2).mono ?_
  rintro e v2 ⟨rfl, d2⟩
  have r2 := below_next p2 d2
  go_wp2_with fail
  refine (prCyr7_any _ (hS.below r2)).mono ?_
  rintro e u3 ⟨A3, c3, rfl, T3, b3⟩
  have p3 := (below_next r2 b3)
  go_wp2_with fail
  refine (prRev7_at u3 A3 64 c3 cyrT _ (hS.below p3) T3 (Below.refl _ _) _ ta3).mono ?_
  rintro e v3 ⟨rfl, d3⟩
  have r3 := below_next p3 d3
  go_wp2_with fail
  refine (prCyr7_any _ (hS.below r3)).mono ?_
  rintro e u4 ⟨A4, c4, rfl, T4, b4⟩
  have p4 := (below_next r3 b4)
  go_wp2_with fail
  refine (prBack7_at u4 A4 64 c4 cyrT [84, 111, 108, 115, 116, 111, 106] _ (hS.below p4) T4 (Below.refl _ _) (by decide) _ ta4).mono ?_
  rintro e v4 ⟨rfl, d4⟩
  have r4 := below_next p4 d4
  go_wp2_with fail
  refine (prGreek7_any _ (hS.below r4)).mono ?_
  rintro e u5 ⟨A5, c5, rfl, T5, b5⟩
  have p5 := (below_next r4 b5)
  go_wp2_with fail
  refine (prCovers7_at u5 A5 28 c5 greekT [206, 191, 207, 133] _ (hS.below p5) T5 (Below.refl _ _) (by decide) _ ta5).mono ?_
  rintro e v5 ⟨rfl, d5⟩
  have r5 := below_next p5 d5
  go_wp2_with fail
  refine (prGreek7_any _ (hS.below r5)).mono ?_
  rintro e u6 ⟨A6, c6, rfl, T6, b6⟩
  have p6 := (below_next r5 b6)
  go_wp2_with fail
  refine (prValid7_at u6 A6 28 c6 greekT _ (hS.below p6) T6 (Below.refl _ _) _ greek_valid).mono ?_
  rintro e v6 ⟨rfl, d6⟩
  have r6 := below_next p6 d6
  go_wp2
  go_ret
  exact ⟨rfl, r6⟩

set_option maxRecDepth 20000 in
set_option maxHeartbeats 3200000 in
theorem translitTo_v (A : Option Addr) (n c : Nat) (t : List RuleL) (s : List UInt8) (w : World) (hS : Ready7 w) (h : Given w A n c t) (hl : s.length ≤ 9223372036854775807) :
    Calls Tryd.prog 3 #[.slice A n c, .string (str s)] w fun e w' => e = .returned (.bool true) ∧ Below w.heap.size w w' := by
  have HG := Lib.hid h
  have hzs : (str s).size = s.length := rfl
  cases hf : fewL t with
  | false =>
    have HF := Lib.hid hf
    clear hf h
    go_enter Tryd.func3, Tryd.ntmps3
    go_wp2_with fail
    refine (awake7_any _ hS).mono ?_
    rintro e w1 ⟨rfl, k1⟩
    go_wp2_with fail
    refine (few7_any A n c t _ (HG.out.up k1)).mono ?_
    rintro e w2 ⟨rfl, rfl⟩
    rw [HF.out]
    go_wp2
    go_ret
    exact ⟨rfl, k1⟩
  | true =>
    have HF := Lib.hid hf
    have hT := h.table hf
    have hlen := (few_of hf).1
    have HLen := Lib.hid h.arr.len
    by_cases gs : 40 < s.length
    · have ts : decide (40 < (s.length : Int)) = true := by simp; omega
      clear hf h hT hlen
      go_enter Tryd.func3, Tryd.ntmps3
      go_wp2_with fail
      refine (awake7_any _ hS).mono ?_
      rintro e w1 ⟨rfl, k1⟩
      go_wp2_with fail
      refine (few7_any A n c t _ (HG.out.up k1)).mono ?_
      rintro e w2 ⟨rfl, rfl⟩
      rw [HF.out]
      go_wp2
      go_ret
      exact ⟨rfl, k1⟩
    have ts : decide (40 < (s.length : Int)) = false := by simp; omega
    have hls : s.length ≤ 5000 := by omega
    obtain ⟨v, hvv⟩ : ∃ q, validL t = q := ⟨_, rfl⟩
    have Hv := Lib.hid hvv
    obtain ⟨r, hvr⟩ : ∃ q, revB t = q := ⟨_, rfl⟩
    have Hr := Lib.hid hvr
    obtain ⟨x, hvx⟩ : ∃ q, toL t s = q := ⟨_, rfl⟩
    have Hx := Lib.hid hvx
    obtain ⟨y, hvy⟩ : ∃ q, backL t s = q := ⟨_, rfl⟩
    have Hy := Lib.hid hvy
    obtain ⟨z, hvz⟩ : ∃ q, coversL t s = q := ⟨_, rfl⟩
    have Hz := Lib.hid hvz
    have qv : (v == v) = true := by simp
    have qr : (r == r) = true := by simp
    have qz : (z == z) = true := by simp
    have qx : ((str x).toList == (str x).toList) = true := beq_self_eq_true _
    have qy : ((str y).toList == (str y).toList) = true := beq_self_eq_true _
    clear hvv hvr hvx hvy hvz hf h
    go_enter Tryd.func3, Tryd.ntmps3
    go_wp2_with fail
    refine (awake7_any _ hS).mono ?_
    rintro e w1 ⟨rfl, k1⟩
    go_wp2_with fail
    refine (few7_any A n c t _ (HG.out.up k1)).mono ?_
    rintro e w2 ⟨rfl, rfl⟩
    rw [HF.out]
    have HT := Lib.hid (hT.up k1)
    go_wp2_with fail
    refine (own7_any A n c t _ HT.out).mono ?_
    rintro e w3 ⟨A3, c3, rfl, T3, k3⟩
    have p3 := below_next k1 k3
    have HS3 := Lib.hid (hS.below p3)
    have HT3 := Lib.hid (HT.out.up k3)
    have HO3 := Lib.hid T3
    clear T3
    go_wp2_with fail
    refine (prValid7_at w3 A3 n c3 t _ HS3.out HO3.out (Below.refl _ _) v Hv.out).mono ?_
    rintro e w4 ⟨rfl, k4⟩
    go_wp2_with fail
    refine (refValid7_at w3 A n c t _ HT3.out k4 v Hv.out).mono ?_
    rintro e w5 ⟨rfl, k5⟩
    go_wp2_with fail
    refine (prRev7_at w3 A3 n c3 t _ HS3.out HO3.out k5 r Hr.out).mono ?_
    rintro e w6 ⟨rfl, k6⟩
    go_wp2_with fail
    refine (refRev7_at w3 A n c t _ HT3.out k6 r Hr.out).mono ?_
    rintro e w7 ⟨rfl, k7⟩
    go_wp2_with fail
    refine (prTo7_at w3 A3 n c3 t s _ HS3.out HO3.out k7 hls x Hx.out).mono ?_
    rintro e w8 ⟨rfl, k8⟩
    go_wp2_with fail
    refine (refTo7_at w3 A n c t s _ HT3.out k8 hls x Hx.out).mono ?_
    rintro e w9 ⟨rfl, k9⟩
    go_wp2_with fail
    refine (prBack7_at w3 A3 n c3 t s _ HS3.out HO3.out k9 hls y Hy.out).mono ?_
    rintro e w10 ⟨rfl, k10⟩
    go_wp2_with fail
    refine (refBack7_at w3 A n c t s _ HT3.out k10 hls y Hy.out).mono ?_
    rintro e w11 ⟨rfl, k11⟩
    go_wp2_with fail
    refine (prCovers7_at w3 A3 n c3 t s _ HS3.out HO3.out k11 hls z Hz.out).mono ?_
    rintro e w12 ⟨rfl, k12⟩
    go_wp2_with fail
    refine (refCovers7_at w3 A n c t s _ HT3.out k12 hls z Hz.out).mono ?_
    rintro e w13 ⟨rfl, k13⟩
    go_wp2
    go_ret
    exact ⟨rfl, below_next p3 k13⟩

/-! There and back. -/
theorem run_len {t : List RuleL} (hg : Good t) (M : Nat) (hM : 1 ≤ M) (hs : ∀ x ∈ t, x.2.length ≤ M) : ∀ (n : Nat) (s : List UInt8) (l : List Nat), s.length ≤ n → decR s = some l → (runL t s).1.length ≤ M * s.length
  | n, s, l, hn, hd => by
    by_cases h0 : s = []
    · subst h0
      rw [run_nil]
      simp
    · have hl : 0 < s.length := List.length_pos_iff.2 h0
      obtain ⟨n, rfl⟩ : ∃ k, n = k + 1 := ⟨n - 1, by omega⟩
      cases hb : bestL t s with
      | none =>
        obtain ⟨c, m, hlm, hc, hcut, hs', hm, hmo⟩ := cut1_some hd h0
        have hdr := drop_cut hcut hs'
        have hle := len_enc hs'
        have hcl := (encC_len c).1
        have ih := run_len hg M hM hs n (encL m) m (by omega) hm
        rw [run_none hg hd h0 hb, hdr, hcut, List.length_append, ← hle, Nat.mul_add]
        have : (encC c).length ≤ M * (encC c).length := Nat.le_mul_of_pos_left _ (by omega)
        omega
      | some x =>
        obtain ⟨hx, hbx⟩ := best_mem hb
        obtain ⟨k, hk, _, _, _, _⟩ := side_enc (hg x hx)
        obtain ⟨m, hm, _⟩ := enc_rest hd hk hbx
        have hxl : 0 < x.1.length := List.length_pos_iff.2 (side_ne (hg x hx))
        have ih := run_len hg M hM hs n (s.drop x.1.length) m (by rw [List.length_drop]; omega) hm
        have hbl := beg_len hbx
        have hx2 := hs x hx
        rw [run_some hg hd h0 hb, List.length_append]
        have e : M * s.length = M * (s.drop x.1.length).length + M * x.1.length := by rw [← Nat.mul_add, List.length_drop]; congr 1; omega
        have : M ≤ M * x.1.length := Nat.le_mul_of_pos_right _ hxl
        omega
theorem to_len {t : List RuleL} {s : List UInt8} (hf : fewL t = true) : (toL t s).length ≤ 30 * s.length := by
  unfold toL
  split
  · rename_i h
    cases hd : decR s with
    | none => rw [hd] at h; cases h.2
    | some l => exact run_len (good_of (valid_of h.1)) 30 (by decide) (fun x hx => ((few_of hf).2 x hx).2) s.length s l (Nat.le_refl _) hd
  · simp
theorem to_round {t : List RuleL} {s : List UInt8} (hr : revB t = true) (hc : coversL t s = true) : backL t (toL t s) = s := by
  unfold revB at hr
  unfold coversL at hc
  simp only [Bool.and_eq_true, decide_eq_true_eq] at hr hc
  obtain ⟨hf, hv⟩ := hr
  obtain ⟨⟨_, hd⟩, h2⟩ := hc
  obtain ⟨l, hl⟩ := Option.isSome_iff_exists.1 hd
  have hV := valid_of hv
  have hto : toL t s = (runL t s).1 := by unfold toL; rw [if_pos ⟨hv, hd⟩]
  obtain ⟨m, hm⟩ := run_enc (good_of hV) (fun x hx => (hV.sides x hx).2) s.length s l (Nat.le_refl _) hl
  have hb := run_back hV (free_all hf) s.length s l (Nat.le_refl _) hl h2
  rw [hto]
  unfold backL
  rw [if_pos ⟨hv, by rw [hm]; rfl⟩, hb]

set_option maxRecDepth 20000 in
set_option maxHeartbeats 3200000 in
theorem translitRound_v (A : Option Addr) (n c : Nat) (t : List RuleL) (s : List UInt8) (w : World) (hS : Ready7 w) (h : Given w A n c t) (hl : s.length ≤ 9223372036854775807) :
    Calls Tryd.prog 4 #[.slice A n c, .string (str s)] w fun e w' => e = .returned (.bool true) ∧ Below w.heap.size w w' := by
  have HG := Lib.hid h
  have hzs : (str s).size = s.length := rfl
  cases hf : fewL t with
  | false =>
    have HF := Lib.hid hf
    clear hf h
    go_enter Tryd.func4, Tryd.ntmps4
    go_wp2_with fail
    refine (awake7_any _ hS).mono ?_
    rintro e w1 ⟨rfl, k1⟩
    go_wp2_with fail
    refine (few7_any A n c t _ (HG.out.up k1)).mono ?_
    rintro e w2 ⟨rfl, rfl⟩
    rw [HF.out]
    go_wp2
    go_ret
    exact ⟨rfl, k1⟩
  | true =>
    have HF := Lib.hid hf
    have hT := h.table hf
    have hlen := (few_of hf).1
    have HLen := Lib.hid h.arr.len
    by_cases gs : 40 < s.length
    · have ts : decide (40 < (s.length : Int)) = true := by simp; omega
      clear hf h hT hlen
      go_enter Tryd.func4, Tryd.ntmps4
      go_wp2_with fail
      refine (awake7_any _ hS).mono ?_
      rintro e w1 ⟨rfl, k1⟩
      go_wp2_with fail
      refine (few7_any A n c t _ (HG.out.up k1)).mono ?_
      rintro e w2 ⟨rfl, rfl⟩
      rw [HF.out]
      go_wp2
      go_ret
      exact ⟨rfl, k1⟩
    have ts : decide (40 < (s.length : Int)) = false := by simp; omega
    have hls : s.length ≤ 5000 := by omega
    obtain ⟨r, hvr⟩ : ∃ q, revB t = q := ⟨_, rfl⟩
    have Hr := Lib.hid hvr
    obtain ⟨z, hvz⟩ : ∃ q, coversL t s = q := ⟨_, rfl⟩
    have Hz := Lib.hid hvz
    obtain ⟨x, hvx⟩ : ∃ q, toL t s = q := ⟨_, rfl⟩
    have Hx := Lib.hid hvx
    have hlx : x.length ≤ 5000 := by rw [← hvx]; have := to_len (s := s) hf; omega
    have HB : Hid (r = true → z = true → backL t x = s) := Lib.hid fun h1 h2 => by rw [← hvx]; exact to_round (hvr.trans h1) (hvz.trans h2)
    have qs : ((str s).toList == (str s).toList) = true := beq_self_eq_true _
    clear hvr hvz hvx hf h
    cases r with
    | false =>
      go_enter Tryd.func4, Tryd.ntmps4
      go_wp2_with fail
      refine (awake7_any _ hS).mono ?_
      rintro e w1 ⟨rfl, k1⟩
      go_wp2_with fail
      refine (few7_any A n c t _ (HG.out.up k1)).mono ?_
      rintro e w2 ⟨rfl, rfl⟩
      rw [HF.out]
      have HT := Lib.hid (hT.up k1)
      go_wp2_with fail
      refine (own7_any A n c t _ HT.out).mono ?_
      rintro e w3 ⟨A3, c3, rfl, T3, k3⟩
      have p3 := below_next k1 k3
      have HS3 := Lib.hid (hS.below p3)
      have HT3 := Lib.hid (HT.out.up k3)
      have HO3 := Lib.hid T3
      clear T3
      go_wp2_with fail
      refine (prRev7_at w3 A3 n c3 t _ HS3.out HO3.out (Below.refl _ _) _ Hr.out).mono ?_
      rintro e w4 ⟨rfl, k4⟩
      go_wp2
      go_ret
      exact ⟨rfl, below_next p3 k4⟩
    | true =>
      cases z with
      | false =>
        go_enter Tryd.func4, Tryd.ntmps4
        go_wp2_with fail
        refine (awake7_any _ hS).mono ?_
        rintro e w1 ⟨rfl, k1⟩
        go_wp2_with fail
        refine (few7_any A n c t _ (HG.out.up k1)).mono ?_
        rintro e w2 ⟨rfl, rfl⟩
        rw [HF.out]
        have HT := Lib.hid (hT.up k1)
        go_wp2_with fail
        refine (own7_any A n c t _ HT.out).mono ?_
        rintro e w3 ⟨A3, c3, rfl, T3, k3⟩
        have p3 := below_next k1 k3
        have HS3 := Lib.hid (hS.below p3)
        have HT3 := Lib.hid (HT.out.up k3)
        have HO3 := Lib.hid T3
        clear T3
        go_wp2_with fail
        refine (prRev7_at w3 A3 n c3 t _ HS3.out HO3.out (Below.refl _ _) _ Hr.out).mono ?_
        rintro e w4 ⟨rfl, k4⟩
        go_wp2_with fail
        refine (prCovers7_at w3 A3 n c3 t s _ HS3.out HO3.out k4 hls _ Hz.out).mono ?_
        rintro e w5 ⟨rfl, k5⟩
        go_wp2
        go_ret
        exact ⟨rfl, below_next p3 k5⟩
      | true =>
        have HB2 := Lib.hid (HB.out rfl rfl)
        clear HB
        go_enter Tryd.func4, Tryd.ntmps4
        go_wp2_with fail
        refine (awake7_any _ hS).mono ?_
        rintro e w1 ⟨rfl, k1⟩
        go_wp2_with fail
        refine (few7_any A n c t _ (HG.out.up k1)).mono ?_
        rintro e w2 ⟨rfl, rfl⟩
        rw [HF.out]
        have HT := Lib.hid (hT.up k1)
        go_wp2_with fail
        refine (own7_any A n c t _ HT.out).mono ?_
        rintro e w3 ⟨A3, c3, rfl, T3, k3⟩
        have p3 := below_next k1 k3
        have HS3 := Lib.hid (hS.below p3)
        have HT3 := Lib.hid (HT.out.up k3)
        have HO3 := Lib.hid T3
        clear T3
        go_wp2_with fail
        refine (prRev7_at w3 A3 n c3 t _ HS3.out HO3.out (Below.refl _ _) _ Hr.out).mono ?_
        rintro e w4 ⟨rfl, k4⟩
        go_wp2_with fail
        refine (prCovers7_at w3 A3 n c3 t s _ HS3.out HO3.out k4 hls _ Hz.out).mono ?_
        rintro e w5 ⟨rfl, k5⟩
        go_wp2_with fail
        refine (prTo7_at w3 A3 n c3 t s _ HS3.out HO3.out k5 hls _ Hx.out).mono ?_
        rintro e w6 ⟨rfl, k6⟩
        go_wp2_with fail
        refine (prBack7_at w3 A3 n c3 t x _ HS3.out HO3.out k6 hlx _ HB2.out).mono ?_
        rintro e w7 ⟨rfl, k7⟩
        go_wp2
        go_ret
        exact ⟨rfl, below_next p3 k7⟩

end Go.Proofs.YtomkipddbmnipaaDoor

namespace Go.Proofs.YtomkipddbmnipaaDoor
open Go.RowKit

theorem greek_rev0 : freeBB [] greekT = false := by kernel_rfl
theorem greek_rev : revB greekT = false := by unfold revB; rw [greek_rev0]; rfl
theorem cyr_few : fewL cyrT = true := by kernel_rfl
theorem greek_few : fewL greekT = true := by kernel_rfl
theorem refCyr7_any (w : World) : Calls Tryd.prog 27 #[] w fun e w' => ∃ A c, e = .returned (.slice A 64 c) ∧ Table w' A 64 c cyrT ∧ Below w.heap.size w w' := by
  refine (refCyrillic_any w).mono ?_
  rintro e w' ⟨rfl, rfl⟩
  exact ⟨_, _, rfl, ⟨SArr.made w rfl _ rfl, by decide, fun x hx => by have := (few_of cyr_few).2 x hx; omega⟩, (Below.refl _ _).alloc (Nat.le_refl _) _⟩
theorem refGr7_any (w : World) : Calls Tryd.prog 28 #[] w fun e w' => ∃ A c, e = .returned (.slice A 28 c) ∧ Table w' A 28 c greekT ∧ Below w.heap.size w w' := by
  refine (refGreek_any w).mono ?_
  rintro e w' ⟨rfl, rfl⟩
  exact ⟨_, _, rfl, ⟨SArr.made w rfl _ rfl, by decide, fun x hx => by have := (few_of greek_few).2 x hx; omega⟩, (Below.refl _ _).alloc (Nat.le_refl _) _⟩

set_option maxRecDepth 20000 in
set_option maxHeartbeats 3200000 in
theorem translitTables_v (w : World) (hS : Ready7 w) :
    Calls Tryd.prog 7 #[] w fun e w' => e = .returned (.bool true) ∧ Below w.heap.size w w' := by
  go_enter Tryd.func7, Tryd.ntmps7
  go_wp2_with fail
  refine (awake7_any _ hS).mono ?_
  rintro e w1 ⟨rfl, k1⟩
  go_wp2_with fail
  refine (prCyr7_any _ (hS.below k1)).mono ?_
  rintro e w2 ⟨A2, c2, rfl, T2, k2⟩
  have p2 := below_next k1 k2
  go_wp2_with fail
  refine (prGreek7_any _ (hS.below p2)).mono ?_
  rintro e w3 ⟨A3, c3, rfl, T3, k3⟩
  have p3 := below_next p2 k3
  go_wp2_with fail
  refine (refCyr7_any _).mono ?_
  rintro e w4 ⟨A4, c4, rfl, T4, k4⟩
  have p4 := below_next p3 k4
  go_wp2_with fail
  refine (refGr7_any _).mono ?_
  rintro e w5 ⟨A5, c5, rfl, T5, k5⟩
  have p5 := below_next p4 k5
  have a2 := T2.up (below_next k3 (below_next k4 k5))
  have a3 := T3.up (below_next k4 k5)
  have a4 := T4.up k5
  obtain ⟨b2, o2, rfl, hB2, hc2⟩ := a2.cells (by decide)
  obtain ⟨b3, o3, rfl, hB3, hc3⟩ := a3.cells (by decide)
  obtain ⟨b4, o4, rfl, hB4, hc4⟩ := a4.cells (by decide)
  obtain ⟨b5, o5, rfl, hB5, hc5⟩ := T5.cells (by decide)
  have H2 := Lib.hid hc2
  have H3 := Lib.hid hc3
  have H4 := Lib.hid hc4
  have H5 := Lib.hid hc5
  have HA2 := Lib.hid a2
  have HA3 := Lib.hid a3
  have HS5 := Lib.hid (hS.below p5)
  clear hc2 hc3 hc4 hc5 a2 a3 a4 T2 T3 T4 T5
  go_wp2
  go_loopw [27] (fun i wr => ∃ k : Nat, k ≤ 64 ∧ i = .int .i64 (k : Int) ∧ Below w5.heap.size w5 wr) (fun i _ => 64 - (intOf i).toNat)
  case atStart => exact ⟨0, by omega, rfl, Below.refl _ _⟩
  case round =>
    obtain ⟨k, hk, rfl, hb⟩ := hrel
    by_cases hlt : k < 64
    · have i1 : decide ((k : Int) < 64) = true := by simp; omega
      have i1' : decide (k < 64) = true := by simpa using hlt
      have kz : (k : Int) < 64 := by omega
      obtain ⟨x, hx⟩ : ∃ a, cyrT[k]? = some a := ⟨_, List.getElem?_eq_getElem (by show k < 64; omega)⟩
      have d0 := (hb.cell (p := ⟨b2, o2 + k * 2, none⟩) hB2).trans (H2.out k x hx).1
      have d1 := (hb.cell (p := ⟨b2, o2 + k * 2 + 1, none⟩) hB2).trans (H2.out k x hx).2
      have e0 := (hb.cell (p := ⟨b4, o4 + k * 2, none⟩) hB4).trans (H4.out k x hx).1
      have e1 := (hb.cell (p := ⟨b4, o4 + k * 2 + 1, none⟩) hB4).trans (H4.out k x hx).2
      have q1 : ((str x.1).toList == (str x.1).toList) = true := beq_self_eq_true _
      have q2 : ((str x.2).toList == (str x.2).toList) = true := beq_self_eq_true _
      clear hx
      go_wp2
      go_quiet (fail)
      go_wp2
      go_roundw
      case rel => exact ⟨k + 1, by omega, by go_num, below_drewN hb _⟩
      case measure => simp [intOf]; omega
    · obtain rfl : k = 64 := by omega
      go_wp2
      go_loopw [42] (fun i wi => ∃ k : Nat, k ≤ 28 ∧ i = .int .i64 (k : Int) ∧ Below w5.heap.size w5 wi) (fun i _ => 28 - (intOf i).toNat)
      case atStart => exact ⟨0, by omega, rfl, hb⟩
      case round =>
        obtain ⟨k, hk, rfl, hb⟩ := hrel
        by_cases hlt : k < 28
        · have i1 : decide ((k : Int) < 28) = true := by simp; omega
          have i1' : decide (k < 28) = true := by simpa using hlt
          have kz : (k : Int) < 28 := by omega
          obtain ⟨x, hx⟩ : ∃ a, greekT[k]? = some a := ⟨_, List.getElem?_eq_getElem (by show k < 28; omega)⟩
          have d0 := (hb.cell (p := ⟨b3, o3 + k * 2, none⟩) hB3).trans (H3.out k x hx).1
          have d1 := (hb.cell (p := ⟨b3, o3 + k * 2 + 1, none⟩) hB3).trans (H3.out k x hx).2
          have e0 := (hb.cell (p := ⟨b5, o5 + k * 2, none⟩) hB5).trans (H5.out k x hx).1
          have e1 := (hb.cell (p := ⟨b5, o5 + k * 2 + 1, none⟩) hB5).trans (H5.out k x hx).2
          have q1 : ((str x.1).toList == (str x.1).toList) = true := beq_self_eq_true _
          have q2 : ((str x.2).toList == (str x.2).toList) = true := beq_self_eq_true _
          clear hx
          go_wp2
          go_quiet (fail)
          go_wp2
          go_roundw
          case rel => exact ⟨k + 1, by omega, by go_num, below_drewN hb _⟩
          case measure => simp [intOf]; omega
        · obtain rfl : k = 28 := by omega
          go_wp2_with fail
          refine (prRev7_at w5 _ 64 c2 cyrT _ HS5.out HA2.out hb _ ta3).mono ?_
          rintro e w6 ⟨rfl, k6⟩
          go_wp2_with fail
          refine (prRev7_at w5 _ 28 c3 greekT _ HS5.out HA3.out k6 _ greek_rev).mono ?_
          rintro e w7 ⟨rfl, k7⟩
          go_wp2_with fail
          refine (prValid7_at w5 _ 28 c3 greekT _ HS5.out HA3.out k7 _ greek_valid).mono ?_
          rintro e w8 ⟨rfl, k8⟩
          go_wp2
          go_ret
          exact ⟨rfl, below_next p5 k8⟩

end Go.Proofs.YtomkipddbmnipaaDoor
