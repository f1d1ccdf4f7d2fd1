/-
  The contract of the reference's reader of a text.
-/
import Derived.Test.YtefonoaffeahjaaRefR
namespace Go.Proofs.Ytefonoaffeahjaa
open Go.RowKit

theorem rrd_moveI {w W : World} {g B at_ at' : Nat} {bs : List UInt8} {f : Bool} {z : Int} (h : RRd w g B bs at_ f) (hW : w.grownBy W none) (ha' : at' ≤ bs.length) (hz : z = at') :
    w.grownBy (W.setCell ⟨g, 1, none⟩ (.int .i64 z)) (some g) ∧ RRd (W.setCell ⟨g, 1, none⟩ (.int .i64 z)) g B bs at' f := by
  subst hz
  exact rrd_move h hW ha'

theorem dec_rest {bs r : List UInt8} {at_ : Nat} {lo hi n : Int} (ha : at_ ≤ bs.length) (h : decI lo hi (bs.drop at_) = some (n, r)) : r = bs.drop (bs.length - r.length) ∧ r.length ≤ bs.length := by
  have h1 := (decI_canon h).1
  have hl := congrArg List.length h1
  rw [List.length_drop, List.length_append] at hl
  have h2 : r = (bs.drop at_).drop (encI n).length := by rw [h1, List.drop_left]
  refine ⟨?_, by omega⟩
  rw [List.drop_drop] at h2
  rw [show at_ + (encI n).length = bs.length - r.length from by omega] at h2
  exact h2

theorem back_stop {w w1 W : World} {g B at_ at1 : Nat} {bs : List UInt8} {f : Bool} (h : RRd w1 g B bs at1 f) (hg : w.grownBy w1 (some g)) (hW : w1.grownBy W none) (ha : at_ ≤ bs.length) :
    w.grownBy ((W.setCell ⟨g, 1, none⟩ (.int .i64 at_)).setCell ⟨g, 2, none⟩ (.bool true)) (some g) ∧ RRd ((W.setCell ⟨g, 1, none⟩ (.int .i64 at_)).setCell ⟨g, 2, none⟩ (.bool true)) g B bs at_ true := by
  obtain ⟨a1, a2⟩ := rrd_move h hW ha
  obtain ⟨b1, b2⟩ := rrd_stop a2 (grown_refl _ none)
  exact ⟨grown_trans hg (grown_trans a1 b1), b2⟩

/-- s[lo:hi] of a slice of bytes. -/
theorem cut_mid {w : World} {B : Nat} {v : Value} {bs : List UInt8} (h : Sl w B v bs) {lo hi : Nat} (hl : lo ≤ hi) (hh : hi ≤ bs.length) :
    ∃ y, (∀ W, (Instr.slice 22 v (some (.int .i64 lo)) (some (.int .i64 hi)) none).run Try.prog W = .ok y W) ∧ Sl w B y ((bs.drop lo).take (hi - lo)) := by
  have ht : Try.prog.underlying 22 = some (.slice (Try.prog.elem 22)) := by kernel_rfl
  have hsz : ∀ W, (sizeOf (Try.prog.elem 22)).run Try.prog W = .ok 1 W := fun W => by kernel_rfl
  rcases h with ⟨rfl, rfl⟩ | ⟨a, c, rfl, hc, hb, hcell⟩
  · simp at hh
    subst hh
    obtain rfl : lo = 0 := by omega
    refine ⟨.slice none 0 0, fun W => ?_, .inl ⟨rfl, rfl⟩⟩
    kernel_rfl
  · refine ⟨.slice (some (if c = lo then a else a.add lo)) (hi - lo) (c - lo), fun W => ?_, ?_⟩
    · rw [run_slice_lh W _ (some a) bs.length c ht .i64 .i64 lo hi (by omega) (by omega) (by omega), hsz]
      simp only [Result.andThen, sliced, Int.toNat_natCast, Nat.mul_one]
      split <;> rfl
    · have hlen : ((bs.drop lo).take (hi - lo)).length = hi - lo := by rw [List.length_take, List.length_drop]; omega
      refine .inr ⟨_, c - lo, by rw [hlen], by rw [hlen]; omega, fun h0 => ?_, fun i u hu => ?_⟩
      · have hb' := hb (by rw [hlen] at h0; omega)
        split
        · exact hb'
        · rw [add_block]; exact hb'
      · have hi2 : i < hi - lo := by rw [← hlen]; exact (List.getElem?_eq_some_iff.1 hu).1
        rw [if_neg (by omega), add_add]
        rw [List.getElem?_take, if_pos hi2, List.getElem?_drop] at hu
        exact hcell _ u hu

set_option maxHeartbeats 1600000 in
theorem refText_bad (g B at_ : Nat) (bs : List UInt8) (f : Bool) (mx : Int) (w : World) (h : RRd w g B bs at_ f) (hlen : bs.length ≤ 1000000000000) (hd : f = true ∨ decI 0 mx (bs.drop at_) = none) :
    Calls Try.prog 34 #[.pointer (some ⟨g, 0, none⟩), .int .i64 mx] w fun e w' => e = .returned (.string (str [])) ∧ w.grownBy w' (some g) ∧ RRd w' g B bs at_ true := by
  have hrr := h
  obtain ⟨v, hb, hs, ha, hB⟩ := h
  have h1 := hb.cell 1
  simp at h1
  have HD := Lib.hid hd
  clear hd
  go_enter Try.func34, Try.ntmps34
  go_wp2_with fail
  refine (refInt_any g B at_ bs f 0 mx w hrr hlen).mono ?_
  intro e w1 he
  obtain ⟨hg, he⟩ := he
  have he' : e = .returned (.int .i64 0) ∧ RRd w1 g B bs at_ true := by
    cases f with
    | true => cases ho : decI 0 mx (bs.drop at_) <;> (rw [ho] at he; exact he)
    | false =>
      rcases HD.out with h | h
      · cases h
      · rw [h] at he; exact he
  clear he
  obtain ⟨rfl, hr1⟩ := he'
  have hrr1 := hr1
  obtain ⟨v1, hb1, hs1, ha1, hB1⟩ := hr1
  have k1 := hb1.cell 1
  have k2 := hb1.cell 2
  have j1 := hb1.free 1
  have j2 := hb1.free 2
  simp at k1 k2
  go_wp2_with fail
  go_quiet (fail)
  go_wp2
  go_ret
  have hm := back_stop (W := w1.drewN nq) hrr1 hg (grown_drewN _ _ _) ha
  exact ⟨rfl, hm.1, hm.2⟩

set_option maxHeartbeats 1600000 in
theorem refText_ok (g B at_ m : Nat) (bs r : List UInt8) (mx : Int) (w : World) (h : RRd w g B bs at_ false) (hlen : bs.length ≤ 1000000000000) (hd : decI 0 mx (bs.drop at_) = some ((m : Int), r)) (hm : m ≤ r.length) :
    Calls Try.prog 34 #[.pointer (some ⟨g, 0, none⟩), .int .i64 mx] w fun e w' => e = .returned (.string (str (r.take m))) ∧ w.grownBy w' (some g) ∧ RRd w' g B bs (bs.length - (r.drop m).length) false := by
  have hrr := h
  obtain ⟨v, hb, hs, ha, hB⟩ := h
  have h1 := hb.cell 1
  simp at h1
  obtain ⟨hr0, hrl⟩ := dec_rest ha hd
  have hm9 := (decI_canon hd).2.2.2.2
  obtain ⟨at1, hat1⟩ : ∃ a, bs.length - r.length = a := ⟨_, rfl⟩
  have HD := Lib.hid hd
  have HR := Lib.hid hr0
  have HA := Lib.hid hat1
  clear hd hr0 hat1
  go_enter Try.func34, Try.ntmps34
  go_wp2_with fail
  refine (refInt_any g B at_ bs false 0 mx w hrr hlen).mono ?_
  intro e w1 he
  rw [HD.out] at he
  obtain ⟨hg, y, rfl, rfl, hr1⟩ := he
  rw [HA.out] at hr1
  have hrr1 := hr1
  obtain ⟨v1, hb1, hs1, ha1, hB1⟩ := hr1
  obtain ⟨A1, c1, rfl⟩ := hs1.form
  have k0 := hb1.cell 0
  have k1 := hb1.cell 1
  have k2 := hb1.cell 2
  have j1 := hb1.free 1
  have j2 := hb1.free 2
  simp at k0 k1 k2
  have hm1 : (m : Int) ≤ (bs.length : Int) - (at1 : Int) := by have := HA.out; omega
  go_wp2_with fail
  go_quiet (fail)
  go_wp2_with fail
  have hat2 : at1 + m ≤ bs.length := by have := HA.out; omega
  have hm3 := rrd_moveI (W := w1.drewN nq) (z := (at1 : Int) + (m : Int)) (at' := at1 + m) hrr1 (grown_drewN _ _ _) hat2 (by omega)
  generalize (w1.drewN nq).setCell ⟨g, 1, none⟩ (.int .i64 ((at1 : Int) + (m : Int))) = W2 at hm3 ⊢
  obtain ⟨hg2, hr2⟩ := hm3
  have hrr2 := hr2
  clear hb1 hs1 k0 k1 k2 j1 j2 hb hs h1
  obtain ⟨v2, hb2, hs2, ha2, hB2⟩ := hr2
  obtain ⟨en, hen⟩ : ∃ en, at1 + m = en := ⟨_, rfl⟩
  rw [hen] at hb2 hat2 hrr2
  have k0 := hb2.cell 0
  have k1 := hb2.cell 1
  simp at k0 k1
  have hsub1 : IntKind.i64.wrap ((en : Int) - (m : Int)) = (at1 : Int) := by rw [IntKind.wrap_i64]; omega
  have hsub2 : (en : Int) - (m : Int) = (at1 : Int) := by omega
  have hlast : Hid (bs.length - (r.drop m).length = en) := by
    have := HA.out
    rw [List.length_drop]
    show _ = _
    omega
  have htake : Hid (r.take m = (bs.drop at1).take m) := by
    have h1 := HR.out
    have h2 := HA.out
    rw [h2] at h1
    rw [h1]
    exact rfl
  have h0a : (0 : Int) ≤ (at1 : Int) := by omega
  have hae : (at1 : Int) ≤ (en : Int) := by omega
  have HE := Lib.hid hen
  clear hen hm1
  obtain ⟨y, hsl, hsy⟩ := cut_mid hs2 (lo := at1) (hi := en) (by omega) hat2
  have hconv : ∀ j, (convert 22 9 y).run Try.prog (W2.drewN j) = .ok (.string (str ((bs.drop at1).take (en - at1)))) (W2.drewN j) := fun j =>
    conv_bytes (P := Try.prog) (hsy.drewN j) 22 5 9 Try.underlying22 Try.underlying5 Try.underlying9
  clear hs2 hsy
  go_quiet (fail)
  go_wp2
  go_ret
  refine ⟨?_, grown_trans hg (grown_trans hg2 (grown_drewN _ _ _)), ?_⟩
  · have := HE.out
    rw [htake.out, show m = en - at1 from by omega]
    rfl
  · rw [hlast.out]
    exact hrr2.grown (grown_drewN _ _ _)

set_option maxHeartbeats 1600000 in
theorem refText_long (g B at_ m : Nat) (bs r : List UInt8) (mx : Int) (w : World) (h : RRd w g B bs at_ false) (hlen : bs.length ≤ 1000000000000) (hd : decI 0 mx (bs.drop at_) = some ((m : Int), r)) (hm : ¬ m ≤ r.length) :
    Calls Try.prog 34 #[.pointer (some ⟨g, 0, none⟩), .int .i64 mx] w fun e w' => e = .returned (.string (str [])) ∧ w.grownBy w' (some g) ∧ RRd w' g B bs at_ true := by
  have hrr := h
  obtain ⟨v, hb, hs, ha, hB⟩ := h
  have h1 := hb.cell 1
  simp at h1
  obtain ⟨hr0, hrl⟩ := dec_rest ha hd
  have hm9 := (decI_canon hd).2.2.2.2
  obtain ⟨at1, hat1⟩ : ∃ a, bs.length - r.length = a := ⟨_, rfl⟩
  have HD := Lib.hid hd
  have HR := Lib.hid hr0
  have HA := Lib.hid hat1
  clear hd hr0 hat1
  go_enter Try.func34, Try.ntmps34
  go_wp2_with fail
  refine (refInt_any g B at_ bs false 0 mx w hrr hlen).mono ?_
  intro e w1 he
  rw [HD.out] at he
  obtain ⟨hg, y, rfl, rfl, hr1⟩ := he
  rw [HA.out] at hr1
  have hrr1 := hr1
  obtain ⟨v1, hb1, hs1, ha1, hB1⟩ := hr1
  obtain ⟨A1, c1, rfl⟩ := hs1.form
  have k0 := hb1.cell 0
  have k1 := hb1.cell 1
  have k2 := hb1.cell 2
  have j1 := hb1.free 1
  have j2 := hb1.free 2
  simp at k0 k1 k2
  have hm1 : (bs.length : Int) - (at1 : Int) < (m : Int) := by have := HA.out; omega
  go_wp2_with fail
  go_quiet (fail)
  go_wp2
  go_ret
  have hm := back_stop (W := w1.drewN nq) hrr1 hg (grown_drewN _ _ _) ha
  exact ⟨rfl, hm.1, hm.2⟩

theorem RefEnd.of_bad {α : Type} {val : World → α → Value → Prop} {zero : Value} {w w' : World} {g B at_ : Nat} {bs : List UInt8} {e : Ending} (o : Option (α × List UInt8))
    (h1 : e = .returned zero) (h2 : w.grownBy w' (some g)) (h3 : RRd w' g B bs at_ true) : RefEnd val zero w g B bs at_ true o e w' := ⟨h2, by cases o <;> exact ⟨h1, h3⟩⟩

theorem refText_any (g B at_ : Nat) (bs : List UInt8) (f : Bool) (mx : Int) (w : World) (h : RRd w g B bs at_ f) (hlen : bs.length ≤ 1000000000000) :
    Calls Try.prog 34 #[.pointer (some ⟨g, 0, none⟩), .int .i64 mx] w (RefEnd (fun _ => isText) (.string (str [])) w g B bs at_ f (decT mx (bs.drop at_))) := by
  unfold decT
  cases f with
  | true =>
    exact (refText_bad g B at_ bs true mx w h hlen (.inl rfl)).mono fun e w' ⟨h1, h2, h3⟩ => RefEnd.of_bad _ h1 h2 h3
  | false =>
    cases hd : decI 0 mx (bs.drop at_) with
    | none => exact (refText_bad g B at_ bs false mx w h hlen (.inr hd)).mono fun e w' ⟨h1, h2, h3⟩ => ⟨h2, h1, h3⟩
    | some p =>
      obtain ⟨n, r⟩ := p
      obtain ⟨m, rfl⟩ : ∃ m : Nat, n = m := ⟨n.toNat, by have := (decI_canon hd).2.1; omega⟩
      simp only [Int.toNat_natCast]
      by_cases hm : m ≤ r.length
      · rw [if_pos (by omega)]
        exact (refText_ok g B at_ m bs r mx w h hlen hd hm).mono fun e w' ⟨h1, h2, h3⟩ => ⟨h2, _, h1, rfl, h3⟩
      · rw [if_neg (by omega)]
        exact (refText_long g B at_ m bs r mx w h hlen hd hm).mono fun e w' ⟨h1, h2, h3⟩ => ⟨h2, h1, h3⟩

end Go.Proofs.Ytefonoaffeahjaa
