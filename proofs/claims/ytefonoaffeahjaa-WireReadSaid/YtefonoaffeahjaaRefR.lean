/-
  The contracts of the reference's reader: Int, Bool, Rest, Done.
-/
import Derived.Test.YtefonoaffeahjaaGroup2
namespace Go.Proofs.Ytefonoaffeahjaa
open Go.RowKit

/-- Block g is a reader of the reference over the bytes bs, at a place; f: it has failed. -/
def RRd (w : World) (g B : Nat) (bs : List UInt8) (at_ : Nat) (f : Bool) : Prop :=
  ∃ v, Box w g 30 #[v, .int .i64 at_, .bool f] ∧ Sl w B v bs ∧ at_ ≤ bs.length ∧ B ≤ g

theorem RRd.grown {w w' : World} {g B at_ : Nat} {bs : List UInt8} {f : Bool} (h : RRd w g B bs at_ f) (hg : w.grownBy w' none) : RRd w' g B bs at_ f := by
  obtain ⟨v, hb, hs, ha, hB⟩ := h
  exact ⟨v, hb.grown hg (by simp), hs.grown hg (by have := hb.lt; omega) (by simp), ha, hB⟩

/-- What a method of the reference's reader hands back and does. -/
def RefEnd {α : Type} (val : World → α → Value → Prop) (zero : Value) (w : World) (g B : Nat) (bs : List UInt8) (at_ : Nat) (f : Bool) (o : Option (α × List UInt8)) (e : Ending) (w' : World) : Prop :=
  w.grownBy w' (some g) ∧
  match f, o with
  | false, some (x, r) => ∃ y, e = .returned y ∧ val w' x y ∧ RRd w' g B bs (bs.length - r.length) false
  | _, _ => e = .returned zero ∧ RRd w' g B bs at_ true

theorem rrd_stop {w W : World} {g B at_ : Nat} {bs : List UInt8} {f : Bool} (h : RRd w g B bs at_ f) (hW : w.grownBy W none) :
    w.grownBy (W.setCell ⟨g, 2, none⟩ (.bool true)) (some g) ∧ RRd (W.setCell ⟨g, 2, none⟩ (.bool true)) g B bs at_ true := by
  obtain ⟨v, hb, hs, ha, hB⟩ := h.grown hW
  refine ⟨grown_trans (grown_any _ hW) (grown_put _ g 2 _), v, hb.put 2 _, ?_, ha, hB⟩
  exact hs.keep fun p hp => World.cell?_setCell_other W ⟨g, 2, none⟩ p _ (fun e => by subst e; simp at hp; omega)

theorem rrd_move {w W : World} {g B at_ at' : Nat} {bs : List UInt8} {f : Bool} (h : RRd w g B bs at_ f) (hW : w.grownBy W none) (ha' : at' ≤ bs.length) :
    w.grownBy (W.setCell ⟨g, 1, none⟩ (.int .i64 at')) (some g) ∧ RRd (W.setCell ⟨g, 1, none⟩ (.int .i64 at')) g B bs at' f := by
  obtain ⟨v, hb, hs, ha, hB⟩ := h.grown hW
  refine ⟨grown_trans (grown_any _ hW) (grown_put _ g 1 _), v, hb.put 1 _, ?_, ha', hB⟩
  exact hs.keep fun p hp => World.cell?_setCell_other W ⟨g, 1, none⟩ p _ (fun e => by subst e; simp at hp; omega)

set_option maxHeartbeats 1600000 in
theorem refInt_none (g B at_ : Nat) (bs : List UInt8) (f : Bool) (lo hi : Int) (w : World) (h : RRd w g B bs at_ f) (hlen : bs.length ≤ 1000000000000) (hd : dec (bs.drop at_) = none) :
    Calls Try.prog 32 #[.pointer (some ⟨g, 0, none⟩), .int .i64 lo, .int .i64 hi] w (RefEnd (fun _ => isInt) (.int .i64 0) w g B bs at_ f none) := by
  have hrr := h
  obtain ⟨v, hb, hs, ha, hB⟩ := h
  have h0 := hb.cell 0
  have h1 := hb.cell 1
  have h2 := hb.cell 2
  have f1 := hb.free 1
  have f2 := hb.free 2
  simp at h0 h1 h2
  have HD := Lib.hid hd
  clear hd
  go_enter Try.func32, Try.ntmps32
  go_wp2_with fail
  go_region_held3 (fun w' => w'.cell? ⟨g, 0, none⟩ = some v ∧ w'.cell? ⟨g, 1, none⟩ = some (.int .i64 at_)) (first | exact ⟨h0, h1⟩) (first | (go_at_call 48; go_must (refine (group_any v bs B at_ _ ?_ ha hlen).mono ?_); go_must (exact hs.keep fun _ _ => rfl); rintro e wg ⟨he, kg, rfl⟩; rw [HD.out] at he; obtain ⟨xg, yg, rfl⟩ := he))
  cases f with
  | true =>
    go_wp2
    go_ret
    have hm := rrd_stop (W := w.drewN (1 + kg)) hrr ⟨rfl, rfl, rfl, Nat.le_refl _, fun _ _ _ => rfl⟩
    exact ⟨hm.1, rfl, hm.2⟩
  | false =>
    go_wp2
    go_ret
    have hm := rrd_stop (W := w.drewN (1 + kg)) hrr ⟨rfl, rfl, rfl, Nat.le_refl _, fun _ _ _ => rfl⟩
    exact ⟨hm.1, rfl, hm.2⟩

set_option maxHeartbeats 1600000 in
theorem refInt_some (g B at_ u : Nat) (bs r : List UInt8) (f : Bool) (lo hi : Int) (w : World) (h : RRd w g B bs at_ f) (hlen : bs.length ≤ 1000000000000) (hd : dec (bs.drop at_) = some (u, r)) :
    Calls Try.prog 32 #[.pointer (some ⟨g, 0, none⟩), .int .i64 lo, .int .i64 hi] w (RefEnd (fun _ => isInt) (.int .i64 0) w g B bs at_ f (if lo ≤ unzig u ∧ unzig u ≤ hi then some (unzig u, r) else none)) := by
  obtain ⟨o, ho⟩ : ∃ o, (if lo ≤ unzig u ∧ unzig u ≤ hi then some (unzig u, r) else none) = o := ⟨_, rfl⟩
  rw [ho]
  have HO := Lib.hid ho
  clear ho
  have hrr := h
  obtain ⟨v, hb, hs, ha, hB⟩ := h
  have h0 := hb.cell 0
  have h1 := hb.cell 1
  have h2 := hb.cell 2
  have f1 := hb.free 1
  have f2 := hb.free 2
  simp at h0 h1 h2
  have hrl : bs.length - r.length ≤ bs.length := Nat.sub_le _ _
  have HD := Lib.hid hd
  clear hd
  go_enter Try.func32, Try.ntmps32
  go_wp2_with fail
  go_region_held3 (fun w' => w'.cell? ⟨g, 0, none⟩ = some v ∧ w'.cell? ⟨g, 1, none⟩ = some (.int .i64 at_)) (first | exact ⟨h0, h1⟩) (first | (go_at_call 48; go_must (refine (group_any v bs B at_ _ ?_ ha hlen).mono ?_); go_must (exact hs.keep fun _ _ => rfl); rintro e wg ⟨he, kg, rfl⟩; rw [HD.out] at he; obtain rfl := he))
  cases f with
  | true =>
    go_wp2
    all_goals
      go_ret
      have hm := rrd_stop (W := w.drewN (1 + kg)) hrr ⟨rfl, rfl, rfl, Nat.le_refl _, fun _ _ _ => rfl⟩
      refine ⟨hm.1, ?_⟩
      first
        | exact ⟨rfl, hm.2⟩
        | (cases o <;> exact ⟨rfl, hm.2⟩)
  | false =>
    by_cases hlo : lo ≤ unzig u
    · by_cases hhi : unzig u ≤ hi
      · have ho := HO.out
        rw [if_pos ⟨hlo, hhi⟩] at ho
        subst ho
        go_wp2
        go_ret
        have hm := rrd_move (W := w.drewN (1 + kg)) hrr ⟨rfl, rfl, rfl, Nat.le_refl _, fun _ _ _ => rfl⟩ hrl
        exact ⟨hm.1, _, rfl, rfl, hm.2⟩
      · have ho := HO.out
        rw [if_neg (fun h => hhi h.2)] at ho
        subst ho
        go_wp2
        go_ret
        have hm := rrd_stop (W := w.drewN (1 + kg)) hrr ⟨rfl, rfl, rfl, Nat.le_refl _, fun _ _ _ => rfl⟩
        exact ⟨hm.1, rfl, hm.2⟩
    · have ho := HO.out
      rw [if_neg (fun h => hlo h.1)] at ho
      subst ho
      go_wp2
      go_ret
      have hm := rrd_stop (W := w.drewN (1 + kg)) hrr ⟨rfl, rfl, rfl, Nat.le_refl _, fun _ _ _ => rfl⟩
      exact ⟨hm.1, rfl, hm.2⟩

theorem refInt_any (g B at_ : Nat) (bs : List UInt8) (f : Bool) (lo hi : Int) (w : World) (h : RRd w g B bs at_ f) (hlen : bs.length ≤ 1000000000000) :
    Calls Try.prog 32 #[.pointer (some ⟨g, 0, none⟩), .int .i64 lo, .int .i64 hi] w (RefEnd (fun _ => isInt) (.int .i64 0) w g B bs at_ f (decI lo hi (bs.drop at_))) := by
  unfold decI
  cases hd : dec (bs.drop at_) with
  | none => exact refInt_none g B at_ bs f lo hi w h hlen hd
  | some p => exact refInt_some g B at_ p.1 bs p.2 f lo hi w h hlen hd

theorem RefEnd.ret {α : Type} {val : World → α → Value → Prop} {zero : Value} {w w' : World} {g B at_ : Nat} {bs : List UInt8} {f : Bool} {o : Option (α × List UInt8)} {e : Ending}
    (h : RefEnd val zero w g B bs at_ f o e w') : ∃ y, e = .returned y := by
  obtain ⟨_, h⟩ := h
  cases f with
  | true => cases o <;> exact ⟨_, h.1⟩
  | false =>
    cases o with
    | none => exact ⟨_, h.1⟩
    | some p => exact ⟨_, h.choose_spec.1⟩

def isB (n : Int) (y : Value) : Prop := y = .bool (n == 1)

set_option maxHeartbeats 800000 in
theorem refBool_any (g B at_ : Nat) (bs : List UInt8) (f : Bool) (w : World) (h : RRd w g B bs at_ f) (hlen : bs.length ≤ 1000000000000) :
    Calls Try.prog 33 #[.pointer (some ⟨g, 0, none⟩)] w (RefEnd (fun _ => isB) (.bool false) w g B bs at_ f (decI 0 1 (bs.drop at_))) := by
  obtain ⟨o, ho⟩ : ∃ o, decI 0 1 (bs.drop at_) = o := ⟨_, rfl⟩
  rw [ho]
  have HO := Lib.hid ho
  clear ho
  go_enter Try.func33, Try.ntmps33
  go_wp2_with fail
  refine (refInt_any g B at_ bs f 0 1 w h hlen).mono ?_
  intro e w1 he
  rw [HO.out] at he
  obtain ⟨hg, he⟩ := he
  cases f with
  | true =>
    have he' : e = .returned (.int .i64 0) ∧ RRd w1 g B bs at_ true := by cases o <;> exact he
    obtain ⟨rfl, hr⟩ := he'
    go_wp2
    go_ret
    exact ⟨hg, by cases o <;> exact ⟨rfl, hr⟩⟩
  | false =>
    cases o with
    | none =>
      obtain ⟨rfl, hr⟩ := he
      go_wp2
      go_ret
      exact ⟨hg, rfl, hr⟩
    | some p =>
      obtain ⟨n, r⟩ := p
      obtain ⟨y, rfl, rfl, hr⟩ := he
      go_wp2
      go_ret
      exact ⟨hg, _, rfl, rfl, hr⟩

set_option maxHeartbeats 800000 in
theorem refRest_any (g B at_ : Nat) (bs : List UInt8) (f : Bool) (w : World) (h : RRd w g B bs at_ f) (hlen : bs.length ≤ 1000000000000) :
    Calls Try.prog 14 #[.pointer (some ⟨g, 0, none⟩)] w fun e w' => e = .returned (.int .i64 (bs.drop at_).length) ∧ ∃ q, w' = w.drewN q := by
  obtain ⟨v, hb, hs, ha, hB⟩ := h
  obtain ⟨A, c, rfl⟩ := hs.form
  have h0 := hb.cell 0
  have h1 := hb.cell 1
  simp at h0 h1
  have hl2 : (((bs.drop at_).length : Nat) : Int) = (bs.length : Int) - (at_ : Int) := by rw [List.length_drop]; omega
  have HL := Lib.hid hl2
  clear hl2
  go_enter Try.func14, Try.ntmps14
  go_wp2_with fail
  go_quiet (fail)
  go_wp2
  go_ret
  exact ⟨end_int HL.out.symm, nq, rfl⟩

set_option maxHeartbeats 800000 in
theorem refDone_any (g B at_ : Nat) (bs : List UInt8) (f : Bool) (w : World) (h : RRd w g B bs at_ f) (hlen : bs.length ≤ 1000000000000) :
    Calls Try.prog 16 #[.pointer (some ⟨g, 0, none⟩)] w fun e w' => e = .returned (.int .i64 (doneVal f (bs.drop at_))) ∧ ∃ q, w' = w.drewN q := by
  have hrr := h
  obtain ⟨v, hb, hs, ha, hB⟩ := h
  have h2 := hb.cell 2
  simp at h2
  cases f with
  | true =>
    go_enter Try.func16, Try.ntmps16
    go_wp2
    go_ret
    exact ⟨end_int (by cases bs.drop at_ <;> rfl), 0, rfl⟩
  | false =>
    obtain ⟨ds, hds⟩ : ∃ ds, bs.drop at_ = ds := ⟨_, rfl⟩
    rw [hds]
    have HD := Lib.hid hds
    clear hds
    go_enter Try.func16, Try.ntmps16
    go_wp2_with fail
    refine (refRest_any g B at_ bs false w hrr hlen).mono ?_
    rintro e w1 ⟨rfl, q, rfl⟩
    rw [HD.out]
    cases ds with
    | nil =>
      go_wp2
      go_ret
      exact ⟨rfl, q, rfl⟩
    | cons c t =>
      go_wp2
      go_ret
      exact ⟨rfl, q, rfl⟩

end Go.Proofs.Ytefonoaffeahjaa
