/-
  What a method of one reader leaves alone: other readers, rows of bytes, of integers and of texts.
-/
import Derived.Test.YtefonoaffeahjaaEncs
namespace Go.Proofs.Ytefonoaffeahjaa
open Go.RowKit

theorem Sl.other {w w' : World} {B g : Nat} {v : Value} {bs bs1 : List UInt8} {f1 : Bool} (h : Sl w B v bs) (hr : Rdr w g bs1 f1) (hg : w.grownBy w' (some g)) (hB : B ≤ w.heap.size) : Sl w' B v bs := by
  rcases h with h | ⟨a, c, e, hl, hb, hc⟩
  · exact .inl h
  · refine .inr ⟨a, c, e, hl, hb, fun i u hu => ?_⟩
    have hcell := hc i u hu
    refine (World.cell?_of_block (hg.block (a.add i).block (by rw [add_block]; have := hb (by have := (List.getElem?_eq_some_iff.1 hu).1; omega); omega) (fun e2 => ?_))).trans hcell
    injection e2 with e2
    obtain ⟨v1, hbox, hs1⟩ := hr
    obtain ⟨A1, c1, rfl⟩ := hs1.form
    have hspot : (a.add i).spot = none := World.cell?_spot hcell
    have he : a.add i = ⟨g, (a.add i).off, none⟩ := by
      cases hA : a.add i with
      | mk b o s => rw [hA] at e2 hspot; simp at e2 hspot; subst e2 hspot; rfl
    rw [he, hbox.cell] at hcell
    cases ho : (a.add i).off with
    | zero => rw [ho] at hcell; simp [bv] at hcell
    | succ o =>
      rw [ho] at hcell
      cases o with
      | zero => simp [bv] at hcell
      | succ o => simp at hcell

theorem Rdr.other {w w' : World} {g g1 : Nat} {bs bs1 : List UInt8} {f f1 : Bool} (h : Rdr w g bs f) (hr : Rdr w g1 bs1 f1) (hg : w.grownBy w' (some g1)) (hne : g ≠ g1) : Rdr w' g bs f := by
  obtain ⟨v, hb, hs⟩ := h
  exact ⟨v, hb.grown hg (by intro e; injection e with e; exact hne e), hs.other hr hg (Nat.le_of_lt hb.lt)⟩

theorem Rdr.lt {w : World} {g : Nat} {bs : List UInt8} {f : Bool} (h : Rdr w g bs f) : g < w.heap.size := by
  obtain ⟨v, hb, _⟩ := h
  exact hb.lt

theorem own_other {w w' : World} {base T g n : Nat} {v : Value} {xs : List Value} {bs1 : List UInt8} {f1 : Bool} (h : w.ownsRow base T 1 v n xs) (hr : Rdr w g bs1 f1) (hT : T ≠ 61) (hg : w.grownBy w' (some g)) : w'.ownsRow base T 1 v n xs := by
  refine h.kept hg (.inr fun he => ?_)
  obtain ⟨v1, hbox, _⟩ := hr
  rcases h.2 with ⟨rfl, _⟩ | ⟨g', cap, cur, rfl, _, hh, _⟩
  · simp [Value.ownBlock] at he
  · have : g' = g := by simpa [Value.ownBlock] using he
    subst this
    unfold Box at hbox
    rw [hh] at hbox
    injection hbox with hbox
    injection hbox with _ ht
    exact hT ht

theorem doneVal_two (f : Bool) (r : List UInt8) : (doneVal f r = 0 ∧ f = false ∧ r = []) ∨ doneVal f r = 5 := by
  cases f with
  | true => exact .inr (by cases r <;> rfl)
  | false =>
    cases r with
    | nil => exact .inl ⟨rfl, rfl, rfl⟩
    | cons c t => exact .inr rfl

/-- What is known of an integer that was read, and of the reader. -/
theorem ReadEnd.int {w w' : World} {g : Nat} {bs : List UInt8} {lo hi : Int} {e : Ending} (h : ReadEnd (fun _ => isInt) (.int .i64 0) w g bs false (decI lo hi bs) e w') :
    ∃ n r f, e = .returned (.int .i64 n) ∧ -9223372036854775808 ≤ n ∧ n ≤ 9223372036854775807 ∧ Rdr w' g r f ∧ w.grownBy w' (some g) ∧ (doneVal f r = 0 → bs = encI n) := by
  obtain ⟨hg, h⟩ := h
  cases ho : decI lo hi bs with
  | none =>
    rw [ho] at h
    exact ⟨0, bs, true, h.1, by omega, by omega, h.2, hg, fun hd => by cases bs <;> cases hd⟩
  | some p =>
    obtain ⟨n, r⟩ := p
    rw [ho] at h
    obtain ⟨y, rfl, rfl, hr⟩ := h
    obtain ⟨hb, _, _, h0, h1⟩ := decI_canon ho
    refine ⟨n, r, false, rfl, h0, h1, hr, hg, fun hd => ?_⟩
    cases r with
    | nil => rw [hb, List.append_nil]
    | cons c t => cases hd

theorem ReadEnd.list {α : Type} {el : List UInt8 → Option (α × List UInt8)} {e : α → List UInt8} {good : α → Prop} (hel : ∀ x bs r, el bs = some (x, r) → bs = e x ++ r ∧ good x)
    {T : TypeId} {val : α → Value} {w w' : World} {g : Nat} {bs : List UInt8} {mx : Int} {en : Ending} (h : ReadEnd (isRow T val w.heap.size) (.slice none 0 0) w g bs false (decList el mx bs) en w') :
    ∃ y xs r f, en = .returned y ∧ w'.ownsRow w.heap.size T 1 y xs.length (xs.map val) ∧ (∀ x ∈ xs, good x) ∧ Rdr w' g r f ∧ w.grownBy w' (some g) ∧ (doneVal f r = 0 → bs = encList e xs) := by
  obtain ⟨hg, h⟩ := h
  cases ho : decList el mx bs with
  | none =>
    rw [ho] at h
    exact ⟨_, [], bs, true, h.1, World.ownsRow_nil _ _ _ _, by simp, h.2, hg, fun hd => by cases bs <;> cases hd⟩
  | some p =>
    obtain ⟨xs, r⟩ := p
    rw [ho] at h
    obtain ⟨y, rfl, hy, hr⟩ := h
    obtain ⟨hb, _, hgood⟩ := decList_canon hel ho
    refine ⟨y, xs, r, false, rfl, hy, hgood, hr, hg, fun hd => ?_⟩
    cases r with
    | nil => rw [hb, List.append_nil]
    | cons c t => cases hd

theorem good_int {lo hi : Int} (x : Int) (bs r : List UInt8) (h : decI lo hi bs = some (x, r)) : bs = encI x ++ r ∧ (-9223372036854775808 ≤ x ∧ x ≤ 9223372036854775807) := by
  obtain ⟨h1, _, _, h2, h3⟩ := decI_canon h
  exact ⟨h1, h2, h3⟩
theorem good_text {mx : Int} (x : List UInt8) (bs r : List UInt8) (h : decT mx bs = some (x, r)) : bs = encT x ++ r ∧ True := ⟨(decT_canon h).1, trivial⟩

theorem enc_pos (x : Int) : 1 ≤ (encI x).length := by
  unfold encI enc
  rw [List.length_append]
  simp
theorem encT_pos (x : List UInt8) : 1 ≤ (encT x).length := by
  unfold encT
  rw [List.length_append]
  have := enc_pos x.length
  omega
theorem encs_count {α : Type} (e : α → List UInt8) (he : ∀ x, 1 ≤ (e x).length) : ∀ xs : List α, xs.length ≤ (encList e xs).length := by
  have h : ∀ xs : List α, xs.length ≤ (encs e xs).length := by
    intro xs
    induction xs with
    | nil => simp
    | cons x xs ih =>
      rw [encs, List.length_append, List.length_cons]
      have := he x
      omega
  intro xs
  unfold encList
  rw [List.length_append]
  have := h xs
  omega

end Go.Proofs.Ytefonoaffeahjaa
