/-
  The contracts of wire's reader of an integer.
-/
import Derived.Test.YtefonoaffeahjaaDec2
namespace Go.Proofs.Ytefonoaffeahjaa
open Go.RowKit

/-- Block g is a reader that has the bytes bs before it; f: it has failed. -/
def Rdr (w : World) (g : Nat) (bs : List UInt8) (f : Bool) : Prop := ∃ v, Box w g 61 #[v, .bool f] ∧ Sl w g v bs

theorem Rdr.grown {w w' : World} {g : Nat} {bs : List UInt8} {f : Bool} (h : Rdr w g bs f) (hg : w.grownBy w' none) : Rdr w' g bs f := by
  obtain ⟨v, hb, hs⟩ := h
  exact ⟨v, hb.grown hg (by simp), hs.grown hg (Nat.le_of_lt hb.lt) (by simp)⟩

/-- What a read method hands back and what it does to the reader. -/
def ReadEnd {α : Type} (val : World → α → Value → Prop) (zero : Value) (w : World) (g : Nat) (bs : List UInt8) (f : Bool) (o : Option (α × List UInt8)) (e : Ending) (w' : World) : Prop :=
  w.grownBy w' (some g) ∧
  match f, o with
  | false, some (x, r) => ∃ y, e = .returned y ∧ val w' x y ∧ Rdr w' g r false
  | _, _ => e = .returned zero ∧ Rdr w' g bs true

theorem grown_drewN (w : World) (n : Nat) (row : Option Nat) : w.grownBy (w.drewN n) row := ⟨rfl, rfl, rfl, Nat.le_refl _, fun _ _ _ => rfl⟩
theorem grown_put (w : World) (g i : Nat) (v : Value) : w.grownBy (w.setCell ⟨g, i, none⟩ v) (some g) :=
  ⟨rfl, rfl, rfl, by simp [World.setCell], fun k _ hk => Below.heap_setCell _ _ _ _ (by intro e; subst e; exact hk rfl)⟩

theorem rdr_moved {w : World} {g : Nat} {v v' : Value} {bs : List UInt8} (k : Nat) (hb : Box w g 61 #[v, .bool false]) (hs : Sl w g v' bs) :
    w.grownBy ((w.drewN k).setCell ⟨g, 0, none⟩ v') (some g) ∧ Rdr ((w.drewN k).setCell ⟨g, 0, none⟩ v') g bs false := by
  refine ⟨grown_trans (grown_drewN w k _) (grown_put _ g 0 v'), v', (hb.drewN k).put 0 v', ?_⟩
  exact hs.keep fun p hp => (World.cell?_setCell_other (w.drewN k) ⟨g, 0, none⟩ p v' (fun e => by subst e; simp at hp))

theorem rdr_stopped {w : World} {g : Nat} {v : Value} {bs : List UInt8} (k : Nat) (hb : Box w g 61 #[v, .bool false]) (hs : Sl w g v bs) :
    w.grownBy ((w.drewN k).setCell ⟨g, 1, none⟩ (.bool true)) (some g) ∧ Rdr ((w.drewN k).setCell ⟨g, 1, none⟩ (.bool true)) g bs true := by
  refine ⟨grown_trans (grown_drewN w k _) (grown_put _ g 1 _), v, (hb.drewN k).put 1 _, ?_⟩
  exact hs.keep fun p hp => (World.cell?_setCell_other (w.drewN k) ⟨g, 1, none⟩ p _ (fun e => by subst e; simp at hp))

set_option maxHeartbeats 800000 in
theorem readInt_failed (g : Nat) (bs : List UInt8) (fv : Value) (w : World) (h : Rdr w g bs true) :
    Calls Try.prog 46 #[.pointer (some ⟨g, 0, none⟩), fv] w fun e w' => e = .returned (.int .i64 0) ∧ w = w' := by
  obtain ⟨v, hb, hs⟩ := h
  have h1 := hb.cell 1
  simp at h1
  go_enter Try.func46, Try.ntmps46
  go_wp2
  go_ret
  exact ⟨rfl, rfl⟩

set_option maxHeartbeats 800000 in
theorem readInt_any (g g1 g2 : Nat) (bs : List UInt8) (lo hi : Int) (w : World) (h : Rdr w g bs false) (hlen : bs.length ≤ 1000000000000)
    (c1 : w.cell? ⟨g1, 0, none⟩ = some (.int .i64 lo)) (c2 : w.cell? ⟨g2, 0, none⟩ = some (.int .i64 hi)) :
    Calls Try.prog 46 #[.pointer (some ⟨g, 0, none⟩), .func (.func 50) #[] #[.pointer (some ⟨g1, 0, none⟩), .pointer (some ⟨g2, 0, none⟩)]] w
      (ReadEnd (fun _ => isInt) (.int .i64 0) w g bs false (decI lo hi bs)) := by
  obtain ⟨v, hb, hs⟩ := h
  have h0 := hb.cell 0
  have h1 := hb.cell 1
  simp at h0 h1
  have f0 := hb.free 0
  have f1 := hb.free 1
  obtain ⟨o, ho⟩ : ∃ o, decI lo hi bs = o := ⟨_, rfl⟩
  have HO := Lib.hid ho
  rw [ho]
  clear ho
  go_enter Try.func46, Try.ntmps46
  go_wp2_with fail
  refine (intDec_any v bs g g1 g2 lo hi _ hs hlen c1 c2).mono ?_
  rintro e w1 ⟨he, k, rfl⟩
  rw [HO.out] at he
  cases o with
  | none =>
    obtain ⟨y, v', rfl⟩ := he
    go_wp2
    go_ret
    have hm := rdr_stopped k hb hs
    exact ⟨hm.1, rfl, hm.2⟩
  | some p =>
    obtain ⟨y, v', rfl, hy, hs'⟩ := he
    obtain ⟨A', c', hv'⟩ := hs'.form
    rw [hv'] at hs' ⊢
    go_wp2
    go_ret
    have hm := rdr_moved k hb hs'
    exact ⟨hm.1, _, rfl, hy, hm.2⟩

end Go.Proofs.Ytefonoaffeahjaa
