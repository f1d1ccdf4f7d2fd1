/-
  The contracts of the methods Int, Bool, Rest and Done of wire's reader.
-/
import Derived.Test.YtefonoaffeahjaaRead
namespace Go.Proofs.Ytefonoaffeahjaa
open Go.RowKit

theorem ReadEnd.after {α : Type} {val : World → α → Value → Prop} {zero : Value} {w0 w : World} {g : Nat} {bs : List UInt8} {f : Bool} {o : Option (α × List UInt8)} {e : Ending} {w' : World}
    (h : ReadEnd val zero w g bs f o e w') (h0 : w0.grownBy w none) : ReadEnd val zero w0 g bs f o e w' := ⟨grown_trans (grown_any _ h0) h.1, h.2⟩

theorem ReadEnd.ret {α : Type} {val : World → α → Value → Prop} {zero : Value} {w : World} {g : Nat} {bs : List UInt8} {f : Bool} {o : Option (α × List UInt8)} {e : Ending} {w' : World}
    (h : ReadEnd val zero w g bs f o e w') : ∃ y, e = .returned y := by
  obtain ⟨_, h⟩ := h
  cases f with
  | true => cases o <;> exact ⟨_, h.1⟩
  | false =>
    cases o with
    | none => exact ⟨_, h.1⟩
    | some p => exact ⟨_, h.choose_spec.1⟩

set_option maxHeartbeats 800000 in
theorem method_int (g : Nat) (bs : List UInt8) (f : Bool) (lo hi : Int) (w : World) (h : Rdr w g bs f) (hlen : bs.length ≤ 1000000000000) :
    Calls Try.prog 27 #[.pointer (some ⟨g, 0, none⟩), .int .i64 lo, .int .i64 hi] w (ReadEnd (fun _ => isInt) (.int .i64 0) w g bs f (decI lo hi bs)) := by
  have hg : w.grownBy ((w.alloc (.cells #[.int .i64 lo] 3)).alloc (.cells #[.int .i64 hi] 3)) none := grown_trans (World.grownBy_alloc _ _ _) (World.grownBy_alloc _ _ _)
  have h2 := h.grown hg
  have c1 : ((w.alloc (.cells #[.int .i64 lo] 3)).alloc (.cells #[.int .i64 hi] 3)).cell? ⟨w.heap.size, 0, none⟩ = some (.int .i64 lo) := by
    rw [World.cell?_alloc_past _ _ _ (by simp), World.cell?_alloc_at _ _ _ _ rfl]; rfl
  have c2 : ((w.alloc (.cells #[.int .i64 lo] 3)).alloc (.cells #[.int .i64 hi] 3)).cell? ⟨w.heap.size + 1, 0, none⟩ = some (.int .i64 hi) := by
    rw [World.cell?_alloc_at _ _ _ _ (by simp)]; rfl
  go_enter Try.func27, Try.ntmps27
  go_wp2_with fail
  refine (intFrom_any lo hi w).mono ?_
  rintro e w1 ⟨rfl, rfl⟩
  go_wp2_with fail
  cases f with
  | true =>
    refine (readInt_failed g bs _ _ h2).mono ?_
    rintro e w1 ⟨rfl, rfl⟩
    go_wp2
    go_ret
    exact ⟨grown_any _ hg, rfl, h2⟩
  | false =>
    refine (readInt_any g _ _ bs lo hi _ h2 hlen c1 c2).mono ?_
    intro e w1 he
    have he2 := he.after hg
    clear he
    obtain ⟨y, rfl⟩ := he2.ret
    go_wp2
    go_ret
    exact he2

set_option maxHeartbeats 800000 in
theorem rest_any (g : Nat) (bs : List UInt8) (f : Bool) (w : World) (h : Rdr w g bs f) :
    Calls Try.prog 13 #[.pointer (some ⟨g, 0, none⟩)] w fun e w' => e = .returned (.int .i64 bs.length) ∧ w = w' := by
  obtain ⟨v, hb, hs⟩ := h
  obtain ⟨A, c, rfl⟩ := hs.form
  have h0 := hb.cell 0
  simp at h0
  go_enter Try.func13, Try.ntmps13
  go_wp2
  go_ret
  exact ⟨rfl, rfl⟩

def doneVal : Bool → List UInt8 → Int
  | false, [] => 0
  | _, _ => 5

set_option maxHeartbeats 800000 in
theorem done_any (g : Nat) (bs : List UInt8) (f : Bool) (w : World) (h : Rdr w g bs f) :
    Calls Try.prog 15 #[.pointer (some ⟨g, 0, none⟩)] w fun e w' => e = .returned (.int .i64 (doneVal f bs)) ∧ w = w' := by
  obtain ⟨v, hb, hs⟩ := h
  obtain ⟨A, c, rfl⟩ := hs.form
  have h0 := hb.cell 0
  have h1 := hb.cell 1
  simp at h0 h1
  cases f with
  | true =>
    go_enter Try.func15, Try.ntmps15
    go_wp2
    go_ret
    exact ⟨rfl, rfl⟩
  | false =>
    cases bs with
    | nil =>
      go_enter Try.func15, Try.ntmps15
      go_wp2
      go_ret
      exact ⟨rfl, rfl⟩
    | cons b0 t =>
      obtain ⟨n, hn⟩ : ∃ n, (b0 :: t).length = n := ⟨_, rfl⟩
      have hp : (0 : Int) < (n : Int) := by rw [← hn]; simp
      rw [hn] at h0
      clear hn hb hs
      go_enter Try.func15, Try.ntmps15
      go_wp2
      go_ret
      exact ⟨rfl, rfl⟩

end Go.Proofs.Ytefonoaffeahjaa
