/-
  The decoders that wire makes: what they captured.
-/
import Derived.Test.YtefonoaffeahjaaAwake
import Derived.Laws.EntriesVeiled
namespace Go.Proofs.Ytefonoaffeahjaa
open Go.RowKit

def IntDec (w : World) (lo hi : Int) (fv : Value) : Prop :=
  ∃ g1 g2, fv = .func (.func 50) #[] #[.pointer (some ⟨g1, 0, none⟩), .pointer (some ⟨g2, 0, none⟩)] ∧ w.cell? ⟨g1, 0, none⟩ = some (.int .i64 lo) ∧ w.cell? ⟨g2, 0, none⟩ = some (.int .i64 hi)
def TextDec (w : World) (mx : Int) (fv : Value) : Prop :=
  ∃ g fi, fv = .func (.func 54) #[] #[.pointer (some ⟨g, 0, none⟩)] ∧ w.cell? ⟨g, 0, none⟩ = some fi ∧ IntDec w 0 mx fi
def ListDec (fn : Nat) (el : World → Value → Prop) (w : World) (mx : Int) (fv : Value) : Prop :=
  ∃ g ge fi fe, fv = .func (.func fn) #[] #[.pointer (some ⟨g, 0, none⟩), .pointer (some ⟨ge, 0, none⟩)] ∧ w.cell? ⟨g, 0, none⟩ = some fi ∧ IntDec w 0 mx fi ∧ w.cell? ⟨ge, 0, none⟩ = some fe ∧ el w fe

theorem cell_grown {w w' : World} {a : Addr} {v : Value} (h : w.cell? a = some v) (hg : w.grownBy w' none) : w'.cell? a = some v := hg.cell h (by simp)

theorem IntDec.grown {w w' : World} {lo hi : Int} {fv : Value} (h : IntDec w lo hi fv) (hg : w.grownBy w' none) : IntDec w' lo hi fv := by
  obtain ⟨g1, g2, e, h1, h2⟩ := h
  exact ⟨g1, g2, e, cell_grown h1 hg, cell_grown h2 hg⟩
theorem TextDec.grown {w w' : World} {mx : Int} {fv : Value} (h : TextDec w mx fv) (hg : w.grownBy w' none) : TextDec w' mx fv := by
  obtain ⟨g, fi, e, h1, h2⟩ := h
  exact ⟨g, fi, e, cell_grown h1 hg, h2.grown hg⟩

theorem hmf (fn : Fn) (first cap : Array Value) (w : World) : (Instr.makeFunc fn first cap).run Try.prog w = .ok (.func fn first cap) w := rfl

theorem intFrom_dec (lo hi : Int) (w : World) :
    Calls Try.prog 42 #[.int .i64 lo, .int .i64 hi] w fun e w' => ∃ fv, e = .returned fv ∧ IntDec w' lo hi fv ∧ w.grownBy w' none := by
  refine (intFrom_any lo hi w).mono ?_
  rintro e w1 ⟨rfl, rfl⟩
  refine ⟨_, rfl, ⟨_, _, rfl, ?_, ?_⟩, grown_trans (World.grownBy_alloc _ _ _) (World.grownBy_alloc _ _ _)⟩
  · rw [World.cell?_alloc_past _ _ _ (by simp), World.cell?_alloc_at _ _ _ _ rfl]; rfl
  · rw [World.cell?_alloc_at _ _ _ _ (by simp)]; rfl

set_option maxHeartbeats 800000 in
theorem textOf_dec (mx : Int) (w : World) :
    Calls Try.prog 45 #[.int .i64 mx] w fun e w' => ∃ fv, e = .returned fv ∧ TextDec w' mx fv ∧ w.grownBy w' none := by
  have hm := hmf
  go_enter Try.func45, Try.ntmps45
  go_wp2_with fail
  refine (intFrom_dec 0 mx w).mono ?_
  rintro e w1 ⟨fv, rfl, hd, hg⟩
  obtain ⟨g1, g2, hfv, h1, h2⟩ := hd
  rw [hfv]
  go_wp2
  go_ret
  refine ⟨_, rfl, ⟨w1.heap.size, _, rfl, ?_, IntDec.grown ⟨g1, g2, rfl, h1, h2⟩ (World.grownBy_alloc _ _ _)⟩, grown_trans hg (World.grownBy_alloc _ _ _)⟩
  rw [World.cell?_alloc_at _ _ _ _ rfl]; rfl

set_option maxHeartbeats 800000 in
theorem listInt_dec (mx lo hi : Int) (fe : Value) (w : World) (he : IntDec w lo hi fe) :
    Calls Try.prog 41 #[.int .i64 mx, fe] w fun e w' => ∃ fv, e = .returned fv ∧ ListDec 49 (fun w => IntDec w lo hi) w' mx fv ∧ w.grownBy w' none := by
  have hm := hmf
  have he' := he
  obtain ⟨e1, e2, rfl, _, _⟩ := he'
  go_enter Try.func41, Try.ntmps41
  go_wp2_with fail
  refine (intFrom_dec 0 mx _).mono ?_
  rintro e w1 ⟨fv, rfl, hd, hg⟩
  obtain ⟨g1, g2, hfv, h1, h2⟩ := hd
  rw [hfv]
  go_wp2
  go_ret
  have hge := cell_grown (show (w.alloc (.cells #[_] _)).cell? ⟨w.heap.size, 0, none⟩ = some _ from by rw [World.cell?_alloc_at _ _ _ _ rfl]; rfl) hg
  refine ⟨_, rfl, ⟨w1.heap.size, w.heap.size, _, _, rfl, ?_, IntDec.grown ⟨g1, g2, rfl, h1, h2⟩ (World.grownBy_alloc _ _ _), cell_grown hge (World.grownBy_alloc _ _ _), ?_⟩, grown_trans (World.grownBy_alloc _ _ _) (grown_trans hg (World.grownBy_alloc _ _ _))⟩
  · rw [World.cell?_alloc_at _ _ _ _ rfl]; rfl
  · exact he.grown (grown_trans (World.grownBy_alloc _ _ _) (grown_trans hg (World.grownBy_alloc _ _ _)))

set_option maxHeartbeats 800000 in
theorem listText_dec (mx long : Int) (fe : Value) (w : World) (he : TextDec w long fe) :
    Calls Try.prog 44 #[.int .i64 mx, fe] w fun e w' => ∃ fv, e = .returned fv ∧ ListDec 53 (fun w => TextDec w long) w' mx fv ∧ w.grownBy w' none := by
  have hm := hmf
  have he' := he
  obtain ⟨e1, e2, rfl, _, _⟩ := he'
  go_enter Try.func44, Try.ntmps44
  go_wp2_with fail
  refine (intFrom_dec 0 mx _).mono ?_
  rintro e w1 ⟨fv, rfl, hd, hg⟩
  obtain ⟨g1, g2, hfv, h1, h2⟩ := hd
  rw [hfv]
  go_wp2
  go_ret
  have hge := cell_grown (show (w.alloc (.cells #[_] _)).cell? ⟨w.heap.size, 0, none⟩ = some _ from by rw [World.cell?_alloc_at _ _ _ _ rfl]; rfl) hg
  refine ⟨_, rfl, ⟨w1.heap.size, w.heap.size, _, _, rfl, ?_, IntDec.grown ⟨g1, g2, rfl, h1, h2⟩ (World.grownBy_alloc _ _ _), cell_grown hge (World.grownBy_alloc _ _ _), ?_⟩, grown_trans (World.grownBy_alloc _ _ _) (grown_trans hg (World.grownBy_alloc _ _ _))⟩
  · rw [World.cell?_alloc_at _ _ _ _ rfl]; rfl
  · exact he.grown (grown_trans (World.grownBy_alloc _ _ _) (grown_trans hg (World.grownBy_alloc _ _ _)))

end Go.Proofs.Ytefonoaffeahjaa
