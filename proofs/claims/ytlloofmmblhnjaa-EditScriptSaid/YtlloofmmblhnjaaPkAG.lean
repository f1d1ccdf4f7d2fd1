/-
  A region that draws its order, whose own operations only read, and whose callees
  may do whatever leaves the blocks that were there as they were: one walk, by the
  kit's theorem over whatever class of worlds, at the class 'the blocks that were
  there stand as they stood'.
  The program's first row, and what a row holds.
  The program's next row.
-/
import Derived.Test.YtlloofmmblhnjaaWords
import Derived.Deep.QuietTactic
import Derived.Test.YtlloofmmblhnjaaPkAF
import Derived.Deep.RegionHeld3
import Derived.BigRegion
namespace Go.Proofs.Ytlloofmmblhnjaa
open Go.RowKit

/-- How a world of the class differs from the one at hand: what was drawn, the blocks behind. -/
structure Reach where
  d : Nat
  os : Array Obj

instance : Inhabited Reach := ⟨⟨0, #[]⟩⟩

def reach (w : World) (p : Reach) : World := { w with heap := w.heap ++ p.os, drawn := p.d }

theorem below_reach (w : World) (p : Reach) : Below w.heap.size w (reach w p) :=
  ⟨rfl, rfl, rfl, by show w.heap.size ≤ (w.heap ++ p.os).size; rw [Array.size_append]; omega, fun i hi => by
    show (w.heap ++ p.os)[i]? = w.heap[i]?
    rw [Array.getElem?_append_left hi]⟩

theorem reach_of_below {w w' : World} (h : Below w.heap.size w w') : ∃ p : Reach, w' = reach w p := by
  refine ⟨⟨w'.drawn, w'.heap.extract w.heap.size w'.heap.size⟩, ?_⟩
  have hh : w'.heap = w.heap ++ w'.heap.extract w.heap.size w'.heap.size := by
    apply Array.ext_getElem?
    intro i
    by_cases hi : i < w.heap.size
    · rw [Array.getElem?_append_left hi]; exact h.block i hi
    · rw [Array.getElem?_append_right (by omega), Array.getElem?_extract]
      have := h.size
      by_cases hj : i < w'.heap.size
      · rw [if_pos (by omega)]; congr 1; omega
      · rw [if_neg (by omega)]; exact Array.getElem?_eq_none (by omega)
  have ho := h.os; have ht := h.tape; have hp := h.output
  cases w'; cases w
  simp only at ho ht hp hh
  subst ho ht hp
  show World.mk _ _ _ _ _ = World.mk _ _ _ _ _
  congr 1

theorem cell_reach {w : World} {a : Addr} {v : Value} (hb : a.block < w.heap.size) (h : w.cell? a = some v) (p : Reach) : (reach w p).cell? a = some v :=
  ((below_reach w p).cell hb).trans h

theorem wp_region_reach {P : Program} {id : Nat} {Q : Exit → Act → World → Prop} {a : Act} {w : World} {l : List Oper} (hm : P.follows .mixedOrders = true) (hB : Region.lexB .any l.toArray = true)
    (h : wpQuiet P l.toArray (fun w' => ∃ p : Reach, w' = reach w p) (fun a' => ∀ w', (∃ p : Reach, w' = reach w p) → Q .normal a' w') l a) : (Code.region id l.toArray true).wp P Q a w :=
  wp_region_quiet (C := fun w' => ∃ p : Reach, w' = reach w p) hm hB (reach_of_below ⟨rfl, rfl, rfl, Nat.le_refl _, fun _ _ => rfl⟩) (by simpa using h)

theorem calls_reach {P : Program} {f : FuncId} {args : Array Value} {w : World} {p : Reach} {v : Value}
    (h : Calls P f args (reach w p) fun e w' => e = .returned v ∧ Below (reach w p).heap.size (reach w p) w') : Calls P f args (reach w p) fun e w'' => e = .returned v ∧ ∃ p : Reach, w'' = reach w p :=
  h.mono fun _ _ ⟨he, hq⟩ => ⟨he, reach_of_below (below_next (below_reach w p) hq)⟩

end Go.Proofs.Ytlloofmmblhnjaa

namespace Go.Proofs.Ytlloofmmblhnjaa
open Go.RowKit

/-! The rows as lists. -/
def rowLo (a b : List Int) (most c : Int) : Int := max (enZ a b - c) (c - most)
def rowN (a b : List Int) (most c : Int) : Nat := (min (enZ a b + c) (most - c) - rowLo a b most c + 1).toNat
def rowL (a b : List Int) (T : Nat → Nat → Nat) (most c : Int) : List Int := (List.range (rowN a b most c)).map fun t : Nat => plc a b T c (rowLo a b most c + (t : Int))
theorem rowL_len (a b : List Int) (T : Nat → Nat → Nat) (most c : Int) : (rowL a b T most c).length = rowN a b most c := by unfold rowL; simp
theorem rowL_at {a b : List Int} {T : Nat → Nat → Nat} {most c : Int} {t : Nat} (h : t < rowN a b most c) : (rowL a b T most c)[t]? = some (plc a b T c (rowLo a b most c + (t : Int))) := by
  unfold rowL
  rw [List.getElem?_map, List.getElem?_range h]
  rfl
/-- Within what is left of the cost, a row tells all. -/
theorem rowAt_val {a b : List Int} {T : Nat → Nat → Nat} {most c d : Int} (h1 : -(most - c) ≤ d) (h2 : d ≤ most - c) : rowAt (rowL a b T most c) (rowLo a b most c) d = plc a b T c d := by
  unfold rowAt
  by_cases hd : dz (enZ a b - d) ≤ c
  · have hl : rowLo a b most c ≤ d := by unfold rowLo; unfold dz at hd; omega
    have hh : (d - rowLo a b most c).toNat < rowN a b most c := by unfold rowN; unfold rowLo at *; unfold dz at hd; omega
    rw [if_pos (by omega), rowL_at hh, Option.getD_some, show rowLo a b most c + (((d - rowLo a b most c).toNat : Nat) : Int) = d by omega]
  · rw [plc_never hd]
    split
    · have hh : rowN a b most c ≤ (d - rowLo a b most c).toNat := by
        rename_i hr
        unfold rowN; unfold rowLo at *; unfold dz at hd; omega
      rw [List.getElem?_eq_none (by rw [rowL_len]; exact hh), Option.getD_none]
    · rfl
theorem row_zero {a b : List Int} (T : Nat → Nat → Nat) {most : Int} (h : dz (enZ a b) ≤ most) : rowLo a b most 0 = enZ a b ∧ rowN a b most 0 = 1 ∧ rowL a b T most 0 = [plc a b T 0 (enZ a b)] := by
  have h1 : rowLo a b most 0 = enZ a b := by unfold rowLo; unfold dz at h; omega
  have h2 : rowN a b most 0 = 1 := by unfold rowN; rw [h1]; unfold dz at h; omega
  refine ⟨h1, h2, ?_⟩
  unfold rowL
  rw [h1, h2]
  simp

/-- The lists of a row's values in a block. -/
def RowB (w : World) (B : Nat) (l : List Int) : Prop := Box w B 3 (l.map iv).toArray
theorem RowB.arr {w : World} {B n : Nat} {l : List Int} (h : RowB w B l) (hn : l.length = n) : Arr iv w (B + 1) (.slice (some ⟨B, 0, none⟩) n n) l :=
  Arr.of_box h hn (Nat.le_refl _) fun i u hu => by simp [hu]
theorem RowB.lt {w : World} {B : Nat} {l : List Int} (h : RowB w B l) : B < w.heap.size := Box.lt h
theorem RowB.arr' {w : World} {B n : Nat} {l : List Int} (h : RowB w B l) (hn : l.length = n) : Arr iv w w.heap.size (.slice (some ⟨B, 0, none⟩) n n) l := (h.arr hn).more h.lt
theorem RowB.keep {w w' : World} {B : Nat} {l : List Int} (h : RowB w B l) (hk : w'.heap[B]? = w.heap[B]?) : RowB w' B l := hk.trans h

set_option maxRecDepth 20000 in
set_option maxHeartbeats 6400000 in
theorem first_any (A A' : Option Addr) (n c m c' : Nat) (R most : Int) (a b : List Int) (w : World) (h : Arr iv w w.heap.size (.slice A n c) a) (h' : Arr iv w w.heap.size (.slice A' m c') b)
    (hn : n ≤ 100000) (hm : m ≤ 100000) :
    Calls Try.prog 35 #[.agg #[.slice A n c, .slice A' m c', .int .i64 R, .int .i64 most]] w fun e w' => ∃ B : Nat,
      e = .returned (.agg #[.int .i64 0, .int .i64 (enZ a b), .slice (some ⟨B, 0, none⟩) 1 1]) ∧ w.heap.size ≤ B ∧ RowB w' B [(extE a b (enZ a b) a.length : Int)] ∧ Below w.heap.size w w' := by
  have hla := h.len
  have hlb := h'.len
  have HX : Hid (∀ W, Below w.heap.size w W → Calls Try.prog 45 #[.agg #[.slice A n c, .slice A' m c', .int .i64 R, .int .i64 most], .int .i64 (n : Int), .int .i64 ((m : Int) - (n : Int))] W fun e w' => e = .returned (.int .i64 (extE a b ((m : Int) - (n : Int)) n : Int)) ∧ Below W.heap.size W w') :=
    Lib.hid fun W hW => extend_any A A' n c m c' R most _ n a b W (h.up hW) (h'.up hW) (by omega) (by omega) (by omega) (by omega) (by omega) (by omega) (by omega)
  obtain ⟨e, he⟩ : ∃ e, (m : Int) - (n : Int) = e := ⟨_, rfl⟩
  have hen : enZ a b = e := by unfold enZ; omega
  rw [hen, hla]
  rw [he] at HX
  have we : IntKind.i64.wrap e = e := wraps_i64 _ (by omega) (by omega)
  obtain ⟨E, hE⟩ : ∃ E, extE a b e n = E := ⟨_, rfl⟩
  rw [hE] at HX ⊢
  have k2 : Below w.heap.size w ((w.alloc (.cells #[.slice A n c, .slice A' m c', .int .i64 R, .int .i64 most] 52)).alloc (.cells #[.int .i64 0, .int .i64 0, .slice none 0 0] 57)) :=
    ((Below.refl _ w).alloc (Nat.le_refl _) _).alloc (by simp) _
  have hbx := (Box.made w 52 #[.slice A n c, .slice A' m c', .int .i64 R, .int .i64 most]).alloc (.cells #[.int .i64 0, .int .i64 0, .slice none 0 0] 57)
  have b0 := hbx.cell 0
  have b1 := hbx.cell 1
  have b2 := hbx.cell 2
  have b3 := hbx.cell 3
  simp only [List.getElem?_toArray] at b0 b1 b2 b3
  have hrx := Box.made (w.alloc (.cells #[.slice A n c, .slice A' m c', .int .i64 R, .int .i64 most] 52)) 57 #[.int .i64 0, .int .i64 0, .slice none 0 0]
  rw [World.size_alloc] at hrx
  clear h h' hla hlb hen hE hbx
  go_enter Try.func35, Try.ntmps35
  go_wp2_with fail
  refine (HX.out _ k2).mono ?_
  rintro e1 w3 ⟨rfl, k3⟩
  have hrx3 := hrx.below k3 (by simp)
  have hs3 := k3.size
  have ks3 : w.heap.size + 2 ≤ w3.heap.size := by simpa using hs3
  have k3' := k2.trans (k3.mono k2.size)
  have hrx4 := hrx3.alloc (.cells #[.int .i64 (E : Int)] 3)
  have hnew : RowB (w3.alloc (.cells #[.int .i64 (E : Int)] 3)) w3.heap.size [(E : Int)] := Box.made _ _ _
  have k4 := below_new k3' (.cells #[.int .i64 (E : Int)] 3)
  have c0 := hrx4.cell 0
  have c1 := hrx4.cell 1
  have c2 := hrx4.cell 2
  have f0 := hrx4.free 0
  have f1 := hrx4.free 1
  have f2 := hrx4.free 2
  simp only [List.getElem?_toArray] at c0 c1 c2
  clear b0 b1 b2 b3 hrx hrx3 k3 k3'
  generalize (World.alloc (World.alloc w _) _) = w2 at *
  go_wp2
  have hp := ((hrx4.put 0 (.int .i64 0)).put 1 (.int .i64 e)).put 2 (.slice (some ⟨w3.heap.size, 0, none⟩) 1 1)
  have hn1 := ((Box.put_other (p := ⟨w.heap.size + 1, 0, none⟩) hnew (.int .i64 0) (by simp; omega)).put_other (p := ⟨w.heap.size + 1, 1, none⟩) (.int .i64 e) (by simp; omega)).put_other (p := ⟨w.heap.size + 1, 2, none⟩) (.slice (some ⟨w3.heap.size, 0, none⟩) 1 1) (by simp; omega)
  have kf := ((k4.setCell (p := ⟨w.heap.size + 1, 0, none⟩) (by simp) (.int .i64 0)).setCell (p := ⟨w.heap.size + 1, 1, none⟩) (by simp) (.int .i64 e)).setCell (p := ⟨w.heap.size + 1, 2, none⟩) (by simp) (.slice (some ⟨w3.heap.size, 0, none⟩) 1 1)
  have d0 := hp.cell 0
  have d1 := hp.cell 1
  have d2 := hp.cell 2
  simp at d0 d1 d2
  refine bodyPost_ret (v := .agg #[.int .i64 0, .int .i64 e, .slice (some ⟨w3.heap.size, 0, none⟩) 1 1]) (by simp [results, Try.results35, go_sem, d0, d1, d2]) rfl ?_
  exact ⟨_, rfl, by omega, hn1, kf⟩

end Go.Proofs.Ytlloofmmblhnjaa

namespace Go.Proofs.Ytlloofmmblhnjaa
open Go.RowKit

theorem min3_Z {P : Program} (w : World) (ts : Array TypeId) (t : TypeId) (x y z v : Int) (h : min (min x y) z = v) :
    (Builtin.min_ ts t #[.int .i64 x, .int .i64 y, .int .i64 z]).run P w = .ok (.int .i64 v) w := by
  have e2 : ∀ p q : Int, (Builtin.min2 (.int .i64 p) (.int .i64 q)).run P w = .ok (.int .i64 (min p q)) w := fun p q => by
    unfold Builtin.min2
    by_cases h : q < p
    · rw [show min p q = q by omega]; simp [h]
    · rw [show min p q = p by omega]; simp [h]
  subst h
  simp only [Builtin.min_, List.foldlM, Sem.run_bind, e2, Result.andThen_ok, Sem.run_pure]
theorem max3_Z {P : Program} (w : World) (ts : Array TypeId) (t : TypeId) (x y z v : Int) (h : max (max x y) z = v) :
    (Builtin.max_ ts t #[.int .i64 x, .int .i64 y, .int .i64 z]).run P w = .ok (.int .i64 v) w := by
  have e2 : ∀ p q : Int, (Builtin.max2 (.int .i64 p) (.int .i64 q)).run P w = .ok (.int .i64 (max p q)) w := fun p q => by
    unfold Builtin.max2
    by_cases h : q > p
    · rw [show max p q = q by omega]; simp [h]
    · rw [show max p q = p by omega]; simp [h]
  subst h
  simp only [Builtin.max_, List.foldlM, Sem.run_bind, e2, Result.andThen_ok, Sem.run_pure]

/-- A row in the making: its first k places stand. -/
def RowP (w : World) (B : Nat) (l : List Int) (k : Nat) : Prop := ∃ cs : Array Value, Box w B 3 cs ∧ cs.size = l.length ∧ ∀ t, t < k → ∀ x, l[t]? = some x → cs[t]? = some (iv x)
theorem RowP.keep {w w' : World} {B k : Nat} {l : List Int} (h : RowP w B l k) (hk : w'.heap[B]? = w.heap[B]?) : RowP w' B l k := by
  obtain ⟨cs, h1, h2⟩ := h
  exact ⟨cs, hk.trans h1, h2⟩
theorem RowP.lt {w : World} {B k : Nat} {l : List Int} (h : RowP w B l k) : B < w.heap.size := by
  obtain ⟨cs, h1, _⟩ := h; exact h1.lt
theorem RowP.has {w : World} {B k : Nat} {l : List Int} (h : RowP w B l k) {t : Nat} (ht : t < l.length) : (∃ v, w.cell? ⟨B, t, none⟩ = some v) ∧ w.frozen? ⟨B, t, none⟩ = false := by
  obtain ⟨cs, h1, h2, _⟩ := h
  exact ⟨⟨cs[t]'(by omega), by rw [h1.cell t]; exact Array.getElem?_eq_getElem (by omega)⟩, h1.free t⟩
theorem RowP.put {w : World} {B k : Nat} {l : List Int} (h : RowP w B l k) {x : Int} (hx : l[k]? = some x) : RowP (w.setCell ⟨B, k, none⟩ (.int .i64 x)) B l (k + 1) := by
  obtain ⟨cs, h1, h2, h3⟩ := h
  have hk := (List.getElem?_eq_some_iff.1 hx).1
  refine ⟨_, h1.put k _, by simp [h2], fun t ht y hy => ?_⟩
  by_cases htk : t = k
  · subst htk
    rw [hx] at hy
    cases hy
    simp [h2, hk, iv]
  · rw [Array.getElem?_setIfInBounds_ne (Ne.symm htk)]
    exact h3 t (by omega) y hy
theorem RowP.whole {w : World} {B : Nat} {l : List Int} (h : RowP w B l l.length) : RowB w B l := by
  obtain ⟨cs, h1, h2, h3⟩ := h
  have : cs = (l.map iv).toArray := by
    apply Array.ext_getElem?
    intro t
    by_cases ht : t < l.length
    · rw [h3 t ht _ (List.getElem?_eq_getElem ht)]
      simp [List.getElem?_eq_getElem ht]
    · rw [Array.getElem?_eq_none (by omega)]
      simp [List.getElem?_eq_none (Nat.le_of_not_lt ht)]
  rw [this] at h1
  exact h1

theorem rowN_pos {a b : List Int} {most c : Int} (h0 : 0 ≤ c) (h1 : c ≤ most) (h2 : dz (enZ a b) ≤ most) : min (enZ a b + c) (most - c) - rowLo a b most c + 1 = (rowN a b most c : Int) ∧ 1 ≤ rowN a b most c := by
  unfold rowN rowLo
  unfold dz at h2
  omega

section
variable {a b : List Int} {R : Nat} {T : Nat → Nat → Nat} {S : Nat → Nat → List OpI}
/-- The row behind a row, place by place. -/
theorem next_place (g : Grid a b R T S) {most c d : Int} (hc : 0 ≤ c) (hcm : c + 1 ≤ most) (hm : most ≤ 400000) (ha : a.length ≤ 100000) (hb : b.length ≤ 100000) {t : Nat} (ht : t < rowN a b most (c + 1)) (hd : rowLo a b most (c + 1) + (t : Int) = d)
    {p0 p1 p2 M : Int} (e0 : rowAt (rowL a b T most c) (rowLo a b most c) d = p0) (e1 : rowAt (rowL a b T most c) (rowLo a b most c) (d - 1) = p1) (e2 : rowAt (rowL a b T most c) (rowLo a b most c) (d + 1) = p2)
    (hM : M = max (max (min (min (p0 - (R : Int)) (p1 - 1)) p2) 0) (-d)) :
    ∃ i : Nat, M = (i : Int) ∧ i ≤ 700000 ∧ ((i : Int) ≤ (a.length : Int) ∨ (i : Int) + d ≤ 0) ∧ ((i : Int) + d ≤ (b.length : Int) ∨ i = 0) ∧ 0 ≤ (i : Int) + d ∧ -500000 ≤ d ∧ d ≤ 500000 ∧ -500000 ≤ rowLo a b most c ∧ rowLo a b most c ≤ 500000 ∧
      (0 ≤ p0 ∧ p0 ≤ never) ∧ (0 ≤ p1 ∧ p1 ≤ never) ∧ (0 ≤ p2 ∧ p2 ≤ never) ∧ (rowL a b T most (c + 1))[t]? = some (extE a b d i : Int) := by
  have hlo : max (enZ a b - (c + 1)) (c + 1 - most) = rowLo a b most (c + 1) := rfl
  have hn : rowN a b most (c + 1) = (min (enZ a b + (c + 1)) (most - (c + 1)) - rowLo a b most (c + 1) + 1).toNat := rfl
  have hlo2 : max (enZ a b - c) (c - most) = rowLo a b most c := rfl
  have hen : enZ a b = (b.length : Int) - (a.length : Int) := rfl
  have hd1 : -(most - (c + 1)) ≤ d ∧ d ≤ most - (c + 1) ∧ enZ a b - (c + 1) ≤ d ∧ d ≤ enZ a b + (c + 1) := by omega
  rw [rowAt_val (by omega) (by omega)] at e0 e1 e2
  have hdz : dz (enZ a b - d) ≤ c + 1 := by unfold dz; omega
  subst e0 e1 e2
  obtain ⟨m0, m1, m2, m3, m4, m5⟩ := next_plc g hc hdz hM (by omega) (by omega) (by unfold dz; omega)
  have hpl : ∀ d', 0 ≤ plc a b T c d' ∧ (plc a b T c d' ≤ never) ∧ (plc a b T c d' ≤ (a.length : Int) + max 0 (-d') ∨ plc a b T c d' = never) := fun d' => by
    have hnv : never = 9223372036854775807 := rfl
    by_cases h : dz (enZ a b - d') ≤ c
    · have h1 := (plc_facts g h).1
      have h2 := (plc_most g h).2.2
      refine ⟨h1, ?_, .inl h2⟩
      have h3 : -d' ≤ c - enZ a b := by unfold dz at h; omega
      omega
    · rw [plc_never h]
      exact ⟨by omega, Int.le_refl _, .inr rfl⟩
  have hMb : M ≤ 700000 := by
    rcases m2 with h | h <;> omega
  refine ⟨M.toNat, by omega, by omega, by omega, by omega, by omega, by omega, by omega, by omega, by omega, ⟨(hpl _).1, (hpl _).2.1⟩, ⟨(hpl _).1, (hpl _).2.1⟩, ⟨(hpl _).1, (hpl _).2.1⟩, ?_⟩
  rw [rowL_at ht, hd, m5]
end


end Go.Proofs.Ytlloofmmblhnjaa
