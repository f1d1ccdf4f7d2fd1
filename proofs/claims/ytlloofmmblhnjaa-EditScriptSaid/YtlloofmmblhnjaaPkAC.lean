/-
  Tables of all ends: their numbers step by step, and such a table in the memory.
  The reference's table of distances.
  The reference's Distance, Within, Chars, Text.
-/
import Derived.Test.YtlloofmmblhnjaaPkAB
import Derived.Laws.RangeAny
import Derived.Lib.OthersKept
namespace Go.Proofs.Ytlloofmmblhnjaa
open Go.RowKit

theorem drop_at {l : List Int} {i : Nat} {x : Int} (h : l[i]? = some x) : l.drop i = x :: l.drop (i + 1) := by
  obtain ⟨hl, he⟩ := List.getElem?_eq_some_iff.1 h
  rw [List.drop_eq_getElem_cons hl, he]
theorem drop_end (l : List Int) : l.drop l.length = [] := List.drop_eq_nil_of_le (Nat.le_refl _)

/-! The distances of all ends. -/
def tabE (a b : List Int) (i j : Nat) : Nat := edD (a.drop i) (b.drop j)
theorem tab_end1 (a b : List Int) (j : Nat) : tabE a b a.length j = b.length - j := by unfold tabE; rw [drop_end, ed_nil, List.length_drop]
theorem tab_end2 (a b : List Int) (i : Nat) : tabE a b i b.length = a.length - i := by unfold tabE; rw [drop_end, ed_end, List.length_drop]
theorem tab_same {a b : List Int} {i j : Nat} {x : Int} (h1 : a[i]? = some x) (h2 : b[j]? = some x) : tabE a b i j = tabE a b (i + 1) (j + 1) := by
  unfold tabE; rw [drop_at h1, drop_at h2, ed_same]
theorem tab_other {a b : List Int} {i j : Nat} {x y : Int} (h1 : a[i]? = some x) (h2 : b[j]? = some y) (h : x ≠ y) :
    tabE a b i j = 1 + min (min (tabE a b (i + 1) (j + 1)) (tabE a b (i + 1) j)) (tabE a b i (j + 1)) := by
  unfold tabE; rw [drop_at h1, drop_at h2, ed_other h]
theorem tab_small (a b : List Int) (i j : Nat) : tabE a b i j ≤ a.length + b.length := by
  have h := ed_high (a.drop i) (b.drop j)
  rw [List.length_drop, List.length_drop] at h
  unfold tabE
  omega

/-! The greatest lengths of common sublists of all ends. -/
def mostE (a b : List Int) (i j : Nat) : Nat := lcsD (a.drop i) (b.drop j)
theorem most_end1 (a b : List Int) (j : Nat) : mostE a b a.length j = 0 := by unfold mostE; rw [drop_end, lcs_nil]
theorem most_end2 (a b : List Int) (i : Nat) : mostE a b i b.length = 0 := by unfold mostE; rw [drop_end, lcs_end]
theorem most_same {a b : List Int} {i j : Nat} {x : Int} (h1 : a[i]? = some x) (h2 : b[j]? = some x) : mostE a b i j = 1 + mostE a b (i + 1) (j + 1) := by
  unfold mostE; rw [drop_at h1, drop_at h2, lcs_same]
theorem most_other {a b : List Int} {i j : Nat} {x y : Int} (h1 : a[i]? = some x) (h2 : b[j]? = some y) (h : x ≠ y) :
    mostE a b i j = max (mostE a b (i + 1) j) (mostE a b i (j + 1)) := by
  unfold mostE; rw [drop_at h1, drop_at h2, lcs_other h]
theorem most_small (a b : List Int) (i j : Nat) : mostE a b i j ≤ a.length := by
  obtain ⟨h1, -, h3⟩ := sub_facts (a.drop i) (b.drop j)
  have := h1.length_le
  rw [List.length_drop] at this
  unfold mostE
  omega

/-! The least script, step by step. -/
theorem scr_keep {a b : List Int} {i j : Nat} {x : Int} (h1 : a[i]? = some x) (h2 : b[j]? = some x) : scrD (a.drop i) (b.drop j) = (1, 0) :: scrD (a.drop (i + 1)) (b.drop (j + 1)) := by
  rw [drop_at h1, drop_at h2, scr_cons, if_pos rfl]
theorem scr_repl {a b : List Int} {i j : Nat} {x y : Int} (h1 : a[i]? = some x) (h2 : b[j]? = some y) (h : x ≠ y) (g : tabE a b i j = 1 + tabE a b (i + 1) (j + 1)) : scrD (a.drop i) (b.drop j) = (2, y) :: scrD (a.drop (i + 1)) (b.drop (j + 1)) := by
  unfold tabE at g
  rw [drop_at h1, drop_at h2] at g
  rw [drop_at h1, drop_at h2, scr_cons, if_neg h, if_pos g]
theorem scr_del {a b : List Int} {i j : Nat} {x y : Int} (h1 : a[i]? = some x) (h2 : b[j]? = some y) (h : x ≠ y) (g1 : tabE a b i j ≠ 1 + tabE a b (i + 1) (j + 1)) (g2 : tabE a b i j = 1 + tabE a b (i + 1) j) : scrD (a.drop i) (b.drop j) = (3, 0) :: scrD (a.drop (i + 1)) (b.drop j) := by
  unfold tabE at g1 g2
  rw [drop_at h1, drop_at h2] at g1 g2
  rw [drop_at h1, drop_at h2, scr_cons, if_neg h, if_neg g1, if_pos g2]
theorem scr_ins {a b : List Int} {i j : Nat} {x y : Int} (h1 : a[i]? = some x) (h2 : b[j]? = some y) (h : x ≠ y) (g1 : tabE a b i j ≠ 1 + tabE a b (i + 1) (j + 1)) (g2 : tabE a b i j ≠ 1 + tabE a b (i + 1) j) : scrD (a.drop i) (b.drop j) = (4, y) :: scrD (a.drop i) (b.drop (j + 1)) := by
  unfold tabE at g1 g2
  rw [drop_at h1, drop_at h2] at g1 g2
  rw [drop_at h1, drop_at h2, scr_cons, if_neg h, if_neg g1, if_neg g2]
theorem scr_rest1 {a b : List Int} {j : Nat} {y : Int} (h2 : b[j]? = some y) : scrD (a.drop a.length) (b.drop j) = (4, y) :: scrD (a.drop a.length) (b.drop (j + 1)) := by
  rw [drop_end, drop_at h2, scr_nil_cons]
theorem scr_rest2 {a b : List Int} {i : Nat} {x : Int} (h1 : a[i]? = some x) : scrD (a.drop i) (b.drop b.length) = (3, 0) :: scrD (a.drop (i + 1)) (b.drop b.length) := by
  rw [drop_end, drop_at h1, scr_end]
theorem scr_done (a b : List Int) : scrD (a.drop a.length) (b.drop b.length) = [] := by rw [drop_end, drop_end]; rfl
theorem scr_len : ∀ a b : List Int, (scrD a b).length ≤ a.length + b.length
  | [], b => by show (b.map _).length ≤ _; simp
  | x :: a, [] => by
    have := scr_len a []
    rw [scr_end]
    simp only [List.length_cons, List.length_nil] at this ⊢
    omega
  | x :: a, y :: b => by
    have h1 := scr_len a b
    have h2 := scr_len a (y :: b)
    have h3 := scr_len (x :: a) b
    rw [scr_cons]
    simp only [List.length_cons] at h2 h3 ⊢
    split
    · rw [List.length_cons]; omega
    · split
      · rw [List.length_cons]; omega
      · split <;> rw [List.length_cons] <;> omega

/-! The common subsequence, step by step. -/
theorem sub_take {a b : List Int} {i j : Nat} {x : Int} (h1 : a[i]? = some x) (h2 : b[j]? = some x) : subD (a.drop i) (b.drop j) = x :: subD (a.drop (i + 1)) (b.drop (j + 1)) := by
  rw [drop_at h1, drop_at h2, sub_same]
theorem sub_left {a b : List Int} {i j : Nat} {x y : Int} (h1 : a[i]? = some x) (h2 : b[j]? = some y) (h : x ≠ y) (g : mostE a b i (j + 1) ≤ mostE a b (i + 1) j) : subD (a.drop i) (b.drop j) = subD (a.drop (i + 1)) (b.drop j) := by
  unfold mostE at g
  rw [drop_at h1, drop_at h2] at g
  rw [drop_at h1, drop_at h2, sub_other h, if_pos g]
theorem sub_right {a b : List Int} {i j : Nat} {x y : Int} (h1 : a[i]? = some x) (h2 : b[j]? = some y) (h : x ≠ y) (g : ¬ mostE a b i (j + 1) ≤ mostE a b (i + 1) j) : subD (a.drop i) (b.drop j) = subD (a.drop i) (b.drop (j + 1)) := by
  unfold mostE at g
  rw [drop_at h1, drop_at h2] at g
  rw [drop_at h1, drop_at h2, sub_other h, if_neg g]
theorem sub_over {a b : List Int} {i j : Nat} (h : a.length ≤ i ∨ b.length ≤ j) : subD (a.drop i) (b.drop j) = [] := by
  rcases h with h | h
  · rw [List.drop_eq_nil_of_le h, sub_nil]
  · rw [List.drop_eq_nil_of_le h, sub_end]

/-! A table in the memory: rows of numbers, each a block of its own, made later than the table's own block. -/
def RowE (w : World) (R : Nat) (f : Nat → Nat) (j0 m : Nat) : Prop := ∃ cs : Array Value, Box w R 3 cs ∧ cs.size = m + 1 ∧ ∀ j, j0 ≤ j → j ≤ m → cs[j]? = some (nv (f j))
theorem RowE.made (w : World) (f : Nat → Nat) (m : Nat) : RowE (w.alloc (.cells (madeOf (.int .i64 0) (m + 1)) 3)) w.heap.size f (m + 1) m :=
  ⟨_, Box.made w _ _, madeOf_size _ _, fun j h1 h2 => by omega⟩
theorem RowE.mono {w w' : World} {R : Nat} {f : Nat → Nat} {j0 m : Nat} (h : RowE w R f j0 m) (hk : w'.heap[R]? = w.heap[R]?) : RowE w' R f j0 m := by
  obtain ⟨cs, h1, h2⟩ := h
  exact ⟨cs, hk.trans h1, h2⟩
theorem RowE.lt {w : World} {R : Nat} {f : Nat → Nat} {j0 m : Nat} (h : RowE w R f j0 m) : R < w.heap.size := by
  obtain ⟨cs, h1, _⟩ := h
  exact h1.lt
theorem RowE.cell {w : World} {R : Nat} {f : Nat → Nat} {j0 m j : Nat} (h : RowE w R f j0 m) (h1 : j0 ≤ j) (h2 : j ≤ m) : w.cell? ⟨R, j, none⟩ = some (.int .i64 (f j : Int)) := by
  obtain ⟨cs, hb, _, hc⟩ := h
  exact (hb.cell j).trans (hc j h1 h2)
/-- One number more, in front. -/
theorem RowE.put {w : World} {R : Nat} {f : Nat → Nat} {j m : Nat} (h : RowE w R f (j + 1) m) (hj : j ≤ m) : RowE (w.setCell ⟨R, j, none⟩ (.int .i64 (f j : Int))) R f j m := by
  obtain ⟨cs, hb, hs, hc⟩ := h
  refine ⟨_, hb.put j _, by simp [hs], fun k h1 h2 => ?_⟩
  by_cases e : j = k
  · subst e
    rw [Array.getElem?_setIfInBounds_self, if_pos (by omega)]
    rfl
  · rw [Array.getElem?_setIfInBounds_ne e]
    exact hc k (by omega) h2
/-- What a cell of a row holds before it is written. -/
theorem RowE.has {w : World} {R : Nat} {f : Nat → Nat} {j0 m j : Nat} (h : RowE w R f j0 m) (h2 : j ≤ m) : (∃ v, w.cell? ⟨R, j, none⟩ = some v) ∧ w.frozen? ⟨R, j, none⟩ = false := by
  obtain ⟨cs, hb, hs, _⟩ := h
  refine ⟨⟨cs[j]'(by omega), ?_⟩, hb.free j⟩
  rw [hb.cell j]
  exact Array.getElem?_eq_getElem (by omega)
/-- The rows behind i0 stand; their blocks lie between B and K. -/
def TabE (w : World) (B K : Nat) (D : Nat → Nat → Nat) (i0 n m : Nat) : Prop :=
  ∃ cs : Array Value, Box w B 22 cs ∧ cs.size = n + 1 ∧ ∀ i, i0 ≤ i → i ≤ n → ∃ R, cs[i]? = some (.slice (some ⟨R, 0, none⟩) (m + 1) (m + 1)) ∧ B < R ∧ R < K ∧ RowE w R (D i) 0 m
theorem TabE.made (w : World) (K : Nat) (D : Nat → Nat → Nat) (n m : Nat) : TabE (w.alloc (.cells (madeOf (.slice none 0 0) (n + 1)) 22)) w.heap.size K D (n + 1) n m :=
  ⟨_, Box.made w _ _, madeOf_size _ _, fun i h1 h2 => by omega⟩
theorem TabE.mono {w w' : World} {B K : Nat} {D : Nat → Nat → Nat} {i0 n m : Nat} (h : TabE w B K D i0 n m) (hB : B < K) (hk : ∀ k, B ≤ k → k < K → w'.heap[k]? = w.heap[k]?) {K' : Nat} (hK : K ≤ K') : TabE w' B K' D i0 n m := by
  obtain ⟨cs, h1, h2, h3⟩ := h
  refine ⟨cs, (hk B (Nat.le_refl _) hB).trans h1, h2, fun i g1 g2 => ?_⟩
  obtain ⟨R, e1, e2, e3, e4⟩ := h3 i g1 g2
  exact ⟨R, e1, e2, by omega, e4.mono (hk R (by omega) e3)⟩
theorem TabE.get {w : World} {B K : Nat} {D : Nat → Nat → Nat} {i0 n m i : Nat} (h : TabE w B K D i0 n m) (h1 : i0 ≤ i) (h2 : i ≤ n) :
    ∃ R, w.cell? ⟨B, i, none⟩ = some (.slice (some ⟨R, 0, none⟩) (m + 1) (m + 1)) ∧ B < R ∧ R < K ∧ ∀ j, j ≤ m → w.cell? ⟨R, j, none⟩ = some (.int .i64 (D i j : Int)) := by
  obtain ⟨cs, hb, hs, hc⟩ := h
  obtain ⟨R, e1, e2, e3, e4⟩ := hc i h1 h2
  exact ⟨R, (hb.cell i).trans e1, e2, e3, fun j hj => e4.cell (Nat.zero_le _) hj⟩
/-- While row i is filled: it lies in block K, the newest one. -/
def PartE (w : World) (B K : Nat) (D : Nat → Nat → Nat) (i j0 n m : Nat) : Prop :=
  TabE w B K D (i + 1) n m ∧ w.cell? ⟨B, i, none⟩ = some (.slice (some ⟨K, 0, none⟩) (m + 1) (m + 1)) ∧ RowE w K (D i) j0 m
theorem TabE.row {w : World} {B : Nat} {D : Nat → Nat → Nat} {i n m : Nat} (h : TabE w B w.heap.size D (i + 1) n m) (hB : B < w.heap.size) (hi : i ≤ n) :
    PartE ((w.alloc (.cells (madeOf (.int .i64 0) (m + 1)) 3)).setCell ⟨B, i, none⟩ (.slice (some ⟨w.heap.size, 0, none⟩) (m + 1) (m + 1))) B w.heap.size D i (m + 1) n m := by
  obtain ⟨V, hV⟩ : ∃ V, w.alloc (.cells (madeOf (.int .i64 0) (m + 1)) 3) = V := ⟨_, rfl⟩
  have hr : RowE V w.heap.size (D i) (m + 1) m := by rw [← hV]; exact RowE.made w (D i) m
  have hT : TabE V B w.heap.size D (i + 1) n m := h.mono hB (fun k _ hk => by rw [← hV]; exact Below.heap_alloc w _ k hk) (Nat.le_refl _)
  rw [hV]
  obtain ⟨cs, h1, h2, h3⟩ := hT
  have hput := h1.put i (.slice (some ⟨w.heap.size, 0, none⟩) (m + 1) (m + 1))
  refine ⟨⟨_, hput, by simp [h2], fun k g1 g2 => ?_⟩, ?_, ?_⟩
  · obtain ⟨R, e1, e2, e3, e4⟩ := h3 k g1 g2
    refine ⟨R, ?_, e2, e3, e4.mono (Below.heap_setCell V _ _ R (by show R ≠ B; omega))⟩
    rw [Array.getElem?_setIfInBounds_ne (by omega)]
    exact e1
  · rw [hput.cell i, Array.getElem?_setIfInBounds_self, if_pos (by omega)]
  · exact hr.mono (Below.heap_setCell V _ _ w.heap.size (by show w.heap.size ≠ B; omega))
theorem TabE.row2 {w : World} {B : Nat} {D : Nat → Nat → Nat} {i n m : Nat} (h : TabE w B w.heap.size D (i + 1) n m) (hB : B < w.heap.size) (hi : i ≤ n) :
    PartE ((w.setCell ⟨B, i, none⟩ (.slice (some ⟨w.heap.size, 0, none⟩) (m + 1) (m + 1))).alloc (.cells (madeOf (.int .i64 0) (m + 1)) 3)) B w.heap.size D i (m + 1) n m := by
  obtain ⟨cs, h1, h2, h3⟩ := h
  have hput := h1.put i (.slice (some ⟨w.heap.size, 0, none⟩) (m + 1) (m + 1))
  obtain ⟨V, hV⟩ : ∃ V, w.setCell ⟨B, i, none⟩ (.slice (some ⟨w.heap.size, 0, none⟩) (m + 1) (m + 1)) = V := ⟨_, rfl⟩
  have hVs : V.heap.size = w.heap.size := by rw [← hV, World.size_setCell]
  have hVk : ∀ R, R ≠ B → V.heap[R]? = w.heap[R]? := fun R hR => by rw [← hV]; exact Below.heap_setCell w _ _ R hR
  rw [hV] at hput ⊢
  have hr : RowE (V.alloc (.cells (madeOf (.int .i64 0) (m + 1)) 3)) w.heap.size (D i) (m + 1) m := by rw [← hVs]; exact RowE.made V (D i) m
  have hput2 := hput.alloc (.cells (madeOf (.int .i64 0) (m + 1)) 3)
  refine ⟨⟨_, hput2, by simp [h2], fun k g1 g2 => ?_⟩, ?_, hr⟩
  · obtain ⟨R, e1, e2, e3, e4⟩ := h3 k g1 g2
    refine ⟨R, ?_, e2, e3, e4.mono ((Below.heap_alloc V _ R (by omega)).trans (hVk R (by omega)))⟩
    rw [Array.getElem?_setIfInBounds_ne (by omega)]
    exact e1
  · rw [hput2.cell i, Array.getElem?_setIfInBounds_self, if_pos (by omega)]
theorem eqE {a b : Int} (h : a = b) : (a == b) = true := by simp [h]
theorem neE {a b : Int} (h : a ≠ b) : (a == b) = false := by simp [h]
theorem PartE.mono {w w' : World} {B K : Nat} {D : Nat → Nat → Nat} {i j0 n m : Nat} (h : PartE w B K D i j0 n m) (hB : B < K) (hk : ∀ k, B ≤ k → k ≤ K → w'.heap[k]? = w.heap[k]?) : PartE w' B K D i j0 n m := by
  obtain ⟨h1, h2, h3⟩ := h
  refine ⟨h1.mono hB (fun k e1 e2 => hk k e1 (by omega)) (Nat.le_refl _), ?_, h3.mono (hk K (by omega) (Nat.le_refl _))⟩
  unfold World.cell? at h2 ⊢
  rw [show (⟨B, i, none⟩ : Addr).block = B from rfl] at h2 ⊢
  rw [hk B (Nat.le_refl _) (by omega)]
  exact h2
theorem PartE.put {w : World} {B K : Nat} {D : Nat → Nat → Nat} {i j n m : Nat} (h : PartE w B K D i (j + 1) n m) (hB : B < K) (hj : j ≤ m) : PartE (w.setCell ⟨K, j, none⟩ (.int .i64 (D i j : Int))) B K D i j n m := by
  obtain ⟨h1, h2, h3⟩ := h
  have hk : ∀ k, k ≠ K → (w.setCell ⟨K, j, none⟩ (.int .i64 (D i j : Int))).heap[k]? = w.heap[k]? := fun k e => Below.heap_setCell w _ _ k e
  refine ⟨h1.mono hB (fun k _ e2 => hk k (by omega)) (Nat.le_refl _), ?_, h3.put hj⟩
  unfold World.cell? at h2 ⊢
  rw [show (⟨B, i, none⟩ : Addr).block = B from rfl] at h2 ⊢
  rw [hk B (by omega)]
  exact h2
theorem PartE.get {w : World} {B K : Nat} {D : Nat → Nat → Nat} {i j0 n m : Nat} (h : PartE w B K D i j0 n m) :
    w.cell? ⟨B, i, none⟩ = some (.slice (some ⟨K, 0, none⟩) (m + 1) (m + 1)) ∧ ∀ j, j0 ≤ j → j ≤ m → w.cell? ⟨K, j, none⟩ = some (.int .i64 (D i j : Int)) := ⟨h.2.1, fun _ h1 h2 => h.2.2.cell h1 h2⟩
theorem PartE.done {w : World} {B K : Nat} {D : Nat → Nat → Nat} {i n m : Nat} (h : PartE w B K D i 0 n m) (hB : B < K) : TabE w B (K + 1) D i n m := by
  obtain ⟨⟨cs, h1, h2, h3⟩, h4, h5⟩ := h
  refine ⟨cs, h1, h2, fun k g1 g2 => ?_⟩
  by_cases e : k = i
  · subst e
    exact ⟨K, (h1.cell k).symm.trans h4, hB, by omega, h5⟩
  · obtain ⟨R, e1, e2, e3, e4⟩ := h3 k (by omega) g2
    exact ⟨R, e1, e2, by omega, e4⟩

end Go.Proofs.Ytlloofmmblhnjaa

namespace Go.Proofs.Ytlloofmmblhnjaa
open Go.RowKit

theorem info_rows : (Try.prog.info? 22).map (fun i => (i.zero, i.size, i.bytes)) = some (some (.slice none 0 0), 1, 24) := by kernel_rfl
theorem make_rows (l c : Nat) (hlc : l ≤ c) (hc : c ≤ 1000000) (W : World) :
    (Instr.makeSlice 59 (.int .i64 (l : Int)) (.int .i64 (c : Int))).run Try.prog W = .ok (.slice (some ⟨W.heap.size, 0, none⟩) l c) (W.alloc (.cells (madeOf (.slice none 0 0) c) 22)) :=
  make_run 59 22 (.slice none 0 0) 24 Try.underlying59 info_rows l c hlc hc (by decide) W

theorem min2_E {P : Program} (w : World) (x y : Nat) : (Builtin.min2 (.int .i64 (x : Int)) (.int .i64 (y : Int))).run P w = .ok (.int .i64 ((min x y : Nat) : Int)) w := by
  unfold Builtin.min2
  by_cases h : (y : Int) < (x : Int)
  · have : min x y = y := by omega
    rw [this]; simp [h]
  · have : min x y = x := by omega
    rw [this]; simp [h]
theorem min3_E {P : Program} (w : World) (ts : Array TypeId) (t : TypeId) (x y z N : Nat) (h : min (min x y) z = N) :
    (Builtin.min_ ts t #[.int .i64 (x : Int), .int .i64 (y : Int), .int .i64 (z : Int)]).run P w = .ok (.int .i64 (N : Int)) w := by
  subst h
  simp only [Builtin.min_, List.foldlM, Sem.run_bind, min2_E, Result.andThen_ok, Sem.run_pure]

set_option maxRecDepth 20000 in
set_option maxHeartbeats 6400000 in
theorem refTable11_any (A A' : Option Addr) (n c m c' : Nat) (a b : List Int) (w : World) (h : Arr iv w w.heap.size (.slice A n c) a) (h' : Arr iv w w.heap.size (.slice A' m c') b) (hn : n ≤ 100000) (hm : m ≤ 100000) :
    Calls Try.prog 36 #[.slice A n c, .slice A' m c'] w fun e w' => e = .returned (.slice (some ⟨w.heap.size, 0, none⟩) (n + 1) (n + 1)) ∧ TabE w' w.heap.size w'.heap.size (tabE a b) 0 n m ∧ Below w.heap.size w w' := by
  have hmk1 : ∀ W, (Instr.makeSlice 59 (.int .i64 ((n : Int) + 1)) (.int .i64 ((n : Int) + 1))).run Try.prog W = .ok (.slice (some ⟨W.heap.size, 0, none⟩) (n + 1) (n + 1)) (W.alloc (.cells (madeOf (.slice none 0 0) (n + 1)) 22)) := fun W => by
    have := make_rows (n + 1) (n + 1) (Nat.le_refl _) (by omega) W
    rwa [show ((n + 1 : Nat) : Int) = (n : Int) + 1 by omega] at this
  have hmk2 : ∀ W, (Instr.makeSlice 22 (.int .i64 ((m : Int) + 1)) (.int .i64 ((m : Int) + 1))).run Try.prog W = .ok (.slice (some ⟨W.heap.size, 0, none⟩) (m + 1) (m + 1)) (W.alloc (.cells (madeOf (.int .i64 0) (m + 1)) 3)) := fun W => by
    have := make_ints (m + 1) (m + 1) (Nat.le_refl _) (by omega) W
    rwa [show ((m + 1 : Nat) : Int) = (m : Int) + 1 by omega] at this
  have HL := Lib.hid h.len
  have HM := Lib.hid h'.len
  have HA := Lib.hid h
  have HB := Lib.hid h'
  obtain ⟨D, hD⟩ : ∃ D, tabE a b = D := ⟨_, rfl⟩
  rw [hD]
  have HD := Lib.hid hD
  clear h h' hD
  go_enter Try.func36, Try.ntmps36
  go_wp2
  go_loopw [6, 7] (fun i j wr => ∃ k : Nat, k ≤ n + 1 ∧ i = .int .i64 ((k : Int) - 1) ∧ Hid (TabE wr w.heap.size wr.heap.size D k n m) ∧ w.heap.size < wr.heap.size ∧ Below w.heap.size w wr) (fun i _ _ => (intOf i + 1).toNat)
  case atStart =>
    refine ⟨n + 1, Nat.le_refl _, by go_num, Lib.hid ?_, by simp, (Below.refl _ _).alloc (Nat.le_refl _) _⟩
    exact TabE.made w _ D n m
  case round =>
    obtain ⟨k, hk, rfl, HT, hB, hbel⟩ := hrel
    cases k with
    | zero =>
      go_wp2
      go_ret
      exact ⟨rfl, HT.out, hbel⟩
    | succ q =>
      obtain ⟨wo, rfl⟩ : ∃ wo : World, wo = wr := ⟨_, rfl⟩
      obtain ⟨i0, hi0⟩ : ∃ i0 : Int, ((q + 1 : Nat) : Int) - 1 = i0 := ⟨_, rfl⟩
      have hq0 : i0 = (q : Int) := by omega
      subst hq0
      rw [hi0]
      have hqn : q ≤ n := by omega
      have i1 : (0 : Int) ≤ (q : Int) := by omega
      have z0 : (q : Int) < (n : Int) + 1 := by omega
      have HP0 := Lib.hid (HT.out.row2 hB hqn)
      have hcell : ∃ v, (wo.alloc (.cells (madeOf (.int .i64 0) (m + 1)) 3)).cell? ⟨w.heap.size, q, none⟩ = some v ∧ (wo.alloc (.cells (madeOf (.int .i64 0) (m + 1)) 3)).frozen? ⟨w.heap.size, q, none⟩ = false := by
        obtain ⟨cs, h1, h2, _⟩ := HT.out
        have h3 := h1.alloc (.cells (madeOf (.int .i64 0) (m + 1)) 3)
        refine ⟨cs[q]'(by omega), ?_, h3.free q⟩
        rw [h3.cell q]
        exact Array.getElem?_eq_getElem (by omega)
      obtain ⟨v0, d0, f0⟩ := hcell
      clear hi0
      go_wp2
      clear d0 f0
      go_loopw [7] (fun j wr => ∃ l : Nat, l ≤ m + 1 ∧ j = .int .i64 ((l : Int) - 1) ∧ Hid (PartE wr w.heap.size wo.heap.size D q l n m) ∧ wo.heap.size < wr.heap.size ∧ Below w.heap.size w wr) (fun j _ => (intOf j + 1).toNat)
      case atStart => exact ⟨m + 1, Nat.le_refl _, by go_num, HP0, by simp, (hbel.setCell (Nat.le_refl _) _).alloc (by rw [World.size_setCell]; exact hbel.size) _⟩
      case round =>
        obtain ⟨l, hl, rfl, HP, hK, hbel2⟩ := hrel
        cases l with
        | zero =>
          go_wp2
          go_roundw
          case rel => exact ⟨q, by omega, by go_num, Lib.hid ((HP.out.done hB).mono (Nat.lt_succ_of_lt hB) (fun _ _ _ => rfl) hK), Nat.lt_trans hB hK, hbel2⟩
          case measure => first | (simp [intOf]; done) | (simp [intOf]; omega)
        | succ l =>
          obtain ⟨i0, hi0⟩ : ∃ i0 : Int, ((l + 1 : Nat) : Int) - 1 = i0 := ⟨_, rfl⟩
          have hq0 : i0 = (l : Int) := by omega
          subst hq0
          rw [hi0]
          have hlm : l ≤ m := by omega
          have j1 : (0 : Int) ≤ (l : Int) := by omega
          have z1 : (l : Int) < (m : Int) + 1 := by omega
          obtain ⟨T, hT⟩ : ∃ T, D q l = T := ⟨_, rfl⟩
          have HPut : Hid (∀ W : World, W.heap = wr.heap → PartE (W.setCell ⟨wo.heap.size, l, none⟩ (.int .i64 (T : Int))) w.heap.size wo.heap.size D q l n m) := Lib.hid (fun W hW => by
            have := (HP.out.mono (w' := W) hB (fun _ _ _ => by rw [hW])).put hB hlm
            rwa [hT] at this)
          obtain ⟨⟨v1, d1⟩, f1⟩ := HP.out.2.2.has hlm
          have d2 := HP.out.2.1
          clear hi0
          by_cases hi : q = n
          · have t1 : ((q : Int) == (n : Int)) = true := eqE (by omega)
            have ev : (m : Int) - (l : Int) = (T : Int) := by
              have h1 := tab_end1 a b l
              rw [HL.out, HM.out, HD.out] at h1
              rw [← hT, hi, h1]
              omega
            have ew : IntKind.i64.wrap (T : Int) = (T : Int) := wraps_i64 _ (by omega) (by omega)
            clear hT hi
            go_wp2
            go_roundw
            case rel => exact ⟨l, by omega, by go_num, Lib.hid (HPut.out _ rfl), by simpa using hK, hbel2.setCell (Nat.le_of_lt hB) _⟩
            case measure => first | (simp [intOf]; done) | (simp [intOf]; omega)
          · have t1 : ((q : Int) == (n : Int)) = false := neE (by omega)
            by_cases hj : l = m
            · have t2 : ((l : Int) == (m : Int)) = true := eqE (by omega)
              have ev : (n : Int) - (q : Int) = (T : Int) := by
                have h1 := tab_end2 a b q
                rw [HL.out, HM.out, HD.out] at h1
                rw [← hT, hj, h1]
                omega
              have ew : IntKind.i64.wrap (T : Int) = (T : Int) := wraps_i64 _ (by omega) (by omega)
              clear hT hj
              go_wp2
              go_roundw
              case rel => exact ⟨l, by omega, by go_num, Lib.hid (HPut.out _ rfl), by simpa using hK, hbel2.setCell (Nat.le_of_lt hB) _⟩
              case measure => first | (simp [intOf]; done) | (simp [intOf]; omega)
            · have t2 : ((l : Int) == (m : Int)) = false := neE (by omega)
              obtain ⟨x, hx⟩ : ∃ x, a[q]? = some x := ⟨_, List.getElem?_eq_getElem (by have := HL.out; omega)⟩
              obtain ⟨y, hy⟩ : ∃ y, b[l]? = some y := ⟨_, List.getElem?_eq_getElem (by have := HM.out; omega)⟩
              obtain ⟨b0, o0, rfl, hB0, hc0⟩ := HA.out.some_ (by omega)
              obtain ⟨b1, o1, rfl, hB1, hc1⟩ := HB.out.some_ (by omega)
              have d3 : wr.cell? ⟨b0, o0 + q, none⟩ = some (.int .i64 x) := (hbel2.cell (p := ⟨b0, o0 + q, none⟩) hB0).trans (hc0 q x hx)
              have d4 : wr.cell? ⟨b1, o1 + l, none⟩ = some (.int .i64 y) := (hbel2.cell (p := ⟨b1, o1 + l, none⟩) hB1).trans (hc1 l y hy)
              obtain ⟨q1, hq1⟩ : ∃ k, q + 1 = k := ⟨_, rfl⟩
              obtain ⟨l1, hl1⟩ : ∃ k, l + 1 = k := ⟨_, rfl⟩
              have eq1 : (q : Int) + 1 = (q1 : Int) := by omega
              have el1 : (l : Int) + 1 = (l1 : Int) := by omega
              have wq1 : IntKind.i64.wrap (q1 : Int) = (q1 : Int) := wraps_i64 _ (by omega) (by omega)
              have wl1 : IntKind.i64.wrap (l1 : Int) = (l1 : Int) := wraps_i64 _ (by omega) (by omega)
              have zq1 : (q1 : Int) < (n : Int) + 1 := by omega
              have zl1 : (l1 : Int) < (m : Int) + 1 := by omega
              have zq : (q : Int) < (n : Int) := by omega
              have zl : (l : Int) < (m : Int) := by omega
              obtain ⟨R, d5, hR1, hR2, hR3⟩ := HP.out.1.get (i := q + 1) (Nat.le_refl _) (by omega)
              have d6 := hR3 (l + 1) (by omega)
              have d7 := hR3 l hlm
              have d8 := HP.out.get.2 (l + 1) (Nat.le_refl _) (by omega)
              obtain ⟨T1, hT1⟩ : ∃ T, D (q + 1) (l + 1) = T := ⟨_, rfl⟩
              obtain ⟨T2, hT2⟩ : ∃ T, D (q + 1) l = T := ⟨_, rfl⟩
              obtain ⟨T3, hT3⟩ : ∃ T, D q (l + 1) = T := ⟨_, rfl⟩
              rw [hT1] at d6
              rw [hT2] at d7
              rw [hT3] at d8
              rw [hq1] at d5
              rw [hl1] at d6 d8
              have hsm : T ≤ 200000 := by
                have h1 := tab_small a b q l
                rw [HL.out, HM.out, HD.out, hT] at h1
                omega
              obtain ⟨wv, hwv⟩ : ∃ wv : World, wv = wr := ⟨_, rfl⟩
              by_cases hxy : x = y
              · have hTT : T = T1 := by
                  rw [← hT, ← hT1, ← HD.out]
                  exact tab_same hx (hxy ▸ hy)
                have t3 : (x == y) = true := eqE hxy
                rw [hTT] at HPut
                clear hxy hx hy hc0 hc1 hR3 hT hT1 hT2 hT3 hTT hq1 hl1 hi hj hwv
                go_wp2
                go_region
                all_goals
                  go_wp2
                  go_region
                  all_goals
                    go_wp2
                    go_roundw
                    case rel => exact ⟨l, by omega, by go_num, Lib.hid ((HPut.out wr rfl).mono hB fun _ _ _ => rfl), by simpa using hK, (hbel2.setCell (show w.heap.size ≤ (⟨wo.heap.size, l, none⟩ : Addr).block from Nat.le_of_lt hB) _).drew.drew⟩
                    case measure => first | (simp [intOf]; done) | (simp [intOf]; omega)
              · have hTT : T = 1 + min (min T1 T2) T3 := by
                  rw [← hT, ← hT1, ← hT2, ← hT3, ← HD.out]
                  exact tab_other hx hy hxy
                have t3 : (x == y) = false := neE hxy
                obtain ⟨N, hN⟩ : ∃ N, min (min T1 T2) T3 = N := ⟨_, rfl⟩
                have hmin := fun W ts t => min3_E (P := Try.prog) W ts t T1 T2 T3 N hN
                have eN : (1 : Int) + (N : Int) = (T : Int) := by omega
                have wT : IntKind.i64.wrap (T : Int) = (T : Int) := wraps_i64 _ (by omega) (by omega)
                clear hN hTT
                clear hxy hx hy hc0 hc1 hR3 hT hT1 hT2 hT3 hq1 hl1 hi hj hwv
                go_wp2
                go_region
                all_goals
                  go_wp2
                  go_region
                  all_goals
                    go_wp2
                    go_roundw
                    case rel => exact ⟨l, by omega, by go_num, Lib.hid ((HPut.out wr rfl).mono hB fun _ _ _ => rfl), by simpa using hK, (hbel2.setCell (show w.heap.size ≤ (⟨wo.heap.size, l, none⟩ : Addr).block from Nat.le_of_lt hB) _).drew.drew⟩
                    case measure => first | (simp [intOf]; done) | (simp [intOf]; omega)

end Go.Proofs.Ytlloofmmblhnjaa

namespace Go.Proofs.Ytlloofmmblhnjaa
open Go.RowKit

theorem tab_zero (a b : List Int) : tabE a b 0 0 = edD a b := rfl

set_option maxRecDepth 20000 in
set_option maxHeartbeats 3200000 in
theorem refDistance11_any (A A' : Option Addr) (n c m c' : Nat) (a b : List Int) (w : World) (h : Arr iv w w.heap.size (.slice A n c) a) (h' : Arr iv w w.heap.size (.slice A' m c') b) (hn : n ≤ 100000) (hm : m ≤ 100000) :
    Calls Try.prog 16 #[.slice A n c, .slice A' m c'] w fun e w' => e = .returned (.int .i64 (edD a b : Int)) ∧ Below w.heap.size w w' := by
  have HT := Lib.hid (refTable11_any A A' n c m c' a b w h h' hn hm)
  have z0 : (0 : Int) < (n : Int) + 1 := by omega
  have z1 : (0 : Int) < (m : Int) + 1 := by omega
  clear h h'
  go_enter Try.func16, Try.ntmps16
  go_wp2_with fail
  refine HT.out.mono ?_
  rintro e w1 ⟨rfl, hT, k1⟩
  obtain ⟨R, d0, -, -, hR⟩ := hT.get (i := 0) (Nat.le_refl _) (Nat.zero_le _)
  have d1 := hR 0 (Nat.zero_le _)
  rw [tab_zero] at d1
  clear hT hR
  go_wp2
  go_ret
  exact ⟨rfl, k1⟩

/-- What Within answers. -/
def withinE (a b : List Int) (k : Int) : Nat × Bool := if (edD a b : Int) ≤ k then (edD a b, true) else (0, false)
set_option maxRecDepth 20000 in
set_option maxHeartbeats 3200000 in
theorem refWithin11_any (A A' : Option Addr) (n c m c' : Nat) (a b : List Int) (k : Int) (w : World) (h : Arr iv w w.heap.size (.slice A n c) a) (h' : Arr iv w w.heap.size (.slice A' m c') b) (hn : n ≤ 100000) (hm : m ≤ 100000) :
    Calls Try.prog 14 #[.slice A n c, .slice A' m c', .int .i64 k] w fun e w' => e = .returned (.tuple #[.int .i64 ((withinE a b k).1 : Int), .bool (withinE a b k).2]) ∧ Below w.heap.size w w' := by
  have HT := Lib.hid (refDistance11_any A A' n c m c' a b w h h' hn hm)
  unfold withinE
  obtain ⟨d, hd⟩ : ∃ d, edD a b = d := ⟨_, rfl⟩
  rw [hd] at HT ⊢
  clear h h' hd
  by_cases hk : (d : Int) ≤ k
  · rw [if_pos hk]
    have t1 : decide ((d : Int) ≤ k) = true := decide_eq_true hk
    go_enter Try.func14, Try.ntmps14
    go_wp2_with fail
    refine HT.out.mono ?_
    rintro e w1 ⟨rfl, k1⟩
    go_wp2
    go_ret2
    exact ⟨rfl, k1⟩
  · rw [if_neg hk]
    have t1 : decide ((d : Int) ≤ k) = false := decide_eq_false hk
    go_enter Try.func14, Try.ntmps14
    go_wp2_with fail
    refine HT.out.mono ?_
    rintro e w1 ⟨rfl, k1⟩
    go_wp2
    go_ret2
    exact ⟨rfl, k1⟩

theorem iterPos_E {w : World} {k p : Nat} {s : ByteArray} (h : w.heap[k]? = some (.stringIter s p)) : w.iterPos k = p := by simp [World.iterPos, h]
theorem own_iterE {w : World} {B e size n : Nat} {v : Value} {xs : List Value} {k : Nat} {s : ByteArray} {pos : Nat} (h : w.ownsRow B e size v n xs) (hk : w.heap[k]? = some (.stringIter s pos)) (pos' : Nat) : (w.iterAt k s pos').ownsRow B e size v n xs := by
  refine ⟨h.1, ?_⟩
  rcases h.2 with h0 | ⟨g, cap, cur, hv, hb, hg, rest⟩
  · exact .inl h0
  · exact .inr ⟨g, cap, cur, hv, hb, (Lib.iterAt_other _ _ _ _ _ (fun e => by subst e; rw [hk] at hg; cases hg)).trans hg, rest⟩

set_option maxRecDepth 20000 in
set_option maxHeartbeats 3200000 in
theorem refChars11_any (s : List UInt8) (w : World) (hs : s.length ≤ 1000000) :
    Calls Try.prog 19 #[.string (str s)] w fun e w' => ∃ A n c, e = .returned (.slice A n c) ∧ Arr iv w' w'.heap.size (.slice A n c) (charsE s) ∧ Below w.heap.size w w' := by
  have hsz : (str s).size = s.length := rfl
  go_enter Try.func19, Try.ntmps19
  go_wp2
  go_loopw [3] (fun v wr => ∃ (pos : Nat) (l : List Nat), wr.heap[w.heap.size]? = some (.stringIter (str s) pos) ∧ Hid (charsE s = l.map (fun d : Nat => (d : Int)) ++ runesAt (str s) pos) ∧ l.length ≤ pos ∧ wr.ownsRow (w.heap.size + 1) 3 1 v l.length (l.map nv) ∧ Below w.heap.size w wr) (fun _ wr => s.length - wr.iterPos w.heap.size)
  case atStart =>
    exact ⟨0, [], World.iter_heap w (str s) 0, Lib.hid rfl, Nat.le_refl _, World.ownsRow_nil _ _ _ _, (Below.refl _ _).alloc (Nat.le_refl _) _⟩
  case round =>
    obtain ⟨pos, l, hit, HP, hlp, hown, hb⟩ := hrel
    have hks : w.heap.size < wr.heap.size := (Array.getElem?_eq_some_iff.1 hit).1
    by_cases hp : pos < s.length
    · have hown2 := own_iterE hown hit (pos + (Utf8.decode (str s) pos).2)
      obtain ⟨c, n, hcn⟩ : ∃ c n, Utf8.decode (str s) pos = (c, n) := ⟨_, _, rfl⟩
      obtain ⟨hst, hn1⟩ := runes_step (str s) pos c n hp hcn
      have hnx : ∀ ty, (Instr.next (.pointer (some ⟨w.heap.size, 0, none⟩)) true ty).run Try.prog wr = _ := fun ty => Lib.run_next_any_at wr w.heap.size (str s) pos ty hit hp
      have hit2 := Lib.iterAt_heap wr w.heap.size (str s) pos (pos + (Utf8.decode (str s) pos).2) hit
      have hbw2 := Lib.below_iterAt hb (k := w.heap.size) (Nat.le_refl _) (str s) (pos + (Utf8.decode (str s) pos).2)
      have hcm := decode_le (str s) pos
      simp only [hcn] at hnx hit2 hbw2 hcm hown2
      have hcz : (c : Int) ≤ 2147483647 := by omega
      have hcz0 : (0 : Int) ≤ (c : Int) := by omega
      have HN : Hid (charsE s = (l ++ [c]).map (fun d : Nat => (d : Int)) ++ runesAt (str s) (pos + n)) := Lib.hid (by
        rw [HP.out, hst]
        simp)
      have hsb : w.heap.size + 1 ≤ (wr.iterAt w.heap.size (str s) (pos + n)).heap.size := by rw [Lib.iterAt_size]; omega
      clear hcn hst
      go_wp2_with (at_builtin; refine append_int (wr.iterAt w.heap.size (str s) (pos + n)) rfl (.tmp 11) (.tmp 14) rfl (w.heap.size + 1) u3 l rfl hown2 c _ rfl rfl (by omega) hsb ?_; intro r1 w3 hown3 hb3)
      go_roundw
      case rel => exact ⟨pos + n, l ++ [c], (hb3.block _ (by omega)).trans hit2, HN, by rw [List.length_append, List.length_singleton]; omega, hown3, hbw2.trans (hb3.mono (by omega))⟩
      case measure =>
        rw [iterPos_E ((hb3.block _ (by omega)).trans hit2), iterPos_E hit]
        omega
    · have HE : Hid (charsE s = l.map (fun d : Nat => (d : Int))) := Lib.hid (by
        rw [HP.out, runes_end (str s) pos (by omega), List.append_nil])
      have hnx : ∀ ty, (Instr.next (.pointer (some ⟨w.heap.size, 0, none⟩)) true ty).run Try.prog wr = _ := fun ty => Lib.run_next_end_at wr w.heap.size (str s) pos ty hit hp
      have hA := (Arr.of_own hown).int
      obtain ⟨A, c, rfl⟩ := hA.form
      have HA := Lib.hid hA
      clear hA hown
      go_wp2
      go_ret
      rw [HE.out]
      exact ⟨_, _, _, rfl, HA.out, hb⟩

end Go.Proofs.Ytlloofmmblhnjaa
