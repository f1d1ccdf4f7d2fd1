/-
  A range over an iterator that lays blocks of its own between two rounds and never is told to stop: outside of a round, and within one.
  The program's iterator over rows.
-/
import Derived.RangeFuncNested
import Derived.RangeFuncLeaves
import Derived.RangeFuncBound
import Derived.RangeFuncCalls
import Derived.Test.YtlloofmmblhnjaaWords
import Derived.Test.YtlloofmmblhnjaaEdNextW
import Derived.Shelf.Abstract
import Derived.Shelf.RegionOpen
import Derived.WalkKit
import Derived.OwnWalkIn
import Derived.TacticsInMore
import Derived.LoopNIn
import Derived.LoopIn
namespace Go.Proofs.Ytlloofmmblhnjaa
open Go.RowKit

/-- A block of integers. -/
def IntObj (o : Obj) : Prop := ∃ cs z, o = .cells cs 3 z
/-- Between two rounds: what lay below lo lies as it lay, and so do the block g and all integers. -/
structure Soft (lo : Nat) (g : Option Nat) (A B : World) : Prop where
  os : B.os = A.os
  tape : B.tape = A.tape
  output : B.output = A.output
  size : A.heap.size ≤ B.heap.size
  block : ∀ (k : Nat) (o : Obj), A.heap[k]? = some o → (k < lo ∨ g = some k ∨ IntObj o) → B.heap[k]? = some o

theorem Soft.refl (lo : Nat) (g : Option Nat) (A : World) : Soft lo g A A := ⟨rfl, rfl, rfl, Nat.le_refl _, fun _ _ h _ => h⟩
theorem Soft.trans {lo : Nat} {g : Option Nat} {A B C : World} (h : Soft lo g A B) (k : Soft lo g B C) : Soft lo g A C :=
  ⟨k.os.trans h.os, k.tape.trans h.tape, k.output.trans h.output, Nat.le_trans h.size k.size, fun i o hi ho => k.block i o (h.block i o hi ho) ho⟩
theorem Soft.mono {lo lo' : Nat} {g : Option Nat} {A B : World} (h : Soft lo g A B) (hl : lo' ≤ lo) : Soft lo' g A B :=
  ⟨h.os, h.tape, h.output, h.size, fun k o hk ho => h.block k o hk (by
    rcases ho with h1 | h1
    · exact .inl (by omega)
    · exact .inr h1)⟩
theorem Soft.of_below {lo : Nat} {g : Option Nat} {A B : World} (h : Below A.heap.size A B) : Soft lo g A B :=
  ⟨h.os, h.tape, h.output, h.size, fun k _ hk _ => (h.block k (Array.getElem?_eq_some_iff.1 hk).1).trans hk⟩
theorem Soft.alloc (lo : Nat) (g : Option Nat) (A : World) (o : Obj) : Soft lo g A (A.alloc o) := Soft.of_below ((Below.refl _ A).alloc (Nat.le_refl _) o)
theorem Soft.of_grown {lo r : Nat} {g : Option Nat} {A B : World} {o : Obj} (h : A.grownBy B (some r)) (hr : lo ≤ r) (ho : A.heap[r]? = some o) (hg : g ≠ some r) (hc : ¬ IntObj o) : Soft lo g A B :=
  ⟨h.os, h.tape, h.output, h.size, fun k q hk hq => (h.block k (Array.getElem?_eq_some_iff.1 hk).1 (fun e => by
    cases e
    rw [ho] at hk
    cases hk
    rcases hq with h1 | h1 | h1
    · omega
    · exact hg h1
    · exact hc h1)).trans hk⟩
theorem Soft.putObj {lo : Nat} {g : Option Nat} {A : World} {r : Nat} {o : Obj} (o' : Obj) (hr : lo ≤ r) (ho : A.heap[r]? = some o) (hc : o.isCells = false) (hg : g ≠ some r) : Soft lo g A (A.putObj r o') :=
  Soft.of_grown (grownBy_putObj' A r o') hr ho hg (fun ⟨cs, z, e⟩ => by rw [e] at hc; cases hc)
theorem Soft.below {lo n : Nat} {g : Option Nat} {w A B : World} (h : Soft lo g A B) (hb : Below n w A) (hn : n ≤ lo) (hw : n ≤ w.heap.size) : Below n w B :=
  ⟨h.os.trans hb.os, h.tape.trans hb.tape, h.output.trans hb.output, Nat.le_trans hb.size h.size, fun k hk => by
    have hA : k < A.heap.size := by have := hb.size; omega
    exact ((h.block k _ (Array.getElem?_eq_getElem hA) (.inl (by omega))).trans (Array.getElem?_eq_getElem hA).symm).trans (hb.block k hk)⟩
theorem Soft.keep {lo k : Nat} {g : Option Nat} {A B : World} (h : Soft lo g A B) (hk : k < A.heap.size) (hq : k < lo ∨ g = some k ∨ ∀ o, A.heap[k]? = some o → IntObj o) : B.heap[k]? = A.heap[k]? := by
  have hA := Array.getElem?_eq_getElem hk
  rw [hA]
  exact h.block k _ hA (by
    rcases hq with h1 | h1 | h1
    · exact .inl h1
    · exact .inr (.inl h1)
    · exact .inr (.inr (h1 _ hA)))

/-- What a round leaves alone: the blocks of U, and those from lo on but for g; g' is g or a new block. -/
structure RoundV (lo : Nat) (U : Nat → Prop) (g g' : Option Nat) (A B : World) : Prop where
  own : g' = g ∨ ∃ k, g' = some k ∧ A.heap.size ≤ k
  size : A.heap.size ≤ B.heap.size
  block : ∀ k, k < A.heap.size → (U k ∨ (lo ≤ k ∧ g ≠ some k)) → B.heap[k]? = A.heap[k]?
theorem RoundV.trans {lo : Nat} {U : Nat → Prop} {g g' : Option Nat} {A B C : World} (h : RoundV lo U g g A B) (k : RoundV lo U g g' B C) : RoundV lo U g g' A C :=
  ⟨by rcases k.own with e | ⟨r, e, hr⟩
      · exact .inl e
      · exact .inr ⟨r, e, Nat.le_trans h.size hr⟩,
   Nat.le_trans h.size k.size, fun i hi hU => (k.block i (Nat.lt_of_lt_of_le hi h.size) hU).trans (h.block i hi hU)⟩
theorem RoundV.of_below {lo : Nat} {U : Nat → Prop} {g : Option Nat} {A B : World} (h : Below A.heap.size A B) : RoundV lo U g g A B := ⟨.inl rfl, h.size, fun k hk _ => h.block k hk⟩
theorem RoundV.cells {lo : Nat} {U : Nat → Prop} {g g' : Option Nat} {A B : World} (h : RoundV lo U g g' A B) {b : Nat} {o : Obj} (hU : U b ∨ (lo ≤ b ∧ g ≠ some b)) (hb : A.heap[b]? = some o) : B.heap[b]? = some o :=
  (h.block b (Array.getElem?_eq_some_iff.1 hb).1 hU).trans hb

/-- The contract of an iterator that never is told to stop; V is what it says of what it hands out. -/
def SeqV {α : Type} (F : Fence) (n : Nat) (P : Program) (gf : Nat) (lb : Array Value) (encs : α → Array Value) (U : Nat → Prop) (V : List α → α → World → Prop) (S : List α → Prop) (N : Nat) (w : World) : Prop :=
  ∀ (l : Nat) (J : Option Nat → List α → World → Prop) (g0 : Option Nat) (W : World), Below w.heap.size w W →
    (∀ g s A, J g s A → ∀ k, g = some k → ∃ o, A.heap[k]? = some o ∧ o.isCells = true) →
    (∀ g s A B, J g s A → Soft W.heap.size g A B → J g s B) →
    (∀ g pre x W1, J g pre W1 → V pre x W1 → pre.length < N → YieldAt F (n - 1) P l (encs x) W1 fun e W' =>
      e = .returned (.bool true) ∧ ∃ g', J g' (pre ++ [x]) W' ∧ RoundV W.heap.size U g g' W1 W') →
    J g0 [] W →
    CallsIn F n P gf (#[.func (.yield l) #[] #[]] ++ lb) W fun e W' => (∃ v, e = .returned v) ∧ ∃ xs, S xs ∧ ∃ g, J g xs W'
theorem SeqV.inRound {α : Type} {F : Fence} {n : Nat} {P : Program} {gf : Nat} {lb : Array Value} {encs : α → Array Value} {U : Nat → Prop} {V : List α → α → World → Prop} {S : List α → Prop} {N : Nat} {w : World} (l : Nat)
    (h : SeqV F n P gf lb encs U V S N w) : SeqV (F.inRound l) n P gf lb encs U V S N w := h

/-- How the body of a round is left. -/
def postV {α : Type} (lo : Nat) (U : Nat → Prop) (I : Option Nat → List α → World → Prop) (g : Option Nat) (xs : List α) (W : World) : Exit → Act → World → Prop
  | .normal, _, W' => ∃ g', I g' xs W' ∧ RoundV lo U g g' W W'
  | .ret, _, _ => False
  | .exit _, _, _ => False
  | .goto _, _, _ => False
  | .panic _, _, _ => False
  | .outgrown, _, _ => False

variable {F : Fence} {n : Nat} {P : Program}

theorem wpIn_rangeFunc_vsep {α : Type} {g : Operand} {ps : Array Tmp} {assign body : Code} {Q : Exit → Act → World → Prop} {a : Act} {w : World}
    (hro : F.round = none) (h1 : 1 ≤ n) {gf : Nat} {lb : Array Value} (hg : a.eval g = .func (.func gf) #[] lb) (hFg : F.fn gf) (eg : ∀ args w, (callFunc gf args).run P w = .ok (.enter gf args) w)
    {encs : α → Array Value} {U : Nat → Prop} {V : List α → α → World → Prop} {S : List α → Prop} {N : Nat} {w0 : World} (hseq : SeqV F (n - 1) P gf lb encs U V S N w0)
    (hb0 : Below w0.heap.size w0 w) (hps : ∀ x, (encs x).size = ps.size)
    (I : Option Nat → List α → World → Prop)
    (hIc : ∀ g s A, I g s A → ∀ k, g = some k → ∃ o, A.heap[k]? = some o ∧ o.isCells = true)
    (hI : ∀ g s A B, I g s A → Soft w.heap.size g A B → I g s B)
    (g0 : Option Nat) (h0 : I g0 [] w) (Ax : List α → α → Act → World → Prop)
    (hAx : ∀ pre x a' A k o o', Ax pre x a' A → A.heap[k]? = some o → o.isCells = false → Ax pre x a' (A.putObj k o'))
    (hassign : ∀ (l : Nat) (go : Option Nat) (pre : List α) (x : α) (W : World) (K : Act → World → Prop), I go pre W → V pre x W → pre.length < N → (∀ a' W', RoundV w.heap.size U go go W W' → I go pre W' → Ax pre x a' W' → K a' W') →
      assign.wpIn (F.inRound l) (n - 1 - 1) P (Exit.then K (fun _ _ _ => False)) { tmps := (ps.zip (encs x)).foldl (fun t (p, v) => t.setIfInBounds p v) a.tmps, defers := [] } W)
    (hbody : ∀ (l : Nat) (go : Option Nat) (pre : List α) (x : α) (a' : Act) (W : World), w.heap.size ≤ l → (∃ r, W.heap[l]? = some (.loop r)) → I go pre W → Ax pre x a' W → pre.length < N → body.wpIn (F.inRound l) (n - 1 - 1) P (postV w.heap.size U I go (pre ++ [x]) W) a' W)
    (hdone : ∀ (D : Nat) (xs : List α) (go : Option Nat) (W : World), w.heap.size ≤ D → S xs → I go xs W → W.heap[D]? = some (.deferred (some [])) → Q .normal { a with defers := { target := .collected D, args := #[] } :: a.defers } W) :
    (Code.rangeFunc g ps assign body).wpIn F n P Q a w := by
  refine wpIn_rangeFunc ?_
  intro fn hfn
  rw [hro]
  obtain ⟨rec, hrec⟩ : ∃ rec : LoopState → Option Code → Loop, rec = fun st pe => { state := st, pending := pe, fn, tmps := a.tmps, params := ps, assign, body, defers := w.heap.size } := ⟨_, rfl⟩
  obtain ⟨W1, hW1⟩ : ∃ W1, (w.alloc (.deferred (some []))).alloc (.loop (rec .ready none)) = W1 := ⟨_, rfl⟩
  have hL1 : W1.heap[w.heap.size + 1]? = some (.loop (rec .ready none)) := by
    rw [← hW1]; have := World.alloc_heap_new (w.alloc (.deferred (some []))) (.loop (rec .ready none)); rwa [World.size_alloc] at this
  have hK1 : W1.heap[w.heap.size]? = some (.deferred (some [])) := by
    rw [← hW1]; exact (Below.heap_alloc _ _ _ (by simp)).trans (World.alloc_heap_new w _)
  have hs1 : W1.heap.size = w.heap.size + 2 := by rw [← hW1]; simp
  have hI1 : I g0 [] W1 := by rw [← hW1]; exact hI _ _ _ _ (hI _ _ _ _ h0 (Soft.alloc _ _ _ _)) (Soft.alloc _ _ _ _)
  have hb1 : Below w0.heap.size w0 W1 := by
    rw [← hW1]; exact hb0.trans ((((Below.refl _ w).alloc (Nat.le_refl _) _).alloc (by simp) _).mono hb0.size)
  have hne : ∀ {go : Option Nat} {s : List α} {A : World} {k : Nat} {o : Obj}, I go s A → A.heap[k]? = some o → o.isCells = false → go ≠ some k := by
    intro go s A k o hi hk ho e
    obtain ⟨o', h1', h2'⟩ := hIc _ _ _ hi k e
    rw [hk] at h1'; cases h1'; rw [ho] at h2'; cases h2'
  have hput : ∀ {go : Option Nat} {s : List α} {A : World} {k : Nat} {o : Obj} (o' : Obj), I go s A → w.heap.size ≤ k → A.heap[k]? = some o → o.isCells = false → I go s (A.putObj k o') :=
    fun o' hi hk ho hc => hI _ _ _ _ hi (Soft.putObj o' hk ho hc (hne hi ho hc))
  refine ⟨w.heap.size + 1, [{ target := .collected w.heap.size, args := #[] }], W1, { target := .fn (.func gf) lb, args := #[.func (.yield (w.heap.size + 1)) #[] #[]] }, W1, gf,
    #[.func (.yield (w.heap.size + 1)) #[] #[]] ++ lb, W1, ?_, ?_, ?_, ?_, fun _ => h1, ?_⟩
  · rw [← hW1, hrec]; exact run_enterLoop_outer _ _ _ _ _
  · simp only [resolve, hg]
    simp [go_sem]
  · intro f' hf'; simp [Target.leads] at hf'; subst hf'; exact hFg
  · simp [invoke, go_sem, eg]
  · refine (hseq (w.heap.size + 1)
      (fun go pre W => I go pre W ∧ W.heap[w.heap.size + 1]? = some (.loop (rec .ready none)) ∧ W.heap[w.heap.size]? = some (.deferred (some [])))
      g0 W1 hb1
      (fun go s A hs k e => hIc _ _ _ hs.1 k e)
      (fun go s A B hs hA => ⟨hI _ _ _ _ hs.1 (hA.mono (by omega)), hA.block _ _ hs.2.1 (.inl (by omega)), hA.block _ _ hs.2.2 (.inl (by omega))⟩)
      ?_ ⟨hI1, hL1, hK1⟩).mono ?_
    · -- one round
      rintro go pre x W ⟨hi, hl, hk⟩ hV hlen
      have hy := run_yield (P := P) (args := encs x) hl (by rw [hrec]; exact hps x)
      rw [hrec] at hy
      refine ⟨fn, _, assign, body, hy, roundIn_of_wpIn hfn (hassign _ go pre x W _ hi hV hlen ?_)⟩
      clear hy
      intro a' Wa hRa hia hax
      have hgl := hne hi hl rfl
      have hgk := hne hi hk rfl
      have hla : Wa.heap[w.heap.size + 1]? = some (.loop (rec .ready none)) := (hRa.block _ (Array.getElem?_eq_some_iff.1 hl).1 (.inr ⟨by omega, hgl⟩)).trans hl
      have hka : Wa.heap[w.heap.size]? = some (.deferred (some [])) := (hRa.block _ (Array.getElem?_eq_some_iff.1 hk).1 (.inr ⟨by omega, hgk⟩)).trans hk
      have hlt : w.heap.size + 1 < Wa.heap.size := (Array.getElem?_eq_some_iff.1 hla).1
      refine ⟨_, run_beginRound hla (by rw [hrec]), ?_⟩
      have hl2 : (Wa.putObj (w.heap.size + 1) (.loop { rec .ready none with state := .busy })).heap[w.heap.size + 1]? = some (.loop { rec .ready none with state := .busy }) := World.putObj_heap_same hlt
      have hk2 : (Wa.putObj (w.heap.size + 1) (.loop { rec .ready none with state := .busy })).heap[w.heap.size]? = some (.deferred (some [])) := (World.putObj_heap_other (by omega)).trans hka
      have hsz : ∀ (A : World) (o : Obj), (A.putObj (w.heap.size + 1) o).heap.size = A.heap.size := fun A o => by simp
      refine wpIn_mono (hbody _ go pre x a' _ (by omega) ⟨_, hl2⟩ (hput _ hia (by omega) hla rfl) (hAx _ _ _ _ _ _ _ hax hla rfl) hlen) ?_
      rintro e a3 W3 hp
      cases e with
      | normal =>
        obtain ⟨g', hi3, hR⟩ := hp
        have hl3 : W3.heap[w.heap.size + 1]? = some (.loop { rec .ready none with state := .busy }) := (hR.block _ (by rw [hsz]; omega) (.inr ⟨by omega, hgl⟩)).trans hl2
        have hk3 : W3.heap[w.heap.size]? = some (.deferred (some [])) := (hR.block _ (by rw [hsz]; omega) (.inr ⟨by omega, hgk⟩)).trans hk2
        have hr := run_endRound (P := P) none hl3
        rw [hrec] at hr
        have hrl := World.putObj_heap_same (o := .loop (rec .ready none)) (Array.getElem?_eq_some_iff.1 hl3).1
        refine ⟨_, _, hr, rfl, g', ⟨?_, ?_, ?_⟩, ⟨?_, ?_, ?_⟩⟩
        · have := hput (.loop (rec .ready none)) hi3 (by omega) hl3 rfl
          rw [hrec] at this
          exact this
        · rw [hrec] at hrl ⊢
          exact hrl
        · exact (World.putObj_heap_other (by omega)).trans hk3
        · rcases hR.own with e | ⟨k, e, hk'⟩
          · exact .inl e
          · rw [hsz] at hk'; exact .inr ⟨k, e, Nat.le_trans hRa.size hk'⟩
        · have := hR.size
          rw [hsz] at this; rw [hsz]; exact Nat.le_trans hRa.size this
        · intro k hk' hUk
          by_cases ek : k = w.heap.size + 1
          · subst ek
            rw [hl]
            rw [hrec] at hrl ⊢
            exact hrl
          · have hUk' : U k ∨ (w.heap.size ≤ k ∧ go ≠ some k) := by
              rcases hUk with h | h
              · exact .inl h
              · exact .inr ⟨by omega, h.2⟩
            exact (World.putObj_heap_other ek).trans ((hR.block k (by rw [hsz]; exact Nat.lt_of_lt_of_le hk' hRa.size) hUk').trans ((World.putObj_heap_other ek).trans (hRa.block k hk' hUk')))
      | ret => exact hp.elim
      | exit id => exact hp.elim
      | goto t => exact hp.elim
      | panic ch => exact hp.elim
      | outgrown => exact hp.elim
    · -- behind the iterator
      rintro e W2 ⟨⟨v, rfl⟩, xs, hS, go, hi, hl, hk⟩
      exact ⟨none, _, by have := run_endLoop (P := P) hl (by rw [hrec]; simp); rw [hrec] at this; exact this, hdone _ xs go _ (Nat.le_refl _) hS (hput _ hi (by omega) hl rfl) ((World.putObj_heap_other (by omega)).trans hk)⟩

theorem wpIn_rangeFunc_vsepN {α : Type} {g : Operand} {ps : Array Tmp} {assign body : Code} {Q : Exit → Act → World → Prop} {a : Act} {w : World}
    {l₀ : Nat} {r₀ : Loop} (hro : F.round = some l₀) (hl₀ : w.heap[l₀]? = some (.loop r₀)) (h1 : 1 ≤ n) {gf : Nat} {lb : Array Value} (hg : a.eval g = .func (.func gf) #[] lb) (hFg : F.fn gf) (eg : ∀ args w, (callFunc gf args).run P w = .ok (.enter gf args) w)
    {encs : α → Array Value} {U : Nat → Prop} {V : List α → α → World → Prop} {S : List α → Prop} {N : Nat} {w0 : World} (hseq : SeqV F (n - 1) P gf lb encs U V S N w0)
    (hb0 : Below w0.heap.size w0 w) (hps : ∀ x, (encs x).size = ps.size)
    (I : Option Nat → List α → World → Prop)
    (hIc : ∀ g s A, I g s A → ∀ k, g = some k → ∃ o, A.heap[k]? = some o ∧ o.isCells = true)
    (hI : ∀ g s A B, I g s A → Soft w.heap.size g A B → I g s B)
    (g0 : Option Nat) (h0 : I g0 [] w) (Ax : List α → α → Act → World → Prop)
    (hAx : ∀ pre x a' A k o o', Ax pre x a' A → A.heap[k]? = some o → o.isCells = false → Ax pre x a' (A.putObj k o'))
    (hassign : ∀ (l : Nat) (go : Option Nat) (pre : List α) (x : α) (W : World) (K : Act → World → Prop), I go pre W → V pre x W → pre.length < N → (∀ a' W', RoundV w.heap.size U go go W W' → I go pre W' → Ax pre x a' W' → K a' W') →
      assign.wpIn (F.inRound l) (n - 1 - 1) P (Exit.then K (fun _ _ _ => False)) { tmps := (ps.zip (encs x)).foldl (fun t (p, v) => t.setIfInBounds p v) a.tmps, defers := [] } W)
    (hbody : ∀ (l : Nat) (go : Option Nat) (pre : List α) (x : α) (a' : Act) (W : World), w.heap.size ≤ l → (∃ r, W.heap[l]? = some (.loop r)) → I go pre W → Ax pre x a' W → pre.length < N → body.wpIn (F.inRound l) (n - 1 - 1) P (postV w.heap.size U I go (pre ++ [x]) W) a' W)
    (hdone : ∀ (xs : List α) (go : Option Nat) (W : World), S xs → I go xs W → Q .normal a W) :
    (Code.rangeFunc g ps assign body).wpIn F n P Q a w := by
  refine wpIn_rangeFunc ?_
  intro fn hfn
  rw [hro]
  obtain ⟨rec, hrec⟩ : ∃ rec : LoopState → Option Code → Loop, rec = fun st pe => { state := st, pending := pe, fn, tmps := a.tmps, params := ps, assign, body, defers := r₀.defers } := ⟨_, rfl⟩
  obtain ⟨W1, hW1⟩ : ∃ W1, w.alloc (.loop (rec .ready none)) = W1 := ⟨_, rfl⟩
  have hL1 : W1.heap[w.heap.size]? = some (.loop (rec .ready none)) := by rw [← hW1]; exact World.alloc_heap_new w _
  have hs1 : W1.heap.size = w.heap.size + 1 := by rw [← hW1]; simp
  have hI1 : I g0 [] W1 := by rw [← hW1]; exact hI _ _ _ _ h0 (Soft.alloc _ _ _ _)
  have hb1 : Below w0.heap.size w0 W1 := by
    rw [← hW1]; exact hb0.trans (((Below.refl _ w).alloc (Nat.le_refl _) _).mono hb0.size)
  have hne : ∀ {go : Option Nat} {s : List α} {A : World} {k : Nat} {o : Obj}, I go s A → A.heap[k]? = some o → o.isCells = false → go ≠ some k := by
    intro go s A k o hi hk ho e
    obtain ⟨o', h1', h2'⟩ := hIc _ _ _ hi k e
    rw [hk] at h1'; cases h1'; rw [ho] at h2'; cases h2'
  have hput : ∀ {go : Option Nat} {s : List α} {A : World} {k : Nat} {o : Obj} (o' : Obj), I go s A → w.heap.size ≤ k → A.heap[k]? = some o → o.isCells = false → I go s (A.putObj k o') :=
    fun o' hi hk ho hc => hI _ _ _ _ hi (Soft.putObj o' hk ho hc (hne hi ho hc))
  refine ⟨w.heap.size, [], W1, { target := .fn (.func gf) lb, args := #[.func (.yield w.heap.size) #[] #[]] }, W1, gf,
    #[.func (.yield w.heap.size) #[] #[]] ++ lb, W1, ?_, ?_, ?_, ?_, fun _ => h1, ?_⟩
  · rw [← hW1, hrec]; exact run_enterLoop_inner hl₀ _ _ _ _ _
  · simp only [resolve, hg]
    simp [go_sem]
  · intro f' hf'; simp [Target.leads] at hf'; subst hf'; exact hFg
  · simp [invoke, go_sem, eg]
  · refine (hseq w.heap.size
      (fun go pre W => I go pre W ∧ W.heap[w.heap.size]? = some (.loop (rec .ready none)))
      g0 W1 hb1
      (fun go s A hs k e => hIc _ _ _ hs.1 k e)
      (fun go s A B hs hA => ⟨hI _ _ _ _ hs.1 (hA.mono (by omega)), hA.block _ _ hs.2 (.inl (by omega))⟩)
      ?_ ⟨hI1, hL1⟩).mono ?_
    · -- one round
      rintro go pre x W ⟨hi, hl⟩ hV hlen
      have hy := run_yield (P := P) (args := encs x) hl (by rw [hrec]; exact hps x)
      rw [hrec] at hy
      refine ⟨fn, _, assign, body, hy, roundIn_of_wpIn hfn (hassign _ go pre x W _ hi hV hlen ?_)⟩
      clear hy
      intro a' Wa hRa hia hax
      have hgl := hne hi hl rfl
      have hla : Wa.heap[w.heap.size]? = some (.loop (rec .ready none)) := (hRa.block _ (Array.getElem?_eq_some_iff.1 hl).1 (.inr ⟨by omega, hgl⟩)).trans hl
      have hlt : w.heap.size < Wa.heap.size := (Array.getElem?_eq_some_iff.1 hla).1
      refine ⟨_, run_beginRound hla (by rw [hrec]), ?_⟩
      have hl2 : (Wa.putObj w.heap.size (.loop { rec .ready none with state := .busy })).heap[w.heap.size]? = some (.loop { rec .ready none with state := .busy }) := World.putObj_heap_same hlt
      have hsz : ∀ (A : World) (o : Obj), (A.putObj w.heap.size o).heap.size = A.heap.size := fun A o => by simp
      refine wpIn_mono (hbody _ go pre x a' _ (by omega) ⟨_, hl2⟩ (hput _ hia (by omega) hla rfl) (hAx _ _ _ _ _ _ _ hax hla rfl) hlen) ?_
      rintro e a3 W3 hp
      cases e with
      | normal =>
        obtain ⟨g', hi3, hR⟩ := hp
        have hl3 : W3.heap[w.heap.size]? = some (.loop { rec .ready none with state := .busy }) := (hR.block _ (by rw [hsz]; omega) (.inr ⟨by omega, hgl⟩)).trans hl2
        have hr := run_endRound (P := P) none hl3
        rw [hrec] at hr
        have hrl := World.putObj_heap_same (o := .loop (rec .ready none)) (Array.getElem?_eq_some_iff.1 hl3).1
        refine ⟨_, _, hr, rfl, g', ⟨?_, ?_⟩, ⟨?_, ?_, ?_⟩⟩
        · have := hput (.loop (rec .ready none)) hi3 (by omega) hl3 rfl
          rw [hrec] at this
          exact this
        · rw [hrec] at hrl ⊢
          exact hrl
        · rcases hR.own with e | ⟨k, e, hk'⟩
          · exact .inl e
          · rw [hsz] at hk'; exact .inr ⟨k, e, Nat.le_trans hRa.size hk'⟩
        · have := hR.size
          rw [hsz] at this; rw [hsz]; exact Nat.le_trans hRa.size this
        · intro k hk' hUk
          by_cases ek : k = w.heap.size
          · subst ek
            rw [hl]
            rw [hrec] at hrl ⊢
            exact hrl
          · have hUk' : U k ∨ (w.heap.size ≤ k ∧ go ≠ some k) := by
              rcases hUk with h | h
              · exact .inl h
              · exact .inr ⟨by omega, h.2⟩
            exact (World.putObj_heap_other ek).trans ((hR.block k (by rw [hsz]; exact Nat.lt_of_lt_of_le hk' hRa.size) hUk').trans ((World.putObj_heap_other ek).trans (hRa.block k hk' hUk')))
      | ret => exact hp.elim
      | exit id => exact hp.elim
      | goto t => exact hp.elim
      | panic ch => exact hp.elim
      | outgrown => exact hp.elim
    · -- behind the iterator
      rintro e W2 ⟨⟨v, rfl⟩, xs, hS, go, hi, hl⟩
      exact ⟨none, _, by have := run_endLoop (P := P) hl (by rw [hrec]; simp); rw [hrec] at this; exact this, hdone xs go _ hS (hput _ hi (Nat.le_refl _) hl rfl)⟩

end Go.Proofs.Ytlloofmmblhnjaa

namespace Go.Proofs.Ytlloofmmblhnjaa
open Go.RowKit Go.Shelf
attribute [local go_sem] Oper.semAt_some

theorem round_anyE {m m' : Nat} {P : Program} {l l' : Nat} {f : FuncId} {tmps : Array Value} {assign body : Code} {w : World} {R : Ending → World → Prop}
    (h : RoundIn Fence.wide m P l f tmps assign body w R) : RoundIn (Fence.wide.inRound l') m' P l f tmps assign body w R := ⟨h.1, fun c cs _ => h.2 c cs (room_wide _)⟩
theorem round_wideE {m m' : Nat} {P : Program} {l : Nat} {f : FuncId} {tmps : Array Value} {assign body : Code} {w : World} {R : Ending → World → Prop}
    (h : RoundIn Fence.wide m P l f tmps assign body w R) : RoundIn Fence.wide m' P l f tmps assign body w R := ⟨h.1, fun c cs _ => h.2 c cs (room_wide _)⟩

/-- A row: its cost, and the block that its places lie in. -/
abbrev RowX := Nat × Nat
def rowCells (a b : List Int) (most : Int) (x : RowX) : Array Value := #[.int .i64 (x.1 : Int), .int .i64 (rowLo a b most x.1), .slice (some ⟨x.2, 0, none⟩) (rowN a b most x.1) (rowN a b most x.1)]
def rowVal (a b : List Int) (most : Int) (x : RowX) : Value := .agg (rowCells a b most x)

/-- What stands at the head of a round of the iterator. -/
structure RowsI (a b : List Int) (T : Nat → Nat → Nat) (most : Int) (pc : Array Value) (n0 Bp B0 lo : Nat) (w0 : World) (J : Option Nat → List RowX → World → Prop) (x : RowX) (Br : Nat) (g : Option Nat) (pre : List RowX) (wr : World) : Prop where
  j : J g pre wr
  row : RowB wr x.2 (rowL a b T most x.1)
  box : Box wr Br 57 (rowCells a b most x)
  br : lo ≤ Br
  gr : g ≠ some Br
  gb : x.2 = B0 ∨ (lo ≤ x.2 ∧ g ≠ some x.2)
  pair : Box wr Bp 52 pc
  old : ∀ k, k < n0 → wr.heap[k]? = w0.heap[k]?
  size : lo ≤ wr.heap.size
  bp : Bp < lo
  bn : n0 ≤ lo

section
variable {a b : List Int} {T : Nat → Nat → Nat} {most : Int} {pc : Array Value} {n0 Bp B0 lo : Nat} {w0 wr wr' : World} {J : Option Nat → List RowX → World → Prop} {x : RowX} {Br : Nat} {g : Option Nat} {pre : List RowX}
/-- Blocks are laid. -/
theorem RowsI.below (hJa : ∀ g s A B, J g s A → Soft lo g A B → J g s B) (h : RowsI a b T most pc n0 Bp B0 lo w0 J x Br g pre wr) (hb : Below wr.heap.size wr wr') : RowsI a b T most pc n0 Bp B0 lo w0 J x Br g pre wr' where
  j := hJa _ _ _ _ h.j (Soft.of_below hb)
  row := h.row.keep (hb.block _ h.row.lt)
  box := h.box.below hb h.box.lt
  br := h.br
  gr := h.gr
  gb := h.gb
  pair := h.pair.below hb h.pair.lt
  old := fun k hk => (hb.block k (by have := h.size; have := h.bn; omega)).trans (h.old k hk)
  size := Nat.le_trans h.size hb.size
  bp := h.bp
  bn := h.bn
/-- A round of the caller's. -/
theorem RowsI.round {g' : Option Nat} (h : RowsI a b T most pc n0 Bp B0 lo w0 J x Br g pre wr) (hJ : J g' (pre ++ [x]) wr') (hR : RoundV lo (fun k => k < n0 ∨ k = Bp ∨ k = B0) g g' wr wr') : RowsI a b T most pc n0 Bp B0 lo w0 J x Br g' (pre ++ [x]) wr' where
  j := hJ
  row := h.row.keep (hR.block _ h.row.lt (by
    rcases h.gb with e | e
    · exact .inl (.inr (.inr e))
    · exact .inr e))
  box := hR.cells (.inr ⟨h.br, h.gr⟩) h.box
  br := h.br
  gr := fun e => by
    rcases hR.own with e2 | ⟨r, e2, hr⟩
    · exact h.gr (e2.symm.trans e)
    · have := h.box.lt
      have : r = Br := by rw [e2] at e; exact Option.some.inj e
      omega
  gb := by
    rcases h.gb with e | ⟨e1, e2⟩
    · exact .inl e
    · refine .inr ⟨e1, fun e => ?_⟩
      rcases hR.own with e3 | ⟨r, e3, hr⟩
      · exact e2 (e3.symm.trans e)
      · have := h.row.lt
        have : r = x.2 := by rw [e3] at e; exact Option.some.inj e
        omega
  pair := hR.cells (.inl (.inr (.inl rfl))) h.pair
  old := fun k hk => (hR.block k (by have := h.size; have := h.bn; omega) (.inl (.inl hk))).trans (h.old k hk)
  size := Nat.le_trans h.size hR.size
  bp := h.bp
  bn := h.bn
/-- The next row stands in the box. -/
theorem RowsI.step (hJa : ∀ g s A B, J g s A → Soft lo g A B → J g s B) (hJc : ∀ g s A, J g s A → ∀ k, g = some k → ∃ o, A.heap[k]? = some o ∧ o.isCells = true) {x' : RowX} {wn : World} (h : RowsI a b T most pc n0 Bp B0 lo w0 J x Br g pre wr) (hb : Below wr.heap.size wr wn) (hB : wr.heap.size ≤ x'.2) (hrow : RowB wn x'.2 (rowL a b T most x'.1))
    (hg : wn.grownBy wr' (some Br)) (hbox : Box wr' Br 57 (rowCells a b most x')) : RowsI a b T most pc n0 Bp B0 lo w0 J x' Br g pre wr' := by
  have h1 := h.below hJa hb
  have hlt := h.box.lt
  have hgl : ∀ k, g = some k → k < wr.heap.size := fun k e => by
    obtain ⟨o, h1, _⟩ := hJc _ _ _ h.j k e
    exact (Array.getElem?_eq_some_iff.1 h1).1
  have hs : Soft lo g wn wr' := Soft.of_grown hg h.br h1.box h.gr (fun ⟨cs, z, e⟩ => by cases e)
  have hbr : ∀ k, k < lo → k ≠ Br := fun k hk => by have := h.br; omega
  exact {
    j := hJa _ _ _ _ h1.j hs
    row := hrow.keep (hg.block _ hrow.lt (fun e => by have := Option.some.inj e; omega))
    box := hbox
    br := h.br
    gr := h.gr
    gb := .inr ⟨Nat.le_trans h.size hB, fun e => by have := hgl _ e; omega⟩
    pair := h1.pair.grown hg (fun e => hbr _ h.bp (Option.some.inj e))
    old := fun k hk => (hg.block k (by have := h1.size; have := h1.bn; omega) (fun e => hbr k (by have := h.bn; omega) (Option.some.inj e))).trans (h1.old k hk)
    size := Nat.le_trans h1.size hg.size
    bp := h.bp
    bn := h.bn }
/-- The box is laid anew for the next round. -/
theorem RowsI.anew (hJa : ∀ g s A B, J g s A → Soft lo g A B → J g s B) (hJc : ∀ g s A, J g s A → ∀ k, g = some k → ∃ o, A.heap[k]? = some o ∧ o.isCells = true) (h : RowsI a b T most pc n0 Bp B0 lo w0 J x Br g pre wr) :
    RowsI a b T most pc n0 Bp B0 lo w0 J x wr.heap.size g pre (wr.alloc (.cells (rowCells a b most x) 57)) := by
  have h1 := h.below hJa (wr' := wr.alloc (.cells (rowCells a b most x) 57)) ((Below.refl _ wr).alloc (Nat.le_refl _) _)
  exact { h1 with
    box := Box.made _ _ _
    br := h.size
    gr := fun e => by
      obtain ⟨o, h2, _⟩ := hJc _ _ _ h.j _ e
      have := (Array.getElem?_eq_some_iff.1 h2).1
      omega }
end

/-- How many rows come from one of cost c0 on. -/
def rowCnt (D : Nat) (most : Int) (c0 : Nat) : Nat := min D (most.toNat + 1) - c0
/-- The cost that a box holds. -/
def costAt (v : Value) (wr : World) : Nat := match v with
  | .pointer (some p) => (intOf ((wr.cell? p).getD undef)).toNat
  | _ => 0
theorem costAt_box {wr : World} {Br : Nat} {a b : List Int} {most : Int} {x : RowX} (h : Box wr Br 57 (rowCells a b most x)) : costAt (.pointer (some ⟨Br, 0, none⟩)) wr = x.1 := by
  have := h.cell 0
  simp [rowCells] at this
  simp [costAt, this, intOf]

end Go.Proofs.Ytlloofmmblhnjaa
