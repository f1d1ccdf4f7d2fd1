/-
  Lists in plain mathematics; what the decoder of a list hands back.
-/
import Derived.Test.YtefonoaffeahjaaTextDec
import Derived.WalkSmall
namespace Go.Proofs.Ytefonoaffeahjaa
open Go.RowKit

section
variable {α : Type} {el : List UInt8 → Option (α × List UInt8)}
theorem decN_snoc : ∀ (k : Nat) (r0 r r' : List UInt8) (xs : List α) (x : α), decN el k r0 = some (xs, r) → el r = some (x, r') → decN el (k + 1) r0 = some (xs ++ [x], r')
  | 0, r0, r, r', xs, x, h, hx => by
    simp only [decN, Option.some.injEq, Prod.mk.injEq] at h
    obtain ⟨rfl, rfl⟩ := h
    simp only [decN, hx]
    rfl
  | k + 1, r0, r, r', xs, x, h, hx => by
    rw [decN] at h
    cases h1 : el r0 with
    | none => rw [h1] at h; cases h
    | some p =>
      obtain ⟨y, r1⟩ := p
      rw [h1] at h
      simp only at h
      cases h2 : decN el k r1 with
      | none => rw [h2] at h; cases h
      | some q =>
        obtain ⟨l, r2⟩ := q
        rw [h2] at h
        simp only [Option.some.injEq, Prod.mk.injEq] at h
        obtain ⟨rfl, rfl⟩ := h
        rw [decN, h1]
        simp only
        rw [decN_snoc k r1 _ r' l x h2 hx]
        rfl

theorem decN_fail : ∀ (k n : Nat) (r0 r : List UInt8) (xs : List α), decN el k r0 = some (xs, r) → el r = none → k < n → decN el n r0 = none
  | 0, n + 1, r0, r, xs, h, hx, _ => by
    simp only [decN, Option.some.injEq, Prod.mk.injEq] at h
    obtain ⟨rfl, rfl⟩ := h
    simp only [decN, hx]
  | k + 1, n + 1, r0, r, xs, h, hx, hlt => by
    rw [decN] at h
    cases h1 : el r0 with
    | none => rw [h1] at h; cases h
    | some p =>
      obtain ⟨y, r1⟩ := p
      rw [h1] at h
      simp only at h
      cases h2 : decN el k r1 with
      | none => rw [h2] at h; cases h
      | some q =>
        obtain ⟨l, r2⟩ := q
        rw [h2] at h
        simp only [Option.some.injEq, Prod.mk.injEq] at h
        obtain ⟨rfl, rfl⟩ := h
        rw [decN, h1]
        simp only
        rw [decN_fail k n r1 _ l h2 hx (by omega)]

theorem decN_len (hel : ∀ bs x r, el bs = some (x, r) → r.length + 1 ≤ bs.length) : ∀ (k : Nat) (r0 r : List UInt8) (xs : List α), decN el k r0 = some (xs, r) → k + r.length ≤ r0.length ∧ xs.length = k
  | 0, r0, r, xs, h => by
    simp only [decN, Option.some.injEq, Prod.mk.injEq] at h
    obtain ⟨rfl, rfl⟩ := h
    exact ⟨by omega, rfl⟩
  | k + 1, r0, r, xs, h => by
    rw [decN] at h
    cases h1 : el r0 with
    | none => rw [h1] at h; cases h
    | some p =>
      obtain ⟨y, r1⟩ := p
      rw [h1] at h
      simp only at h
      cases h2 : decN el k r1 with
      | none => rw [h2] at h; cases h
      | some q =>
        obtain ⟨l, r2⟩ := q
        rw [h2] at h
        simp only [Option.some.injEq, Prod.mk.injEq] at h
        obtain ⟨rfl, rfl⟩ := h
        have a := hel r0 y r1 h1
        have b := decN_len hel k r1 _ l h2
        exact ⟨by omega, by simp [b.2]⟩
end

theorem decI_len {lo hi : Int} (bs : List UInt8) (x : Int) (r : List UInt8) (h : decI lo hi bs = some (x, r)) : r.length + 1 ≤ bs.length := by
  obtain ⟨e, _, _, h0, h1⟩ := decI_canon h
  have := (enc_bound (zig x) (zig_lt x h0 h1)).1
  have hl := congrArg List.length e
  rw [List.length_append] at hl
  unfold encI at hl
  omega

theorem decT_len {mx : Int} (bs : List UInt8) (x : List UInt8) (r : List UInt8) (h : decT mx bs = some (x, r)) : r.length + 1 ≤ bs.length := by
  unfold decT at h
  cases hd : decI 0 mx bs with
  | none => rw [hd] at h; cases h
  | some p =>
    rw [hd] at h
    simp only at h
    split at h
    · simp only [Option.some.injEq, Prod.mk.injEq] at h
      obtain ⟨_, rfl⟩ := h
      have := decI_len bs p.1 p.2 hd
      rw [List.length_drop]
      omega
    · cases h

/-- append of one element, of one cell, onto a row of the call's own. -/
theorem append_cell {ops : Array Oper} {rest : List Oper} {o : Oper} {a : Act} {Q : Exit → Act → World → Prop} (w : World) (hgd : o.guard = none) (s x : Operand) (t : TypeId)
    (ho : o.op = .call { callee := .builtin .append, args := #[s, x], argTypes := #[t, t] })
    (base : Nat) (e : TypeId) (z : Value) (bytes : Nat) (ht : Try.prog.underlying t = some (.slice e)) (info : (Try.prog.info? e).map (fun i => (i.zero, i.size, i.bytes)) = some (some z, 1, bytes)) (hzs : z.cells.size = 1) (hby : bytes ≤ 64)
    (v : Value) (n : Nat) (xs : List Value) (hs : a.eval s = v) (hown : w.ownsRow base e 1 v n xs) (u : Value) (hu : u.oneCell' = true) (g : Nat) (hx : a.eval x = .slice (some ⟨g, 0, none⟩) 1 1)
    (hc : w.cell? ⟨g, 0, none⟩ = some u) (hn : n ≤ 1000000000000) (hbase : base ≤ w.heap.size)
    (h : ∀ v' w', w'.ownsRow base e 1 v' (n + 1) (xs ++ [u]) → Below base w w' → wpList Try.prog ops Q rest (a.put o.dst v') w') : wpList Try.prog ops Q (o :: rest) a w := by
  obtain ⟨i0, hi, hz0, hz1, hz2⟩ := info_parts info
  refine wpList_append_own w hgd s x t ho base e i0 z 1 bytes ht hi hz0 hz1 hz2 hzs (by decide) v n xs hs hown ⟨g, 0, none⟩ 1 1 [u] hx rfl ?_ ?_ (by unfold maxLen; omega) ?_ hbase ?_
  · intro j y hj
    cases j with
    | zero => simp at hj; subst hj; exact hc
    | succ j => simp at hj
  · intro y hy
    simp at hy
    subst hy
    exact hu
  · have : (n + 1) * bytes ≤ (n + 1) * 64 := Nat.mul_le_mul_left _ hby
    omega
  · intro v' w' h1 h2 _
    exact h v' w' h1 ((Below.refl _ _).grown h2 hbase fun k hk => (hown.lt k hk).1)

theorem cell_new (w : World) (k : Nat) (u : Value) (T : TypeId) : ((w.drewN k).alloc (.cells #[u] T)).cell? ⟨w.heap.size, 0, none⟩ = some u :=
  (World.cell?_alloc_at (w := w.drewN k) #[u] T w.heap.size 0 rfl).trans rfl

/-- A new block of one cell, then draws: what stood there stands. -/
theorem below_new {B : Nat} {w0 w : World} (h : Below B w0 w) (hB : B ≤ w.heap.size) (o : Obj) (k : Nat) : Below B w0 ((w.alloc o).drewN k) := below_drewN (h.alloc hB o) k

/-- What the decoder of a list hands back. -/
def LEnd {α : Type} (T : TypeId) (val : α → Value) (w : World) (B : Nat) (o : Option (List α × List UInt8)) (e : Ending) (w' : World) : Prop :=
  Below w.heap.size w w' ∧
  match o with
  | some (xs, r) => ∃ y v', e = .returned (.tuple #[y, v', .bool true]) ∧ w'.ownsRow w.heap.size T 1 y xs.length (xs.map val) ∧ Sl w' B v' r
  | none => ∃ y v', e = .returned (.tuple #[y, v', .bool false])

def iv (n : Int) : Value := .int .i64 n
def sv (s : List UInt8) : Value := .string (str s)

theorem info_int : (Try.prog.info? 3).map (fun i => (i.zero, i.size, i.bytes)) = some (some (.int .i64 0), 1, 8) := by kernel_rfl
theorem info_text : (Try.prog.info? 9).map (fun i => (i.zero, i.size, i.bytes)) = some (some (.string (str [])), 1, 16) := by kernel_rfl

end Go.Proofs.Ytefonoaffeahjaa
