/-
  The closure take of the program's script.
  The laws' own small functions: few, own, theirs, and the comparison of two lists of ints.
-/
import Derived.Test.YtlloofmmblhnjaaEdBkw
import Derived.Test.YtlloofmmblhnjaaPkAD
import Derived.Test.YtlloofmmblhnjaaPkAE
import Derived.Deep.QuietTactic
namespace Go.Proofs.Ytlloofmmblhnjaa
open Go.RowKit Go.Shelf Go.Lib
attribute [local go_sem] Oper.semAt_some

/-- The values of the closures. -/
def takeF (Bp Bl Bi Bj : Nat) : Value := .func (.func 46) #[] #[.pointer (some ⟨Bp, 0, none⟩), .pointer (some ⟨Bj, 0, none⟩), .pointer (some ⟨Bi, 0, none⟩), .pointer (some ⟨Bl, 0, none⟩)]
def keepF (Bp Bi Bj Bt : Nat) : Value := .func (.func 47) #[] #[.pointer (some ⟨Bi, 0, none⟩), .pointer (some ⟨Bp, 0, none⟩), .pointer (some ⟨Bj, 0, none⟩), .pointer (some ⟨Bt, 0, none⟩)]
theorem info_op2 : (Try.prog.info? 50).map (fun i => (i.zero, i.size, i.bytes)) = some (some (.agg #[.int .i64 0, .int .i64 0]), 2, 16) := by kernel_rfl

/-- The script in the making. -/
structure StI (pc : Array Value) (w : World) (Bp Bl Bi Bj Bt Bk base : Nat) (i j : Nat) (O : List OpI) (v : Value) (W : World) : Prop where
  p : Box W Bp 52 pc
  l : Boxed W Bl 35 v
  i : Boxed W Bi 3 (.int .i64 (i : Int))
  j : Boxed W Bj 3 (.int .i64 (j : Int))
  t : Boxed W Bt 70 (takeF Bp Bl Bi Bj)
  k : Boxed W Bk 1 (keepF Bp Bi Bj Bt)
  row : W.ownsRow base 50 2 v O.length (O.flatMap ov)
  bel : Below w.heap.size w W
  size : base ≤ W.heap.size
/-- What a step of the script leaves alone. -/
structure Stp (Bl Bi Bj : Nat) (g g' : Option Nat) (A B : World) : Prop where
  own : g' = g ∨ ∃ k, g' = some k ∧ A.heap.size ≤ k
  size : A.heap.size ≤ B.heap.size
  block : ∀ k, k < A.heap.size → k ≠ Bl → k ≠ Bi → k ≠ Bj → g ≠ some k → B.heap[k]? = A.heap[k]?
theorem Stp.refl (Bl Bi Bj : Nat) (g : Option Nat) (A : World) : Stp Bl Bi Bj g g A A := ⟨.inl rfl, Nat.le_refl _, fun _ _ _ _ _ _ => rfl⟩
theorem Stp.next {Bl Bi Bj : Nat} {g g' g'' : Option Nat} {A B C : World} (h : Stp Bl Bi Bj g g' A B) (k : Stp Bl Bi Bj g' g'' B C) : Stp Bl Bi Bj g g'' A C := by
  refine ⟨?_, Nat.le_trans h.size k.size, fun i hi h1 h2 h3 h4 => (k.block i (Nat.lt_of_lt_of_le hi h.size) h1 h2 h3 ?_).trans (h.block i hi h1 h2 h3 h4)⟩
  · rcases k.own with e | ⟨r, e, hr⟩
    · rw [e]; exact h.own
    · exact .inr ⟨r, e, Nat.le_trans h.size hr⟩
  · intro e
    rcases h.own with e2 | ⟨r, e2, hr⟩
    · exact h4 (e2.symm.trans e)
    · rw [e2] at e
      cases e
      omega
theorem Stp.of_below {Bl Bi Bj : Nat} {g : Option Nat} {A B : World} (h : Below A.heap.size A B) : Stp Bl Bi Bj g g A B := ⟨.inl rfl, h.size, fun k hk _ _ _ _ => h.block k hk⟩
/-- Where the boxes lie. -/
structure Places (s Bp Bl Bi Bj Bt Bk base : Nat) : Prop where
  p : Bp = s
  l : Bl = s + 1
  i : Bi = s + 2
  j : Bj = s + 3
  t : Bt = s + 4
  k : Bk = s + 5
  b : base = s + 6
theorem StI.own {pc : Array Value} {w : World} {Bp Bl Bi Bj Bt Bk base : Nat} {i j : Nat} {O : List OpI} {v : Value} {W : World} (h : StI pc w Bp Bl Bi Bj Bt Bk base i j O v W) : ∀ k, v.ownBlock = some k → base ≤ k ∧ k < W.heap.size := fun k e => h.row.lt k e
/-- Blocks are laid. -/
theorem StI.below {pc : Array Value} {w : World} {Bp Bl Bi Bj Bt Bk base : Nat} {i j : Nat} {O : List OpI} {v : Value} {W W' : World} (h : StI pc w Bp Bl Bi Bj Bt Bk base i j O v W) (hb : Below W.heap.size W W') : StI pc w Bp Bl Bi Bj Bt Bk base i j O v W' where
  p := h.p.below hb h.p.lt
  l := (hb.block _ h.l.lt).trans h.l
  i := (hb.block _ h.i.lt).trans h.i
  j := (hb.block _ h.j.lt).trans h.j
  t := (hb.block _ h.t.lt).trans h.t
  k := (hb.block _ h.k.lt).trans h.k
  row := own_keep_below h.row hb
  bel := h.bel.trans (hb.mono h.bel.size)
  size := Nat.le_trans h.size hb.size
/-- A store into one of the boxes, or into a block behind all. -/
theorem StI.turn {pc : Array Value} {w : World} {s Bp Bl Bi Bj Bt Bk base : Nat} {i j i' j' : Nat} {O : List OpI} {v : Value} {W W' : World} (pl : Places s Bp Bl Bi Bj Bt Bk base) (hs : w.heap.size = s) (h : StI pc w Bp Bl Bi Bj Bt Bk base i j O v W) {r : Nat} (hg : W.grownBy W' (some r)) (hr : Bi = r ∨ Bj = r ∨ (base ≤ r ∧ v.ownBlock ≠ some r))
    (hi : Boxed W' Bi 3 (.int .i64 (i' : Int))) (hj : Boxed W' Bj 3 (.int .i64 (j' : Int))) : StI pc w Bp Bl Bi Bj Bt Bk base i' j' O v W' := by
  obtain ⟨q1, q2, q3, q4, q5, q6, q7⟩ := pl
  have hne : ∀ k, k ≠ r → k < W.heap.size → W'.heap[k]? = W.heap[k]? := fun k hk hl => hg.block k hl (fun e => hk (Option.some.inj e))
  have hlt := h.size
  exact {
    p := (hne Bp (by omega) (by omega)).trans h.p
    l := (hne Bl (by omega) (by omega)).trans h.l
    i := hi
    j := hj
    t := (hne Bt (by omega) (by omega)).trans h.t
    k := (hne Bk (by omega) (by omega)).trans h.k
    row := h.row.kept hg (by
      by_cases e : v.ownBlock = some r
      · have := h.own r e
        rcases hr with hr | hr | hr
        · omega
        · omega
        · exact absurd e hr.2
      · exact .inr e)
    bel := h.bel.grown hg h.bel.size (fun k e => by cases e; omega)
    size := Nat.le_trans h.size hg.size }
theorem op_ne : (35 : TypeId) ≠ 50 := by decide
/-- Behind the append and the store of the list. -/
theorem StI.stored {pc : Array Value} {w : World} {s Bp Bl Bi Bj Bt Bk base : Nat} {i j : Nat} {O : List OpI} {v v' : Value} {W w1 : World} {x : OpI} (pl : Places s Bp Bl Bi Bj Bt Bk base) (hs : w.heap.size = s) (h : StI pc w Bp Bl Bi Bj Bt Bk base i j O v W)
    (h1 : w1.ownsRow base 50 2 v' (O ++ [x]).length ((O ++ [x]).flatMap ov)) (h2 : W.grownBy w1 v.ownBlock) (h3 : v'.ownBlock = v.ownBlock ∨ ∃ g, v'.ownBlock = some g ∧ W.heap.size ≤ g) :
    Boxed w1 Bl 35 v ∧ StI pc w Bp Bl Bi Bj Bt Bk base i j (O ++ [x]) v' (w1.setCell ⟨Bl, 0, none⟩ v') ∧ Stp Bl Bi Bj v.ownBlock v'.ownBlock W (w1.setCell ⟨Bl, 0, none⟩ v') := by
  obtain ⟨q1, q2, q3, q4, q5, q6, q7⟩ := pl
  have hsz := (grownBy_setCell' w1 Bl v').size
  have hlt := h.size
  have hown := h.own
  have hb1 : Boxed w1 Bl 35 v := h.l.kept h2 (fun e => by have := hown _ e.symm; omega)
  have hk1 : ∀ k, k < base → w1.heap[k]? = W.heap[k]? := fun k hk => h2.block k (by omega) (fun e => by have := hown _ e.symm; omega)
  have hk2 : ∀ k, k < base → k ≠ Bl → (w1.setCell ⟨Bl, 0, none⟩ v').heap[k]? = W.heap[k]? := fun k hk hx => (Below.heap_setCell w1 ⟨Bl, 0, none⟩ v' k (by show k ≠ Bl; exact hx)).trans (hk1 k hk)
  refine ⟨hb1, {
    p := (hk2 Bp (by omega) (by omega)).trans h.p
    l := hb1.set v'
    i := (hk2 Bi (by omega) (by omega)).trans h.i
    j := (hk2 Bj (by omega) (by omega)).trans h.j
    t := (hk2 Bt (by omega) (by omega)).trans h.t
    k := (hk2 Bk (by omega) (by omega)).trans h.k
    row := h1.kept (grownBy_setCell' w1 Bl v') (.inr fun e2 => by have := (h1.lt Bl e2).1; omega)
    bel := (h.bel.grown h2 h.bel.size fun k ek => by have := hown k ek; omega).grown (grownBy_setCell' w1 Bl v') (Nat.le_trans h.bel.size h2.size) fun k ek => by cases ek; omega
    size := Nat.le_trans h.size (Nat.le_trans h2.size hsz) }, ⟨h3, Nat.le_trans h2.size hsz, fun k hk n1 n2 n3 n4 => (Below.heap_setCell w1 ⟨Bl, 0, none⟩ v' k (by show k ≠ Bl; exact n1)).trans (h2.block k hk (fun e2 => n4 e2.symm))⟩⟩
theorem stp_set (Bl Bi Bj r : Nat) (g : Option Nat) (A : World) (v : Value) (t : Nat) (hr : r = Bi ∨ r = Bj) : Stp Bl Bi Bj g g A (A.setCell ⟨r, t, none⟩ v) := by
  have k := grown_set A r t v
  exact ⟨.inl rfl, k.size, fun i hi h1 h2 h3 h4 => k.block i hi (fun e => by
    have := Option.some.inj e
    rcases hr with hr | hr <;> omega)⟩

set_option maxRecDepth 20000 in
set_option maxHeartbeats 6400000 in
theorem take1_any (A A' : Option Addr) (n c m c' : Nat) (R most : Int) (b : List Int) (w : World) (s Bp Bl Bi Bj Bt Bk base : Nat) (pl : Places s Bp Bl Bi Bj Bt Bk base) (hs : w.heap.size = s) (h' : Arr iv w w.heap.size (.slice A' m c') b)
    (i j : Nat) (O : List OpI) (v : Value) (W : World) (h : StI #[.slice A n c, .slice A' m c', .int .i64 R, .int .i64 most] w Bp Bl Bi Bj Bt Bk base i j O v W) (hi : i ≤ 1000000) (hj : j ≤ 1000000) (hO : O.length ≤ 1000000) :
    Calls Try.prog 46 #[.int .i64 1, .pointer (some ⟨Bp, 0, none⟩), .pointer (some ⟨Bj, 0, none⟩), .pointer (some ⟨Bi, 0, none⟩), .pointer (some ⟨Bl, 0, none⟩)] W fun e W' =>
      (∃ u, e = .returned u) ∧ ∃ v', StI #[.slice A n c, .slice A' m c', .int .i64 R, .int .i64 most] w Bp Bl Bi Bj Bt Bk base (i + 1) (j + 1) (O ++ [(1, 0)]) v' W' ∧ Stp Bl Bi Bj v.ownBlock v'.ownBlock W W' := by
  have hsz := h.size
  have hlv := h.own
  obtain ⟨q1, q2, q3, q4, q5, q6, q7⟩ := id pl
  have hne : Bi ≠ Bj ∧ Bj ≠ Bi ∧ Bi ≠ W.heap.size ∧ Bj ≠ W.heap.size ∧ Bl ≠ W.heap.size ∧ Bp ≠ W.heap.size := by omega
  obtain ⟨E0, hE0⟩ : ∃ E0, W.alloc (.cells #[.int .i64 1, .int .i64 0] 50) = E0 := ⟨_, rfl⟩
  have b0 : Below W.heap.size W E0 := by rw [← hE0]; exact (Below.refl _ W).alloc (Nat.le_refl _) _
  have t0 : E0.heap.size = W.heap.size + 1 := by rw [← hE0]; simp
  have s0 := h.below b0
  have o0 : Box E0 W.heap.size 50 #[.int .i64 1, .int .i64 0] := by rw [← hE0]; exact Box.made W _ _
  have r0 : Stp Bl Bi Bj v.ownBlock v.ownBlock W E0 := .of_below b0
  obtain ⟨i1, hi1⟩ : ∃ i1, i + 1 = i1 := ⟨_, rfl⟩
  have ei : (i : Int) + 1 = (i1 : Int) := by omega
  have wi : IntKind.i64.wrap (i1 : Int) = (i1 : Int) := wraps_i64 _ (by omega) (by omega)
  have ci := s0.i.cell
  have fi := s0.i.frozen
  obtain ⟨E2, hE2⟩ : ∃ E2, E0.setCell ⟨Bi, 0, none⟩ (.int .i64 (i1 : Int)) = E2 := ⟨_, rfl⟩
  have k2 : E0.grownBy E2 (some Bi) := by rw [← hE2]; exact grown_set _ _ _ _
  have o2 := o0.grown k2 (fun e => hne.2.2.1 (Option.some.inj e).symm)
  have s2 : StI _ w Bp Bl Bi Bj Bt Bk base i1 j O v E2 := s0.turn pl hs k2 (.inl rfl) (by rw [← hE2]; exact s0.i.set _) (s0.j.kept k2 (fun e => hne.2.1 (Option.some.inj e)))
  have r2 : Stp Bl Bi Bj v.ownBlock v.ownBlock W E2 := r0.next (by rw [← hE2]; exact stp_set _ _ _ _ _ _ _ _ (.inl rfl))
  obtain ⟨j1, hj1⟩ : ∃ j1, j + 1 = j1 := ⟨_, rfl⟩
  have ej : (j : Int) + 1 = (j1 : Int) := by omega
  have wj : IntKind.i64.wrap (j1 : Int) = (j1 : Int) := wraps_i64 _ (by omega) (by omega)
  have cj := s2.j.cell
  have fj := s2.j.frozen
  obtain ⟨E3, hE3⟩ : ∃ E3, E2.setCell ⟨Bj, 0, none⟩ (.int .i64 (j1 : Int)) = E3 := ⟨_, rfl⟩
  have k3 : E2.grownBy E3 (some Bj) := by rw [← hE3]; exact grown_set _ _ _ _
  have o3 := o2.grown k3 (fun e => hne.2.2.2.1 (Option.some.inj e).symm)
  have s3 : StI _ w Bp Bl Bi Bj Bt Bk base i1 j1 O v E3 := s2.turn pl hs k3 (.inr (.inl rfl)) (s2.i.kept k3 (fun e => hne.1 (Option.some.inj e))) (by rw [← hE3]; exact s2.j.set _)
  have r3 : Stp Bl Bi Bj v.ownBlock v.ownBlock W E3 := r2.next (by rw [← hE3]; exact stp_set _ _ _ _ _ _ _ _ (.inr rfl))
  subst hE0
  subst hE2
  subst hE3
  have x0 := o3.cell 0
  have x1 := o3.cell 1
  have xl := s3.l.cell
  simp at x0 x1
  have HS := Lib.hid s3
  have HR := Lib.hid r3
  have HPl := Lib.hid pl
  have Hs := Lib.hid hs
  have HBase := Lib.hid s3.size
  rw [hi1] 
  rw [hj1] 
  refine (callsIn_wide (n := 100)).1 ?_
  clear h h' hlv q1 q2 q3 q4 q5 q6 q7 hs pl s0 o0 r0 s2 o2 r2 s3 o3 r3 hi1 hj1  k2 k3 b0 t0
  refine callsIn_of_wp Try.func46 rfl trivial ?_ rfl
  simp only [Try.ntmps46, List.size_toArray, List.length_cons, List.length_nil, Nat.reduceAdd, Nat.reduceSub, Array.replicate_succ, Array.replicate_zero, List.push_toArray, List.append_toArray, List.nil_append, List.cons_append]
  gi_wp2_with (gi_at_builtin; go_loud (refine append_struct_inE (val := ov) 35 50 (.agg #[.int .i64 0, .int .i64 0]) 16 Try.underlying35 info_op2 rfl (by decide) (by decide) ov_len ov_one (((W.alloc (.cells #[.int .i64 1, .int .i64 0] 50)).setCell ⟨Bi, 0, none⟩ (.int .i64 (i1 : Int))).setCell ⟨Bj, 0, none⟩ (.int .i64 (j1 : Int))) rfl (.tmp 29) (.tmp 31) rfl base v O rfl HS.out.row (1, 0) #[.int .i64 1, .int .i64 0] rfl (W.heap.size + 1) (by simp) rfl (by omega) HBase.out ?_; intro v' w1 hown' hgrow hwh; obtain ⟨hb1, hC, hRd⟩ := HS.out.stored HPl.out Hs.out hown' hgrow hwh; have hc1 := hb1.cell; have hf1 := hb1.frozen; rw [List.length_append, List.length_singleton] at hown'; obtain ⟨g', cap, rfl⟩ := ownsRow_succ hown'; have HC2 := Lib.hid hC; have HRd := Lib.hid hRd; clear hown' hgrow hwh hC hRd hb1))
  go_end0
  exact ⟨⟨_, rfl⟩, _, HC2.out, HR.out.next HRd.out⟩

set_option maxRecDepth 20000 in
set_option maxHeartbeats 6400000 in
theorem take2_any (A A' : Option Addr) (n c m c' : Nat) (R most : Int) (b : List Int) (w : World) (s Bp Bl Bi Bj Bt Bk base : Nat) (pl : Places s Bp Bl Bi Bj Bt Bk base) (hs : w.heap.size = s) (h' : Arr iv w w.heap.size (.slice A' m c') b)
    (i j : Nat) (O : List OpI) (v : Value) (W : World) (h : StI #[.slice A n c, .slice A' m c', .int .i64 R, .int .i64 most] w Bp Bl Bi Bj Bt Bk base i j O v W) (hi : i ≤ 1000000) (hj : j ≤ 1000000) (hO : O.length ≤ 1000000) (y : Int) (hy : b[j]? = some y) :
    Calls Try.prog 46 #[.int .i64 2, .pointer (some ⟨Bp, 0, none⟩), .pointer (some ⟨Bj, 0, none⟩), .pointer (some ⟨Bi, 0, none⟩), .pointer (some ⟨Bl, 0, none⟩)] W fun e W' =>
      (∃ u, e = .returned u) ∧ ∃ v', StI #[.slice A n c, .slice A' m c', .int .i64 R, .int .i64 most] w Bp Bl Bi Bj Bt Bk base (i + 1) (j + 1) (O ++ [(2, y)]) v' W' ∧ Stp Bl Bi Bj v.ownBlock v'.ownBlock W W' := by
  have hsz := h.size
  have hlv := h.own
  obtain ⟨q1, q2, q3, q4, q5, q6, q7⟩ := id pl
  have hne : Bi ≠ Bj ∧ Bj ≠ Bi ∧ Bi ≠ W.heap.size ∧ Bj ≠ W.heap.size ∧ Bl ≠ W.heap.size ∧ Bp ≠ W.heap.size := by omega
  obtain ⟨E0, hE0⟩ : ∃ E0, W.alloc (.cells #[.int .i64 2, .int .i64 0] 50) = E0 := ⟨_, rfl⟩
  have b0 : Below W.heap.size W E0 := by rw [← hE0]; exact (Below.refl _ W).alloc (Nat.le_refl _) _
  have t0 : E0.heap.size = W.heap.size + 1 := by rw [← hE0]; simp
  have s0 := h.below b0
  have o0 : Box E0 W.heap.size 50 #[.int .i64 2, .int .i64 0] := by rw [← hE0]; exact Box.made W _ _
  have r0 : Stp Bl Bi Bj v.ownBlock v.ownBlock W E0 := .of_below b0
  have hjm : j < m := by rw [← h'.len]; exact lt_at hy
  obtain ⟨bb, ob, rfl, hBb, hcb⟩ := h'.some_ (by omega)
  have d0 : E0.cell? ⟨bb, ob + j, none⟩ = some (.int .i64 y) := (s0.bel.cell (p := ⟨bb, ob + j, none⟩) hBb).trans (hcb j y hy)
  have z0 : (j : Int) < (m : Int) := by omega
  have z1 : (0 : Int) ≤ (j : Int) := by omega
  have d1 := s0.p.cell 1
  have d2 := s0.j.cell
  have d3 := o0.cell 1
  have d4 := o0.free 1
  simp at d1 d3
  obtain ⟨E1, hE1⟩ : ∃ E1, W.alloc (.cells #[.int .i64 2, .int .i64 y] 50) = E1 := ⟨_, rfl⟩
  have b1 : Below W.heap.size W E1 := by rw [← hE1]; exact (Below.refl _ W).alloc (Nat.le_refl _) _
  have s1 := h.below b1
  have o1 : Box E1 W.heap.size 50 #[.int .i64 2, .int .i64 y] := by rw [← hE1]; exact Box.made W _ _
  have r1 : Stp Bl Bi Bj v.ownBlock v.ownBlock W E1 := .of_below b1
  obtain ⟨i1, hi1⟩ : ∃ i1, i + 1 = i1 := ⟨_, rfl⟩
  have ei : (i : Int) + 1 = (i1 : Int) := by omega
  have wi : IntKind.i64.wrap (i1 : Int) = (i1 : Int) := wraps_i64 _ (by omega) (by omega)
  have ci := s1.i.cell
  have fi := s1.i.frozen
  obtain ⟨E2, hE2⟩ : ∃ E2, E1.setCell ⟨Bi, 0, none⟩ (.int .i64 (i1 : Int)) = E2 := ⟨_, rfl⟩
  have k2 : E1.grownBy E2 (some Bi) := by rw [← hE2]; exact grown_set _ _ _ _
  have o2 := o1.grown k2 (fun e => hne.2.2.1 (Option.some.inj e).symm)
  have s2 : StI _ w Bp Bl Bi Bj Bt Bk base i1 j O v E2 := s1.turn pl hs k2 (.inl rfl) (by rw [← hE2]; exact s1.i.set _) (s1.j.kept k2 (fun e => hne.2.1 (Option.some.inj e)))
  have r2 : Stp Bl Bi Bj v.ownBlock v.ownBlock W E2 := r1.next (by rw [← hE2]; exact stp_set _ _ _ _ _ _ _ _ (.inl rfl))
  obtain ⟨j1, hj1⟩ : ∃ j1, j + 1 = j1 := ⟨_, rfl⟩
  have ej : (j : Int) + 1 = (j1 : Int) := by omega
  have wj : IntKind.i64.wrap (j1 : Int) = (j1 : Int) := wraps_i64 _ (by omega) (by omega)
  have cj := s2.j.cell
  have fj := s2.j.frozen
  obtain ⟨E3, hE3⟩ : ∃ E3, E2.setCell ⟨Bj, 0, none⟩ (.int .i64 (j1 : Int)) = E3 := ⟨_, rfl⟩
  have k3 : E2.grownBy E3 (some Bj) := by rw [← hE3]; exact grown_set _ _ _ _
  have o3 := o2.grown k3 (fun e => hne.2.2.2.1 (Option.some.inj e).symm)
  have s3 : StI _ w Bp Bl Bi Bj Bt Bk base i1 j1 O v E3 := s2.turn pl hs k3 (.inr (.inl rfl)) (s2.i.kept k3 (fun e => hne.1 (Option.some.inj e))) (by rw [← hE3]; exact s2.j.set _)
  have r3 : Stp Bl Bi Bj v.ownBlock v.ownBlock W E3 := r2.next (by rw [← hE3]; exact stp_set _ _ _ _ _ _ _ _ (.inr rfl))
  subst hE0
  subst hE1
  subst hE2
  subst hE3
  have x0 := o3.cell 0
  have x1 := o3.cell 1
  have xl := s3.l.cell
  simp at x0 x1
  have HS := Lib.hid s3
  have HR := Lib.hid r3
  have HPl := Lib.hid pl
  have Hs := Lib.hid hs
  have HBase := Lib.hid s3.size
  rw [hi1] 
  rw [hj1] 
  refine (callsIn_wide (n := 100)).1 ?_
  clear h h' hlv q1 q2 q3 q4 q5 q6 q7 hs pl s0 o0 r0 s1 o1 r1 s2 o2 r2 s3 o3 r3 hi1 hj1 b1 hcb hy k2 k3 b0 t0
  refine callsIn_of_wp Try.func46 rfl trivial ?_ rfl
  simp only [Try.ntmps46, List.size_toArray, List.length_cons, List.length_nil, Nat.reduceAdd, Nat.reduceSub, Array.replicate_succ, Array.replicate_zero, List.push_toArray, List.append_toArray, List.nil_append, List.cons_append]
  gi_wp2_with (gi_at_builtin; go_loud (refine append_struct_inE (val := ov) 35 50 (.agg #[.int .i64 0, .int .i64 0]) 16 Try.underlying35 info_op2 rfl (by decide) (by decide) ov_len ov_one (((W.alloc (.cells #[.int .i64 2, .int .i64 y] 50)).setCell ⟨Bi, 0, none⟩ (.int .i64 (i1 : Int))).setCell ⟨Bj, 0, none⟩ (.int .i64 (j1 : Int))) rfl (.tmp 29) (.tmp 31) rfl base v O rfl HS.out.row (2, y) #[.int .i64 2, .int .i64 y] rfl (W.heap.size + 1) (by simp) rfl (by omega) HBase.out ?_; intro v' w1 hown' hgrow hwh; obtain ⟨hb1, hC, hRd⟩ := HS.out.stored HPl.out Hs.out hown' hgrow hwh; have hc1 := hb1.cell; have hf1 := hb1.frozen; rw [List.length_append, List.length_singleton] at hown'; obtain ⟨g', cap, rfl⟩ := ownsRow_succ hown'; have HC2 := Lib.hid hC; have HRd := Lib.hid hRd; clear hown' hgrow hwh hC hRd hb1))
  go_end0
  exact ⟨⟨_, rfl⟩, _, HC2.out, HR.out.next HRd.out⟩

set_option maxRecDepth 20000 in
set_option maxHeartbeats 6400000 in
theorem take3_any (A A' : Option Addr) (n c m c' : Nat) (R most : Int) (b : List Int) (w : World) (s Bp Bl Bi Bj Bt Bk base : Nat) (pl : Places s Bp Bl Bi Bj Bt Bk base) (hs : w.heap.size = s) (h' : Arr iv w w.heap.size (.slice A' m c') b)
    (i j : Nat) (O : List OpI) (v : Value) (W : World) (h : StI #[.slice A n c, .slice A' m c', .int .i64 R, .int .i64 most] w Bp Bl Bi Bj Bt Bk base i j O v W) (hi : i ≤ 1000000) (hj : j ≤ 1000000) (hO : O.length ≤ 1000000) :
    Calls Try.prog 46 #[.int .i64 3, .pointer (some ⟨Bp, 0, none⟩), .pointer (some ⟨Bj, 0, none⟩), .pointer (some ⟨Bi, 0, none⟩), .pointer (some ⟨Bl, 0, none⟩)] W fun e W' =>
      (∃ u, e = .returned u) ∧ ∃ v', StI #[.slice A n c, .slice A' m c', .int .i64 R, .int .i64 most] w Bp Bl Bi Bj Bt Bk base (i + 1) j (O ++ [(3, 0)]) v' W' ∧ Stp Bl Bi Bj v.ownBlock v'.ownBlock W W' := by
  have hsz := h.size
  have hlv := h.own
  obtain ⟨q1, q2, q3, q4, q5, q6, q7⟩ := id pl
  have hne : Bi ≠ Bj ∧ Bj ≠ Bi ∧ Bi ≠ W.heap.size ∧ Bj ≠ W.heap.size ∧ Bl ≠ W.heap.size ∧ Bp ≠ W.heap.size := by omega
  obtain ⟨E0, hE0⟩ : ∃ E0, W.alloc (.cells #[.int .i64 3, .int .i64 0] 50) = E0 := ⟨_, rfl⟩
  have b0 : Below W.heap.size W E0 := by rw [← hE0]; exact (Below.refl _ W).alloc (Nat.le_refl _) _
  have t0 : E0.heap.size = W.heap.size + 1 := by rw [← hE0]; simp
  have s0 := h.below b0
  have o0 : Box E0 W.heap.size 50 #[.int .i64 3, .int .i64 0] := by rw [← hE0]; exact Box.made W _ _
  have r0 : Stp Bl Bi Bj v.ownBlock v.ownBlock W E0 := .of_below b0
  obtain ⟨i1, hi1⟩ : ∃ i1, i + 1 = i1 := ⟨_, rfl⟩
  have ei : (i : Int) + 1 = (i1 : Int) := by omega
  have wi : IntKind.i64.wrap (i1 : Int) = (i1 : Int) := wraps_i64 _ (by omega) (by omega)
  have ci := s0.i.cell
  have fi := s0.i.frozen
  obtain ⟨E2, hE2⟩ : ∃ E2, E0.setCell ⟨Bi, 0, none⟩ (.int .i64 (i1 : Int)) = E2 := ⟨_, rfl⟩
  have k2 : E0.grownBy E2 (some Bi) := by rw [← hE2]; exact grown_set _ _ _ _
  have o2 := o0.grown k2 (fun e => hne.2.2.1 (Option.some.inj e).symm)
  have s2 : StI _ w Bp Bl Bi Bj Bt Bk base i1 j O v E2 := s0.turn pl hs k2 (.inl rfl) (by rw [← hE2]; exact s0.i.set _) (s0.j.kept k2 (fun e => hne.2.1 (Option.some.inj e)))
  have r2 : Stp Bl Bi Bj v.ownBlock v.ownBlock W E2 := r0.next (by rw [← hE2]; exact stp_set _ _ _ _ _ _ _ _ (.inl rfl))
  subst hE0
  subst hE2
  have x0 := o2.cell 0
  have x1 := o2.cell 1
  have xl := s2.l.cell
  simp at x0 x1
  have HS := Lib.hid s2
  have HR := Lib.hid r2
  have HPl := Lib.hid pl
  have Hs := Lib.hid hs
  have HBase := Lib.hid s2.size
  rw [hi1] 

  refine (callsIn_wide (n := 100)).1 ?_
  clear h h' hlv q1 q2 q3 q4 q5 q6 q7 hs pl s0 o0 r0 s2 o2 r2 hi1   k2  b0 t0
  refine callsIn_of_wp Try.func46 rfl trivial ?_ rfl
  simp only [Try.ntmps46, List.size_toArray, List.length_cons, List.length_nil, Nat.reduceAdd, Nat.reduceSub, Array.replicate_succ, Array.replicate_zero, List.push_toArray, List.append_toArray, List.nil_append, List.cons_append]
  gi_wp2_with (gi_at_builtin; go_loud (refine append_struct_inE (val := ov) 35 50 (.agg #[.int .i64 0, .int .i64 0]) 16 Try.underlying35 info_op2 rfl (by decide) (by decide) ov_len ov_one ((W.alloc (.cells #[.int .i64 3, .int .i64 0] 50)).setCell ⟨Bi, 0, none⟩ (.int .i64 (i1 : Int))) rfl (.tmp 29) (.tmp 31) rfl base v O rfl HS.out.row (3, 0) #[.int .i64 3, .int .i64 0] rfl (W.heap.size + 1) (by simp) rfl (by omega) HBase.out ?_; intro v' w1 hown' hgrow hwh; obtain ⟨hb1, hC, hRd⟩ := HS.out.stored HPl.out Hs.out hown' hgrow hwh; have hc1 := hb1.cell; have hf1 := hb1.frozen; rw [List.length_append, List.length_singleton] at hown'; obtain ⟨g', cap, rfl⟩ := ownsRow_succ hown'; have HC2 := Lib.hid hC; have HRd := Lib.hid hRd; clear hown' hgrow hwh hC hRd hb1))
  go_end0
  exact ⟨⟨_, rfl⟩, _, HC2.out, HR.out.next HRd.out⟩

set_option maxRecDepth 20000 in
set_option maxHeartbeats 6400000 in
theorem take4_any (A A' : Option Addr) (n c m c' : Nat) (R most : Int) (b : List Int) (w : World) (s Bp Bl Bi Bj Bt Bk base : Nat) (pl : Places s Bp Bl Bi Bj Bt Bk base) (hs : w.heap.size = s) (h' : Arr iv w w.heap.size (.slice A' m c') b)
    (i j : Nat) (O : List OpI) (v : Value) (W : World) (h : StI #[.slice A n c, .slice A' m c', .int .i64 R, .int .i64 most] w Bp Bl Bi Bj Bt Bk base i j O v W) (hi : i ≤ 1000000) (hj : j ≤ 1000000) (hO : O.length ≤ 1000000) (y : Int) (hy : b[j]? = some y) :
    Calls Try.prog 46 #[.int .i64 4, .pointer (some ⟨Bp, 0, none⟩), .pointer (some ⟨Bj, 0, none⟩), .pointer (some ⟨Bi, 0, none⟩), .pointer (some ⟨Bl, 0, none⟩)] W fun e W' =>
      (∃ u, e = .returned u) ∧ ∃ v', StI #[.slice A n c, .slice A' m c', .int .i64 R, .int .i64 most] w Bp Bl Bi Bj Bt Bk base i (j + 1) (O ++ [(4, y)]) v' W' ∧ Stp Bl Bi Bj v.ownBlock v'.ownBlock W W' := by
  have hsz := h.size
  have hlv := h.own
  obtain ⟨q1, q2, q3, q4, q5, q6, q7⟩ := id pl
  have hne : Bi ≠ Bj ∧ Bj ≠ Bi ∧ Bi ≠ W.heap.size ∧ Bj ≠ W.heap.size ∧ Bl ≠ W.heap.size ∧ Bp ≠ W.heap.size := by omega
  obtain ⟨E0, hE0⟩ : ∃ E0, W.alloc (.cells #[.int .i64 4, .int .i64 0] 50) = E0 := ⟨_, rfl⟩
  have b0 : Below W.heap.size W E0 := by rw [← hE0]; exact (Below.refl _ W).alloc (Nat.le_refl _) _
  have t0 : E0.heap.size = W.heap.size + 1 := by rw [← hE0]; simp
  have s0 := h.below b0
  have o0 : Box E0 W.heap.size 50 #[.int .i64 4, .int .i64 0] := by rw [← hE0]; exact Box.made W _ _
  have r0 : Stp Bl Bi Bj v.ownBlock v.ownBlock W E0 := .of_below b0
  have hjm : j < m := by rw [← h'.len]; exact lt_at hy
  obtain ⟨bb, ob, rfl, hBb, hcb⟩ := h'.some_ (by omega)
  have d0 : E0.cell? ⟨bb, ob + j, none⟩ = some (.int .i64 y) := (s0.bel.cell (p := ⟨bb, ob + j, none⟩) hBb).trans (hcb j y hy)
  have z0 : (j : Int) < (m : Int) := by omega
  have z1 : (0 : Int) ≤ (j : Int) := by omega
  have d1 := s0.p.cell 1
  have d2 := s0.j.cell
  have d3 := o0.cell 1
  have d4 := o0.free 1
  simp at d1 d3
  obtain ⟨E1, hE1⟩ : ∃ E1, W.alloc (.cells #[.int .i64 4, .int .i64 y] 50) = E1 := ⟨_, rfl⟩
  have b1 : Below W.heap.size W E1 := by rw [← hE1]; exact (Below.refl _ W).alloc (Nat.le_refl _) _
  have s1 := h.below b1
  have o1 : Box E1 W.heap.size 50 #[.int .i64 4, .int .i64 y] := by rw [← hE1]; exact Box.made W _ _
  have r1 : Stp Bl Bi Bj v.ownBlock v.ownBlock W E1 := .of_below b1
  obtain ⟨j1, hj1⟩ : ∃ j1, j + 1 = j1 := ⟨_, rfl⟩
  have ej : (j : Int) + 1 = (j1 : Int) := by omega
  have wj : IntKind.i64.wrap (j1 : Int) = (j1 : Int) := wraps_i64 _ (by omega) (by omega)
  have cj := s1.j.cell
  have fj := s1.j.frozen
  obtain ⟨E3, hE3⟩ : ∃ E3, E1.setCell ⟨Bj, 0, none⟩ (.int .i64 (j1 : Int)) = E3 := ⟨_, rfl⟩
  have k3 : E1.grownBy E3 (some Bj) := by rw [← hE3]; exact grown_set _ _ _ _
  have o3 := o1.grown k3 (fun e => hne.2.2.2.1 (Option.some.inj e).symm)
  have s3 : StI _ w Bp Bl Bi Bj Bt Bk base i j1 O v E3 := s1.turn pl hs k3 (.inr (.inl rfl)) (s1.i.kept k3 (fun e => hne.1 (Option.some.inj e))) (by rw [← hE3]; exact s1.j.set _)
  have r3 : Stp Bl Bi Bj v.ownBlock v.ownBlock W E3 := r1.next (by rw [← hE3]; exact stp_set _ _ _ _ _ _ _ _ (.inr rfl))
  subst hE0
  subst hE1
  subst hE3
  have x0 := o3.cell 0
  have x1 := o3.cell 1
  have xl := s3.l.cell
  simp at x0 x1
  have HS := Lib.hid s3
  have HR := Lib.hid r3
  have HPl := Lib.hid pl
  have Hs := Lib.hid hs
  have HBase := Lib.hid s3.size

  rw [hj1] 
  refine (callsIn_wide (n := 100)).1 ?_
  clear h h' hlv q1 q2 q3 q4 q5 q6 q7 hs pl s0 o0 r0 s1 o1 r1 s3 o3 r3  hj1 b1 hcb hy  k3 b0 t0
  refine callsIn_of_wp Try.func46 rfl trivial ?_ rfl
  simp only [Try.ntmps46, List.size_toArray, List.length_cons, List.length_nil, Nat.reduceAdd, Nat.reduceSub, Array.replicate_succ, Array.replicate_zero, List.push_toArray, List.append_toArray, List.nil_append, List.cons_append]
  gi_wp2_with (gi_at_builtin; go_loud (refine append_struct_inE (val := ov) 35 50 (.agg #[.int .i64 0, .int .i64 0]) 16 Try.underlying35 info_op2 rfl (by decide) (by decide) ov_len ov_one ((W.alloc (.cells #[.int .i64 4, .int .i64 y] 50)).setCell ⟨Bj, 0, none⟩ (.int .i64 (j1 : Int))) rfl (.tmp 29) (.tmp 31) rfl base v O rfl HS.out.row (4, y) #[.int .i64 4, .int .i64 y] rfl (W.heap.size + 1) (by simp) rfl (by omega) HBase.out ?_; intro v' w1 hown' hgrow hwh; obtain ⟨hb1, hC, hRd⟩ := HS.out.stored HPl.out Hs.out hown' hgrow hwh; have hc1 := hb1.cell; have hf1 := hb1.frozen; rw [List.length_append, List.length_singleton] at hown'; obtain ⟨g', cap, rfl⟩ := ownsRow_succ hown'; have HC2 := Lib.hid hC; have HRd := Lib.hid hRd; clear hown' hgrow hwh hC hRd hb1))
  go_end0
  exact ⟨⟨_, rfl⟩, _, HC2.out, HR.out.next HRd.out⟩

end Go.Proofs.Ytlloofmmblhnjaa

namespace Go.Proofs.Ytlloofmmblhnjaa
open Go.RowKit

set_option maxRecDepth 20000 in
set_option maxHeartbeats 3200000 in
theorem few_of (A A' : Option Addr) (n c m c' : Nat) (w : World) :
    Calls Try.prog 12 #[.slice A n c, .slice A' m c'] w fun e w' => e = .returned (.bool (decide (n ≤ 60) && decide (m ≤ 60))) ∧ w' = w := by
  by_cases h1 : n ≤ 60
  · have t1 : decide ((n : Int) ≤ 60) = true := decide_eq_true (by omega)
    have t1n : decide (n ≤ 60) = true := decide_eq_true h1
    by_cases h2 : m ≤ 60
    · have t2 : decide ((m : Int) ≤ 60) = true := decide_eq_true (by omega)
      have t2n : decide (m ≤ 60) = true := decide_eq_true h2
      rw [t1n, t2n]
      clear h1 h2
      go_enter Try.func12, Try.ntmps12
      go_wp2
      go_ret
      exact ⟨rfl, rfl⟩
    · have t2 : decide ((m : Int) ≤ 60) = false := decide_eq_false (by omega)
      have t2n : decide (m ≤ 60) = false := decide_eq_false h2
      rw [t1n, t2n]
      clear h1 h2
      go_enter Try.func12, Try.ntmps12
      go_wp2
      go_ret
      exact ⟨rfl, rfl⟩
  · have t1 : decide ((n : Int) ≤ 60) = false := decide_eq_false (by omega)
    have t1n : decide (n ≤ 60) = false := decide_eq_false h1
    rw [t1n]
    clear h1
    go_enter Try.func12, Try.ntmps12
    go_wp2
    go_ret
    exact ⟨rfl, rfl⟩

set_option maxRecDepth 20000 in
set_option maxHeartbeats 3200000 in
theorem sameInts_any (A A' : Option Addr) (n c n' c' : Nat) (l l' : List Int) (w : World) (h : Arr iv w w.heap.size (.slice A n c) l) (h' : Arr iv w w.heap.size (.slice A' n' c') l') (hn : n ≤ 10000000) (hn' : n' ≤ 10000000) :
    Calls Try.prog 17 #[.slice A n c, .slice A' n' c'] w fun e w' => e = .returned (.bool (decide (l = l'))) ∧ Below w.heap.size w w' := by
  have HL := Lib.hid h.len
  have HL' := Lib.hid h'.len
  have HA := Lib.hid h
  have HA' := Lib.hid h'
  clear h h'
  by_cases hnn : n = n'
  · subst hnn
    have t0 : ((n : Int) != (n : Int)) = false := by simp
    go_enter Try.func17, Try.ntmps17
    go_wp2
    go_loopw [5] (fun i wr => ∃ k : Nat, k ≤ n ∧ i = .int .i64 (k : Int) ∧ Hid (l.take k = l'.take k) ∧ Below w.heap.size w wr) (fun i _ => n - (intOf i).toNat)
    case atStart => exact ⟨0, by omega, rfl, Lib.hid rfl, Below.refl _ _⟩
    case round =>
      obtain ⟨k, hk, rfl, HT, hb⟩ := hrel
      by_cases hlt : k < n
      · have t1 : decide ((k : Int) < (n : Int)) = true := decide_eq_true (by omega)
        have kz : (k : Int) < (n : Int) := by omega
        obtain ⟨x, hx⟩ : ∃ o, l[k]? = some o := ⟨_, List.getElem?_eq_getElem (by have := HL.out; omega)⟩
        obtain ⟨y, hy⟩ : ∃ o, l'[k]? = some o := ⟨_, List.getElem?_eq_getElem (by have := HL'.out; omega)⟩
        obtain ⟨b0, o0, rfl, hB0, hc0⟩ := HA.out.some_ (by omega)
        obtain ⟨b1, o1, rfl, hB1, hc1⟩ := HA'.out.some_ (by omega)
        have d0 : wr.cell? ⟨b0, o0 + k, none⟩ = some (.int .i64 x) := (hb.cell (p := ⟨b0, o0 + k, none⟩) hB0).trans (hc0 k x hx)
        have d1 : wr.cell? ⟨b1, o1 + k, none⟩ = some (.int .i64 y) := (hb.cell (p := ⟨b1, o1 + k, none⟩) hB1).trans (hc1 k y hy)
        by_cases hxy : x = y
        · have HT2 : Hid (l.take (k + 1) = l'.take (k + 1)) := Lib.hid (by rw [take_next hx, take_next hy, HT.out, hxy])
          have hd : (x != y) = false := by simp [hxy]
          clear hc0 hc1 hx hy hxy
          go_wp2
          go_region
          all_goals
            go_wp2
            go_roundw
            case rel => exact ⟨k + 1, by omega, by go_num, HT2, by first | exact hb | exact hb.drew | exact below_drewN hb _⟩
            case measure => first | (simp [intOf]; done) | (simp [intOf]; omega)
        · have HF : Hid (decide (l = l') = false) := Lib.hid (by
            rw [decide_eq_false]
            rintro rfl
            rw [hx] at hy
            injection hy with hy
            exact hxy hy)
          have hd : (x != y) = true := by simp [hxy]
          clear hc0 hc1 hx hy hxy
          go_wp2
          go_region
          all_goals
            go_wp2
            go_ret
            rw [HF.out]
            exact ⟨rfl, by first | exact hb | exact hb.drew | exact below_drewN hb _⟩
      · have t1 : decide ((k : Int) < (n : Int)) = false := decide_eq_false (by omega)
        have HF : Hid (decide (l = l') = true) := Lib.hid (by
          have e := HT.out
          rw [List.take_of_length_le (by have := HL.out; omega), List.take_of_length_le (by have := HL'.out; omega)] at e
          exact decide_eq_true e)
        go_wp2
        go_ret
        rw [HF.out]
        exact ⟨rfl, hb⟩
  · have t0 : ((n : Int) != (n' : Int)) = true := by simp; omega
    have HF : Hid (decide (l = l') = false) := Lib.hid (by
      rw [decide_eq_false]
      rintro rfl
      exact hnn (HL.out.symm.trans HL'.out))
    clear hnn
    go_enter Try.func17, Try.ntmps17
    go_wp2
    go_ret
    rw [HF.out]
    exact ⟨rfl, Below.refl _ _⟩

end Go.Proofs.Ytlloofmmblhnjaa
