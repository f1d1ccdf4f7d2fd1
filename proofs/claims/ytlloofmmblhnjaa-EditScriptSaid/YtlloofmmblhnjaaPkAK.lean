/-
  slices.Backward over rows; collecting rows.
  The program's block.
-/
import Derived.Test.YtlloofmmblhnjaaPkAI
import Derived.Test.YtlloofmmblhnjaaPkAJ
import Derived.Test.YtlloofmmblhnjaaPkAD
import Derived.Maps.OwnIn
namespace Go.Proofs.Ytlloofmmblhnjaa
open Go.RowKit Go.Shelf Go.Lib
attribute [local go_sem] Oper.semAt_some

/-- append(s, y) of one element inside a fence; the new row is the old one, or a new block. -/
theorem append_struct_inE {F : Fence} {n : Nat} {P : Program} {α : Type} {val : α → List Value} {sz : Nat} (t e : TypeId) (z : Value) (bytes : Nat) (ht : P.underlying t = some (.slice e)) (info : (P.info? e).map (fun i => (i.zero, i.size, i.bytes)) = some (some z, sz, bytes))
    (hzs : z.cells.size = sz) (hs0 : 0 < sz) (hbytes : bytes ≤ 100) (hv : ∀ x, (val x).length = sz) (hval : ∀ x, ∀ u ∈ val x, u.oneCell' = true)
    {ops : Array Oper} {rest : List Oper} {o : Oper} {a : Act} {Q : Exit → Act → World → Prop} (w : World) (hgd : o.guard = none) (s x : Operand)
    (ho : o.op = .call { callee := .builtin .append, args := #[s, x], argTypes := #[t, t] })
    (base : Nat) (v : Value) (xs : List α) (hs : a.eval s = v) (hown : w.ownsRow base e sz v xs.length (xs.flatMap val)) (y : α) (u : Array Value) (hu : u = (val y).toArray) (N : Nat) (hN : w.heap.size = N)
    (hx : a.eval x = .slice (some ⟨N, 0, none⟩) 1 1) (hlen : xs.length ≤ 1000000000000 - 1) (hbase : base ≤ w.heap.size)
    (h : ∀ v' w', w'.ownsRow base e sz v' (xs ++ [y]).length ((xs ++ [y]).flatMap val) → w.grownBy w' v.ownBlock → (v'.ownBlock = v.ownBlock ∨ ∃ g, v'.ownBlock = some g ∧ w.heap.size ≤ g) → wpListIn F n P ops Q rest (a.put o.dst v') w') : wpListIn F n P ops Q (o :: rest) a (w.alloc (.cells u e)) := by
  obtain ⟨i0, hi, hz0, hz1, hz2⟩ := info_parts info
  subst hu hN
  have hown1 : (w.alloc (.cells (val y).toArray e)).ownsRow base e sz v xs.length (xs.flatMap val) := own_keep_below hown ((Below.refl _ _).alloc (Nat.le_refl _) _)
  have hcell : ∀ j u, (val y)[j]? = some u → (w.alloc (.cells (val y).toArray e)).cell? ((⟨w.heap.size, 0, none⟩ : Addr).add j) = some u := by
    intro j u hu
    rw [plain_add, (Box.made w e (val y).toArray).cell]
    simpa using hu
  refine wpListIn_append_own_at (w := w.alloc (.cells (val y).toArray e)) hgd s x t ho base e i0 z sz bytes ht hi hz0 hz1 hz2 hzs hs0 v xs.length (xs.flatMap val) hs hown1 ⟨w.heap.size, 0, none⟩ 1 1 (val y) hx (by rw [hv, Nat.one_mul]) hcell (hval y)
    (by unfold maxLen; omega) (by have := Nat.mul_le_mul (show xs.length + 1 ≤ 1000000000000 by omega) hbytes; omega) (by simp; omega) ?_
  intro v' w' h1 h2 _ h4
  refine h v' w' (by rw [List.length_append, List.flatMap_append]; simpa using h1) (grown_trans (grown_of_below _ ((Below.refl _ _).alloc (Nat.le_refl _) _)) h2) ?_
  rcases h4 with h5 | h5
  · exact .inl h5
  · exact .inr ⟨_, h5, by simp⟩

/-- A row's three cells. -/
def rv (a b : List Int) (most : Int) (x : RowX) : List Value := [.int .i64 (x.1 : Int), .int .i64 (rowLo a b most x.1), .slice (some ⟨x.2, 0, none⟩) (rowN a b most x.1) (rowN a b most x.1)]
theorem rv_len (a b : List Int) (most : Int) (x : RowX) : (rv a b most x).length = 3 := rfl
theorem rv_one (a b : List Int) (most : Int) (x : RowX) : ∀ u ∈ rv a b most x, u.oneCell' = true := by
  intro u hu
  unfold rv at hu
  simp only [List.mem_cons, List.not_mem_nil, or_false] at hu
  rcases hu with rfl | rfl | rfl <;> rfl
theorem info_row : (Try.prog.info? 57).map (fun i => (i.zero, i.size, i.bytes)) = some (some (.agg #[.int .i64 0, .int .i64 0, .slice none 0 0]), 3, 40) := by kernel_rfl
theorem rows_ne : (74 : TypeId) ≠ 57 := by decide

/-- Between two rounds: the variable in block Bx holds a slice of the call's own with the rows that were collected. -/
structure CollR (a b : List Int) (T : Nat → Nat → Nat) (most : Int) (w : World) (Bx lo : Nat) (v : Value) (col : List RowX) (W : World) : Prop where
  box : Boxed W Bx 74 v
  row : W.ownsRow lo 57 3 v col.length (col.flatMap (rv a b most))
  bel : Below w.heap.size w W
  size : lo ≤ W.heap.size
  rows : ∀ y ∈ col, RowB W y.2 (rowL a b T most y.1)

theorem own_cells {W : World} {lo k sz : Nat} {e : TypeId} {v : Value} {n : Nat} {xs : List Value} (h : W.ownsRow lo e sz v n xs) (hk : v.ownBlock = some k) : ∃ cs, W.heap[k]? = some (.cells cs e (0, 0)) := by
  rcases h.2 with ⟨rfl, _⟩ | ⟨g', cap, cur, rfl, _, hgb, _⟩
  · cases hk
  · have : g' = k := by simpa [Value.ownBlock] using hk
    subst this
    exact ⟨_, hgb⟩

section
variable {a b : List Int} {T : Nat → Nat → Nat} {most : Int} {w W W' : World} {Bx lo : Nat} {v : Value} {col : List RowX}
theorem CollR.cells (h : CollR a b T most w Bx lo v col W) : ∀ k, v.ownBlock = some k → ∃ o, W.heap[k]? = some o ∧ o.isCells = true := fun k hk => by
  obtain ⟨cs, hc⟩ := own_cells h.row hk
  exact ⟨_, hc, rfl⟩
theorem CollR.soft (h : CollR a b T most w Bx lo v col W) {lo' : Nat} (hB : Bx < lo') (hw : w.heap.size ≤ lo') (hs : Soft lo' v.ownBlock W W') : CollR a b T most w Bx lo v col W' where
  box := hs.block _ _ h.box (.inl hB)
  row := ⟨h.row.1, by
    rcases h.row.2 with h | ⟨g', cap, cur, h1, h2, h3, h4⟩
    · exact .inl h
    · exact .inr ⟨g', cap, cur, h1, h2, hs.block _ _ h3 (.inr (.inl (by rw [h1]; rfl))), h4⟩⟩
  bel := hs.below h.bel hw (Nat.le_refl _)
  size := Nat.le_trans h.size hs.size
  rows := fun y hy => hs.block _ _ (h.rows y hy) (.inr (.inr ⟨_, _, rfl⟩))
theorem CollR.start (hb : Boxed W Bx 74 (.slice none 0 0)) (hw : Below w.heap.size w W) (hz : lo ≤ W.heap.size) : CollR a b T most w Bx lo (.slice none 0 0) [] W :=
  ⟨hb, ⟨by simp, .inl ⟨rfl, rfl⟩⟩, hw, hz, fun y hy => by cases hy⟩
/-- Behind the append and the store. -/
theorem CollR.stored {v' : Value} {w1 : World} {x : RowX} {U : Nat → Prop} {lo' : Nat} (h : CollR a b T most w Bx lo v col W) (hBw : w.heap.size ≤ Bx) (hlo : Bx < lo) (hlo' : lo ≤ lo') (hx : RowB W x.2 (rowL a b T most x.1))
    (h1 : w1.ownsRow lo 57 3 v' (col ++ [x]).length ((col ++ [x]).flatMap (rv a b most))) (h2 : W.grownBy w1 v.ownBlock) (h3 : v'.ownBlock = v.ownBlock ∨ ∃ g, v'.ownBlock = some g ∧ W.heap.size ≤ g)
    (hU : ∀ k, U k → k ≠ Bx ∧ (k < lo ∨ ∃ l, RowB W k l)) :
    Boxed w1 Bx 74 v ∧ CollR a b T most w Bx lo v' (col ++ [x]) (w1.setCell ⟨Bx, 0, none⟩ v') ∧ RoundV lo' U v.ownBlock v'.ownBlock W (w1.setCell ⟨Bx, 0, none⟩ v') := by
  have hb1 : Boxed w1 Bx 74 v := h.box.kept h2 (h.box.not_row rows_ne h.row)
  have hsz := (grownBy_setCell' w1 Bx v').size
  have hgx : ∀ k, v.ownBlock = some k → lo ≤ k := fun k ek => (h.row.lt k ek).1
  have hint : ∀ k l, RowB W k l → v.ownBlock ≠ some k := fun k l hk e => by
    obtain ⟨cs, hc⟩ := own_cells h.row e
    unfold RowB Box at hk
    rw [hk] at hc
    injection hc with hc
    injection hc with _ hc _
    exact absurd hc (by decide)
  have hkeep : ∀ k l, RowB W k l → k ≠ Bx → RowB (w1.setCell ⟨Bx, 0, none⟩ v') k l := fun k l hk hkx =>
    hk.keep ((Below.heap_setCell w1 ⟨Bx, 0, none⟩ v' k (by show k ≠ Bx; exact hkx)).trans (h2.block k hk.lt (fun e2 => hint k l hk e2.symm)))
  have hnb : ∀ k l, RowB W k l → k ≠ Bx := fun k l hk e => by
    subst e
    have := h.box
    unfold Boxed at this
    unfold RowB Box at hk
    rw [hk] at this
    injection this with this
    injection this with _ this _
    exact absurd this (by decide)
  refine ⟨hb1, ⟨hb1.set v', h1.kept (grownBy_setCell' w1 Bx v') (.inr fun e2 => ?_), ?_, Nat.le_trans h.size (Nat.le_trans h2.size hsz), fun y hy => ?_⟩, ⟨h3, Nat.le_trans h2.size hsz, fun k hk hUk => ?_⟩⟩
  · have := (h1.lt Bx e2).1
    omega
  · refine (h.bel.grown h2 h.bel.size fun k ek => by have := hgx k ek; omega).grown (grownBy_setCell' w1 Bx v') (Nat.le_trans h.bel.size h2.size) fun k ek => by cases ek; exact hBw
  · rcases List.mem_append.1 hy with hy | hy
    · exact hkeep _ _ (h.rows y hy) (hnb _ _ (h.rows y hy))
    · rw [List.mem_singleton] at hy
      subst hy
      exact hkeep _ _ hx (hnb _ _ hx)
  · have hkB : k ≠ Bx ∧ v.ownBlock ≠ some k := by
      rcases hUk with hu | hu
      · obtain ⟨h5, h6⟩ := hU k hu
        rcases h6 with h6 | ⟨l, h6⟩
        · exact ⟨h5, fun e2 => by have := hgx k e2; omega⟩
        · exact ⟨h5, hint k l h6⟩
      · exact ⟨by omega, hu.2⟩
    exact (Below.heap_setCell w1 ⟨Bx, 0, none⟩ v' k (by show k ≠ Bx; exact hkB.1)).trans (h2.block k hk (fun e2 => hkB.2 e2.symm))
end

/-! slices.Backward. -/
theorem backward_any (A : Option Addr) (n c : Nat) (w : World) : Calls Try.prog 52 #[.slice A n c] w fun e w' => e = .returned (.func (.func 54) #[] #[.pointer (some ⟨w.heap.size, 0, none⟩)]) ∧ w' = w.alloc (.cells #[.slice A n c] 74) := by
  go_enter Try.func52, Try.ntmps52
  go_wp2
  go_ret
  exact ⟨rfl, rfl⟩

set_option maxRecDepth 20000 in
set_option maxHeartbeats 12800000 in
theorem back_seq (a b : List Int) (most : Int) (n : Nat) (hn5 : 5 ≤ n) (A : Option Addr) (m c Bs : Nat) (xs : List RowX) (w0 : World) (hs : Boxed w0 Bs 74 (.slice A m c)) (hx : SArr 3 (rv a b most) w0 w0.heap.size (.slice A m c) xs) (hm : m ≤ 1000000) :
    SeqV Fence.wide n Try.prog 54 #[.pointer (some ⟨Bs, 0, none⟩)] (fun x : Nat × RowX => #[.int .i64 (x.1 : Int), rowVal a b most x.2]) (fun k => k = Bs ∨ ∃ p : Addr, A = some p ∧ k = p.block)
      (fun pre x _ => x.1 + 1 + pre.length = m ∧ xs[x.1]? = some x.2) (fun ys => ys.length = m) m w0 := by
  intro l J g0 W hW hJc hJa hY h0
  have hWs := hW.size
  have hlen := hx.len
  have hsW := (hW.block Bs hs.lt).trans hs
  have k0 : W.cell? ⟨Bs, 0, none⟩ = some (.slice A m c) := Boxed.cell hsW
  have hfix : ∀ W', W'.heap[Bs]? = W.heap[Bs]? → Boxed W' Bs 74 (.slice A m c) := fun W' h => h.trans hsW
  have hJ0 := h0
  have HY := Lib.hid hY
  have HJa := Lib.hid hJa
  have HJc := Lib.hid hJc
  have HX := Lib.hid hx
  have HL := Lib.hid hlen
  have HF := Lib.hid hfix
  have HJ0 := Lib.hid hJ0
  have hBs : Bs < W.heap.size := Nat.lt_of_lt_of_le hs.lt hWs
  obtain ⟨m1, hm1⟩ : ∃ z : Int, (m : Int) - 1 = z := ⟨_, rfl⟩
  have wm1 : IntKind.i64.wrap m1 = m1 := wraps_i64 _ (by omega) (by omega)
  have hn1 : 1 ≤ n := by omega
  clear hs hx hY hJa hJc h0 hJ0 hsW hlen hfix
  refine callsIn_of_wp Try.func54 rfl trivial ?_ rfl
  simp only [Try.ntmps54, List.size_toArray, List.length_cons, List.length_nil, Nat.reduceAdd, Nat.reduceSub, Array.replicate_succ, Array.replicate_zero, List.push_toArray, List.append_toArray, List.nil_append, List.cons_append]
  gi_wp2
  gi_loopw [3] (fun v wr => ∃ (i : Nat) (g : Option Nat) (pre : List (Nat × RowX)), v = .int .i64 ((i : Int) - 1) ∧ i + pre.length = m ∧ Hid (J g pre wr) ∧ W.heap.size ≤ wr.heap.size ∧ Hid (∀ k, (k = Bs ∨ ∃ p : Addr, A = some p ∧ k = p.block) → k < W.heap.size → wr.heap[k]? = W.heap[k]?)) (fun v _ => (intOf v + 1).toNat)
  case atStart => exact ⟨m, g0, [], by rw [← hm1], rfl, HJ0, Nat.le_refl _, Lib.hid fun _ _ _ => rfl⟩
  case round =>
    obtain ⟨i, g, pre, rfl, hi, HJ, hsz, HU⟩ := hrel
    cases i with
    | zero =>
      have HE : Hid (pre.length = m) := Lib.hid (by omega)
      have e0 : ((0 : Nat) : Int) - 1 = -1 := rfl
      gi_wp2
      go_end0
      exact ⟨⟨_, rfl⟩, _, HE.out, _, HJ.out⟩
    | succ q =>
      obtain ⟨z, hz⟩ : ∃ z : Int, ((q + 1 : Nat) : Int) - 1 = z := ⟨_, rfl⟩
      obtain rfl : z = (q : Int) := by omega
      rw [hz]
      obtain ⟨x, hxq⟩ : ∃ x, xs[q]? = some x := ⟨_, List.getElem?_eq_getElem (by have := HL.out; omega)⟩
      obtain ⟨bb, ob, rfl, hBb, hcb⟩ := HX.out.some_ (rv_len a b most) (by decide) (by omega)
      have hBB : wr.heap[bb]? = w0.heap[bb]? := (HU.out bb (.inr ⟨_, rfl, rfl⟩) (by omega)).trans (hW.block bb hBb)
      have hcl : ∀ j u, (rv a b most x)[j]? = some u → wr.cell? ⟨bb, ob + q * 3 + j, none⟩ = some u := fun j u hu => by
        rw [← hcb q x hxq j u hu]
        simp [World.cell?, hBB]
      have d0 : wr.cell? ⟨bb, ob + q * 3, none⟩ = some (.int .i64 (x.1 : Int)) := hcl 0 _ rfl
      have d1 : wr.cell? ⟨bb, ob + q * 3 + 1, none⟩ = some (.int .i64 (rowLo a b most x.1)) := hcl 1 _ rfl
      have d2 : wr.cell? ⟨bb, ob + q * 3 + 2, none⟩ = some (.slice (some ⟨x.2, 0, none⟩) (rowN a b most x.1) (rowN a b most x.1)) := hcl 2 _ rfl
      have hbs := Boxed.cell (HF.out wr (HU.out Bs (.inl rfl) hBs))
      obtain ⟨fn, tmps, assign, body, hy, hRn⟩ := HY.out g pre (q, x) wr HJ.out ⟨by omega, hxq⟩ (by omega)
      dsimp only [rowVal, rowCells] at hy
      have zq : (q : Int) < (m : Int) := by omega
      have zq0 : (0 : Int) ≤ (q : Int) := by omega
      have hqi : q + (pre ++ [(q, x)]).length = m := by rw [List.length_append, List.length_singleton]; omega
      have HQ := Lib.hid hqi
      have wq1 : IntKind.i64.wrap ((q : Int) - 1) = (q : Int) - 1 := wraps_i64 _ (by omega) (by omega)
      have hgs : ∀ k, g = some k → k < wr.heap.size := fun k e => by
        obtain ⟨o, h1, _⟩ := HJc.out _ _ _ HJ.out k e
        exact (Array.getElem?_eq_some_iff.1 h1).1
      clear hcl hcb hBB hxq hz hi hqi
      gi_wp2
      refine (round_wideE hRn).mono ?_
      rintro e W3 ⟨rfl, g3, hJ3, hR3⟩
      have HJ3 := Lib.hid hJ3
      have HU3 : Hid (∀ k, (k = Bs ∨ ∃ p : Addr, some (⟨bb, ob, none⟩ : Addr) = some p ∧ k = p.block) → k < W.heap.size → W3.heap[k]? = W.heap[k]?) := Lib.hid fun k hk hl => (hR3.block k (by omega) (.inl hk)).trans (HU.out k hk hl)
      have hs3 : W.heap.size ≤ W3.heap.size := Nat.le_trans hsz hR3.size
      clear hJ3 hR3 hRn hy d0 d1 d2 hbs
      gi_wp2
      go_roundw
      case rel => exact ⟨q, g3, _, rfl, HQ.out, HJ3, hs3, HU3⟩
      case measure => first | (simp [intOf]; done) | (simp [intOf]; omega)

end Go.Proofs.Ytlloofmmblhnjaa

namespace Go.Proofs.Ytlloofmmblhnjaa
open Go.RowKit Go.Shelf Go.Lib
attribute [local go_sem] Oper.semAt_some

set_option maxRecDepth 20000 in
set_option maxHeartbeats 12800000 in
theorem block_any {a b : List Int} {R : Nat} {T : Nat → Nat → Nat} {S : Nat → Nat → List OpI} (g : Grid a b R T S) (A A' : Option Addr) (n c m c' : Nat) (most : Int) (B0 : Nat) (w : World) (h : Arr iv w w.heap.size (.slice A n c) a) (h' : Arr iv w w.heap.size (.slice A' m c') b)
    (hn : n ≤ 100000) (hm : m ≤ 100000) (hmost : most ≤ 400000) (hen : dz (enZ a b) ≤ most) (hmo0 : 0 ≤ most) (hD : T 0 0 ≤ 255) (hB0 : RowB w B0 (rowL a b T most ((0 : Nat) : Int))) (rc : Array Value) (hrc : rc = rowCells a b most (0, B0)) :
    Calls Try.prog 53 #[.agg #[.slice A n c, .slice A' m c', .int .i64 (R : Int), .int .i64 most], .agg rc] w fun e w' =>
      ∃ (Ar : Option Addr) (l cr : Nat) (ys : List RowX), e = .returned (.slice Ar l cr) ∧ SArr 3 (rv a b most) w' w'.heap.size (.slice Ar l cr) ys ∧ ys.length = rowCnt (T 0 0) most 0 ∧ (∀ (i : Nat) (y : RowX), ys[i]? = some y → y.1 = i ∧ (y.2 = B0 ∨ w.heap.size ≤ y.2)) ∧ (∀ p, Ar = some p → w.heap.size ≤ p.block) ∧ (∀ y ∈ ys, RowB w' y.2 (rowL a b T most y.1)) ∧ Below w.heap.size w w' := by
  obtain ⟨lo, hlo⟩ : ∃ lo, rowLo a b most ((0 : Nat) : Int) = lo := ⟨_, rfl⟩
  obtain ⟨L, hL⟩ : ∃ L, rowN a b most ((0 : Nat) : Int) = L := ⟨_, rfl⟩
  have hrc2 : rc = #[.int .i64 0, .int .i64 lo, .slice (some ⟨B0, 0, none⟩) L L] := by rw [hrc]; simp [rowCells, ← hlo, ← hL]
  have hrc3 : rowCells a b most (0, B0) = #[.int .i64 0, .int .i64 lo, .slice (some ⟨B0, 0, none⟩) L L] := by rw [← hrc, hrc2]
  subst hrc2
  clear hrc
  obtain ⟨W3, hW3⟩ : ∃ W3, ((w.alloc (.cells #[.slice A n c, .slice A' m c', .int .i64 (R : Int), .int .i64 most] 52)).alloc (.cells #[.int .i64 0, .int .i64 lo, .slice (some ⟨B0, 0, none⟩) L L] 57)).alloc (.cells #[.slice none 0 0] 74) = W3 := ⟨_, rfl⟩
  have hs3 : W3.heap.size = w.heap.size + 3 := by rw [← hW3]; simp
  have kb3 : Below w.heap.size w W3 := by rw [← hW3]; exact (((Below.refl _ w).alloc (Nat.le_refl _) _).alloc (by simp) _).alloc (by simp; omega) _
  have hbl : Boxed W3 (w.heap.size + 1 + 1) 74 (.slice none 0 0) := by
    rw [← hW3]
    have := Boxed.new ((w.alloc (.cells #[.slice A n c, .slice A' m c', .int .i64 (R : Int), .int .i64 most] 52)).alloc (.cells #[.int .i64 0, .int .i64 lo, .slice (some ⟨B0, 0, none⟩) L L] 57)) 74 (.slice none 0 0)
    rwa [show ((w.alloc (.cells #[.slice A n c, .slice A' m c', .int .i64 (R : Int), .int .i64 most] 52)).alloc (.cells #[.int .i64 0, .int .i64 lo, .slice (some ⟨B0, 0, none⟩) L L] 57)).heap.size = w.heap.size + 2 by simp] at this
  obtain ⟨W4, hW4⟩ : ∃ W4, (W3.alloc (.cells #[.slice A n c, .slice A' m c', .int .i64 (R : Int), .int .i64 most] 52)).alloc (.cells #[.int .i64 0, .int .i64 lo, .slice (some ⟨B0, 0, none⟩) L L] 57) = W4 := ⟨_, rfl⟩
  have hs4 : W4.heap.size = w.heap.size + 5 := by rw [← hW4]; simp; omega
  have kb34 : Below W3.heap.size W3 W4 := by rw [← hW4]; exact ((Below.refl _ W3).alloc (Nat.le_refl _) _).alloc (by simp) _
  have kb4 := kb3.trans (kb34.mono (by omega))
  have hp4 : Box W4 (w.heap.size + 3) 52 #[.slice A n c, .slice A' m c', .int .i64 (R : Int), .int .i64 most] := by
    rw [← hW4, ← hs3]; exact (Box.made W3 _ _).alloc _
  have hf4 : Box W4 (w.heap.size + 4) 57 (rowCells a b most (0, B0)) := by
    rw [hrc3, ← hW4]
    have := Box.made (W3.alloc (.cells #[.slice A n c, .slice A' m c', .int .i64 (R : Int), .int .i64 most] 52)) 57 #[.int .i64 0, .int .i64 lo, .slice (some ⟨B0, 0, none⟩) L L]
    rwa [World.size_alloc, hs3] at this
  have hl4 : Boxed W4 (w.heap.size + 1 + 1) 74 (.slice none 0 0) := (kb34.block _ (by omega)).trans hbl
  have hlB := hB0.lt
  have HSeq := Lib.hid (rows_seq g 99 (by omega) A A' n c m c' most 0 w.heap.size (w.heap.size + 3) (w.heap.size + 4) B0 W4 (h.below kb4) (h'.below kb4) hn hm hmost hen (by omega) (by omega) hf4 hp4 (hB0.keep (kb4.block _ hlB)))
  have hC0 : CollR a b T most w (w.heap.size + 1 + 1) (w.heap.size + 5) (.slice none 0 0) [] W4 := CollR.start hl4 kb4 (by omega)
  have HW3 := Lib.hid hW3
  have HW4 := Lib.hid hW4
  have HC0 := Lib.hid hC0
  have hcn : rowCnt (T 0 0) most 0 ≤ 255 := by unfold rowCnt; omega
  have HR := fun W => rows_any #[.slice A n c, .slice A' m c', .int .i64 (R : Int), .int .i64 most] #[.int .i64 0, .int .i64 lo, .slice (some ⟨B0, 0, none⟩) L L] W A A' n c m c' (R : Int) most 0 lo B0 L rfl rfl
  have HRo := Lib.hid HR
  clear h h' hW3 hW4 hbl kb34 hp4 hf4 hl4 hlo hL hen hrc3 hB0 hC0 HR
  refine (callsIn_wide (n := 100)).1 ?_
  refine callsIn_of_wp_marks Try.func53 rfl trivial ?_ rfl
  simp only [Try.ntmps53, List.size_toArray, List.length_cons, List.length_nil, Nat.reduceAdd, Nat.reduceSub, Array.replicate_succ, Array.replicate_zero, List.push_toArray, List.append_toArray, List.nil_append, List.cons_append]
  have w1 : Fence.wide.fn 34 := trivial
  gi_wp2_with fail
  rw [HW3.out]
  refine (callsIn_wide.2 (HRo.out _)).mono ?_
  rintro e w4 ⟨rfl, rfl⟩
  rw [HW4.out]
  gi_wp2
  refine wpIn_rangeFunc_vsep rfl (by omega) (gf := 42) (lb := #[.pointer (some ⟨w.heap.size + 4, 0, none⟩), .pointer (some ⟨w.heap.size + 3, 0, none⟩)]) rfl trivial (enters_of Try.func42 (by kernel_rfl) rfl) HSeq.out (Below.refl _ _) (fun _ => rfl)
    (fun gr pre W => ∃ v, gr = v.ownBlock ∧ CollR a b T most w (w.heap.size + 1 + 1) (w.heap.size + 5) v pre W ∧ ∀ (i : Nat) (y : RowX), pre[i]? = some y → y.1 = i ∧ (y.2 = B0 ∨ w.heap.size ≤ y.2))
    (fun gr s W h k e => by
      obtain ⟨v, rfl, hc, _⟩ := h
      exact hc.cells k e)
    (fun gr s A B h ha => by
      obtain ⟨v, rfl, hc, hi⟩ := h
      exact ⟨v, rfl, hc.soft (by omega) (by omega) ha, hi⟩) none ⟨.slice none 0 0, rfl, HC0.out, fun i y hy => by simp at hy⟩
    (fun pre x a' W => ∃ B, W.heap[B]? = some (.cells (rowCells a b most x) 57 (0, 0)) ∧ (x.1 = 0 + pre.length ∧ (x.2 = B0 ∨ w.heap.size ≤ x.2)) ∧ RowB W x.2 (rowL a b T most x.1) ∧
      a' = { tmps := #[.agg #[.slice A n c, .slice A' m c', .int .i64 (R : Int), .int .i64 most], .agg #[.int .i64 0, .int .i64 lo, .slice (some ⟨B0, 0, none⟩) L L], .pointer (some ⟨w.heap.size, 0, none⟩), .pointer (some ⟨w.heap.size + 1, 0, none⟩), .slice none 0 0,
        .pointer (some ⟨w.heap.size + 1 + 1, 0, none⟩), .pointer (some ⟨B, 0, none⟩), .agg #[.slice A n c, .slice A' m c', .int .i64 (R : Int), .int .i64 most], .agg #[.int .i64 0, .int .i64 lo, .slice (some ⟨B0, 0, none⟩) L L],
        .func (.func 42) #[] #[.pointer (some ⟨w.heap.size + 3 + 1, 0, none⟩), .pointer (some ⟨w.heap.size + 3, 0, none⟩)], rowVal a b most x, undef, undef, undef, undef, undef, undef, undef, undef], defers := [] })
    (fun pre x a' W k o o' hx hk ho => by
      obtain ⟨B, h1, h2, h3, h4⟩ := hx
      exact ⟨B, (World.putObj_heap_other (fun e => by rw [e, hk] at h1; cases h1; cases ho)).trans h1, h2, h3.keep (World.putObj_heap_other (fun e => by
        unfold RowB Box at h3
        rw [e, hk] at h3; cases h3; cases ho)), h4⟩) ?assign ?body ?done
  case assign =>
    intro l go pre x W K hi hV hN hK
    have HV := Lib.hid hV
    clear hV
    unfold rowVal rowCells
    gi_wp2
    have hb := (Below.refl W.heap.size W).alloc (Nat.le_refl _) (.cells (rowCells a b most x) 57)
    obtain ⟨v, hv, hc, hpi⟩ := hi
    refine hK _ _ (RoundV.of_below hb) ⟨v, hv, hc.soft (lo' := w.heap.size + 5) (by omega) (by omega) (Soft.of_below hb), hpi⟩ ⟨W.heap.size, World.alloc_heap_new W _, ⟨HV.out.1, HV.out.2.2.imp id (Nat.le_trans (by omega))⟩, HV.out.2.1.keep (hb.block _ HV.out.2.1.lt), rfl⟩
  case body =>
    rintro l go pre x a' W hl hr ⟨v, rfl, hc, hpi⟩ ⟨B, hB, hx1, hxr, rfl⟩ hlt
    have hcb := hc.box.cell
    have d0 : W.cell? ⟨B, 0, none⟩ = some (.int .i64 (x.1 : Int)) := by simp [World.cell?, hB, rowCells]
    have d1 : W.cell? ⟨B, 1, none⟩ = some (.int .i64 (rowLo a b most x.1)) := by simp [World.cell?, hB, rowCells]
    have d2 : W.cell? ⟨B, 2, none⟩ = some (.slice (some ⟨x.2, 0, none⟩) (rowN a b most x.1) (rowN a b most x.1)) := by simp [World.cell?, hB, rowCells]
    have hws := hc.size
    have HC := Lib.hid hc
    have HX := Lib.hid hxr
    have hpl : pre.length ≤ 254 := by omega
    have HPi : Hid (∀ (i : Nat) (y : RowX), (pre ++ [x])[i]? = some y → y.1 = i ∧ (y.2 = B0 ∨ w.heap.size ≤ y.2)) := Lib.hid (by
      intro i y hy
      by_cases hi : i < pre.length
      · rw [List.getElem?_append_left hi] at hy
        exact hpi i y hy
      · rw [List.getElem?_append_right (by omega)] at hy
        by_cases hi0 : i = pre.length
        · subst hi0
          simp at hy
          subst hy
          exact ⟨by omega, hx1.2⟩
        · rw [List.getElem?_eq_none (by simp; omega)] at hy
          cases hy)
    have hne : ((pre.length + 1 : Nat) : Int) ≠ 256 := by omega
    clear hB hc hxr hpi hx1
    gi_wp2_with (gi_at_builtin; refine append_struct_inE (val := rv a b most) 74 57 (.agg #[.int .i64 0, .int .i64 0, .slice none 0 0]) 40 Try.underlying74 info_row rfl (by decide) (by decide) (rv_len a b most) (rv_one a b most) W rfl (.tmp 11) (.tmp 13) rfl (w.heap.size + 5) v pre rfl HC.out.row x #[.int .i64 (x.1 : Int), .int .i64 (rowLo a b most x.1), .slice (some ⟨x.2, 0, none⟩) (rowN a b most x.1) (rowN a b most x.1)] rfl W.heap.size rfl rfl (by omega) (by omega) ?_; intro v' w1 hown' hgrow hwh; obtain ⟨hb1, hC, hRd⟩ := HC.out.stored (U := fun k => k < w.heap.size ∨ k = w.heap.size + 3 ∨ k = B0) (lo' := W4.heap.size) (by omega) (by omega) (by omega) HX.out hown' hgrow hwh (fun k hk => have hk' : k < w.heap.size ∨ k = w.heap.size + 3 ∨ k = B0 := hk; ⟨by omega, .inl (by omega)⟩); have hc1 := hb1.cell; have hf1 := hb1.frozen; rw [List.length_append, List.length_singleton] at hown'; obtain ⟨g', cap, rfl⟩ := ownsRow_succ hown'; have HC2 := Lib.hid hC; have HRd := Lib.hid hRd; have hc2 := (Boxed.set (.slice (some ⟨g', 0, none⟩) (pre.length + 1) cap) hb1).cell; clear hown' hgrow hwh hC hRd hb1)
    exact ⟨_, ⟨_, rfl, HC2.out, HPi.out⟩, HRd.out⟩
  case done =>
    rintro D xs go W hD hS ⟨v, rfl, hc, hpi⟩ hDef
    have hcb := hc.box.cell
    have hbl : v.ownBlock = none ∨ v.ownBlock ≠ some D := by
      cases hv : v.ownBlock with
      | none => exact .inl rfl
      | some k =>
        refine .inr fun e => ?_
        obtain ⟨o, h1, h2⟩ := hc.cells D (by rw [hv]; exact e)
        rw [hDef] at h1; cases h1; cases h2
    have hk := hc.row.kept (grownBy_putObj' W D (.deferred none)) hbl
    have hA := SArr.of_own (rv_len a b most) hk
    have hbw := hc.bel.grown (grownBy_putObj' W D (.deferred none)) hc.bel.size (fun k e => by cases e; omega)
    have hrows : ∀ y ∈ xs, RowB (W.putObj D (.deferred none)) y.2 (rowL a b T most y.1) := fun y hy => (hc.rows y hy).keep (World.putObj_heap_other (fun e => by
      have := hc.rows y hy
      unfold RowB Box at this
      rw [e, hDef] at this; cases this))
    obtain ⟨Ar, cr, rfl⟩ := hA.form
    have hbase : ∀ p, Ar = some p → w.heap.size ≤ p.block := fun p e => by
      subst e
      have := (hc.row.lt p.block (by simp [Value.ownBlock])).1
      omega
    have HAll := Lib.hid (And.intro hA (And.intro hS (And.intro hpi (And.intro hbase (And.intro hrows hbw)))))
    clear hA hS hpi hrows hbw hk hbl hc hbase
    gi_wp2
    refine ⟨by simp, .inl ⟨_, _, rfl, run_takeDeferred hDef, ?_⟩⟩
    exact ⟨_, results_tmp rfl _ _ _, _, _, _, xs, rfl, HAll.out.1, HAll.out.2.1, HAll.out.2.2.1, HAll.out.2.2.2.1, HAll.out.2.2.2.2.1, HAll.out.2.2.2.2.2⟩

end Go.Proofs.Ytlloofmmblhnjaa
