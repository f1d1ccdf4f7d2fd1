/-
  Words for slices of structs, over any program and any numbering: such a slice as a list, rows of the call's own, append.
  The reference's Text, Cost, Inside, SameOps.
  The reference's Inside.
-/
import Derived.Test.YtlloofmmblhnjaaWords
import Derived.Test.YtlloofmmblhnjaaPkAC
namespace Go.Proofs.Ytlloofmmblhnjaa
open Go.RowKit

/-- In w, the slice v reads as the list xs: each element takes sz cells that hold its values. -/
def SArr {α : Type} (sz : Nat) (val : α → List Value) (w : World) (B : Nat) (v : Value) (xs : List α) : Prop :=
  (v = .slice none 0 0 ∧ xs = []) ∨ ∃ (a : Addr) (c : Nat), v = .slice (some a) xs.length c ∧ xs.length ≤ c ∧ (0 < xs.length → a.block < B) ∧ ∀ i u, xs[i]? = some u → ∀ j x, (val u)[j]? = some x → w.cell? (a.add (i * sz + j)) = some x

section
variable {α : Type} {sz : Nat} {val : α → List Value}
theorem SArr.nil_ (w : World) (B : Nat) : SArr sz val w B (.slice none 0 0) [] := .inl ⟨rfl, rfl⟩
theorem SArr.keep {w w' : World} {B : Nat} {v : Value} {xs : List α} (h : SArr sz val w B v xs) (hk : ∀ p : Addr, p.block < B → w'.cell? p = w.cell? p) : SArr sz val w' B v xs := by
  rcases h with h | ⟨a, c, e, hl, hb, hc⟩
  · exact .inl h
  · exact .inr ⟨a, c, e, hl, hb, fun i u hu j x hx => (hk _ (by rw [add_block]; exact hb (by have := (List.getElem?_eq_some_iff.1 hu).1; omega))).trans (hc i u hu j x hx)⟩
theorem SArr.below {w w' : World} {B : Nat} {v : Value} {xs : List α} (h : SArr sz val w B v xs) (hb : Below B w w') : SArr sz val w' B v xs := h.keep fun _ hp => hb.cell hp
theorem SArr.more {w : World} {B B' : Nat} {v : Value} {xs : List α} (h : SArr sz val w B v xs) (hB : B ≤ B') : SArr sz val w B' v xs := by
  rcases h with h | ⟨a, c, e, hl, hb, hc⟩
  · exact .inl h
  · exact .inr ⟨a, c, e, hl, fun h => by have := hb h; omega, hc⟩
theorem SArr.at_ {W w : World} {v : Value} {xs : List α} (h : SArr sz val W W.heap.size v xs) (hb : Below W.heap.size W w) : SArr sz val w W.heap.size v xs := h.below hb
theorem SArr.up {W w : World} {v : Value} {xs : List α} (h : SArr sz val W W.heap.size v xs) (hb : Below W.heap.size W w) : SArr sz val w w.heap.size v xs := (h.below hb).more hb.size
theorem SArr.form {w : World} {B : Nat} {v : Value} {xs : List α} (h : SArr sz val w B v xs) : ∃ A c, v = .slice A xs.length c := by
  rcases h with ⟨e, rfl⟩ | ⟨a, c, e, _⟩
  · exact ⟨_, _, e⟩
  · exact ⟨_, _, e⟩
theorem SArr.len {w : World} {B n c : Nat} {A : Option Addr} {xs : List α} (h : SArr sz val w B (.slice A n c) xs) : xs.length = n := by
  rcases h with ⟨e, rfl⟩ | ⟨a, c', e, _⟩
  · injection e with _ e2 _; exact e2.symm
  · injection e with _ e2 _; exact e2.symm
theorem SArr.cap {w : World} {B n c : Nat} {A : Option Addr} {xs : List α} (h : SArr sz val w B (.slice A n c) xs) : n ≤ c := by
  have hl := h.len
  rcases h with ⟨e, rfl⟩ | ⟨a, c', e, hc, _⟩
  · simp at hl; omega
  · injection e with _ _ e3; omega
/-- A slice with elements: its address written out. -/
theorem SArr.some_ {w : World} {B n c : Nat} {A : Option Addr} {xs : List α} (h : SArr sz val w B (.slice A n c) xs) (hv : ∀ x, (val x).length = sz) (hs : 0 < sz) (h0 : 0 < n) :
    ∃ b off, A = some ⟨b, off, none⟩ ∧ b < B ∧ ∀ i u, xs[i]? = some u → ∀ j x, (val u)[j]? = some x → w.cell? ⟨b, off + i * sz + j, none⟩ = some x := by
  have hl := h.len
  rcases h with ⟨e, _⟩ | ⟨a, c', e, _, hb, hc⟩
  · injection e with _ e2 _; omega
  · injection e with e1 e2 e3
    have hu := List.getElem?_eq_getElem (show 0 < xs.length by omega)
    have hx := List.getElem?_eq_getElem (l := val xs[0]) (i := 0) (by rw [hv]; exact hs)
    have hcell := hc 0 _ hu 0 _ hx
    obtain ⟨b, off, spot⟩ := a
    have hspot : spot = none := by simpa [Addr.add] using World.cell?_spot hcell
    subst hspot
    refine ⟨b, off, e1, hb (by omega), fun i u hu j x hx => ?_⟩
    have := hc i u hu j x hx
    rw [add_plain, ← Nat.add_assoc] at this
    exact this
theorem SArr.head {w : World} {B N n c : Nat} {A : Option Addr} {xs : List α} (h : SArr sz val w B (.slice A n c) xs) (hN : N ≤ n) : SArr sz val w B (.slice A N c) (xs.take N) := by
  have hn := h.len
  have hl : (xs.take N).length = N := by rw [List.length_take]; omega
  rcases h with ⟨e, rfl⟩ | ⟨a, c', e, hc, hb, hcell⟩
  · injection e with e1 e2 e3
    subst e1 e2 e3
    obtain rfl : N = 0 := by omega
    exact .inl ⟨rfl, rfl⟩
  · injection e with e1 e2 e3
    subst e1 e2 e3
    refine .inr ⟨a, c, by rw [hl], by omega, fun h0 => hb (by omega), fun i u hu j x hx => hcell i u ?_ j x hx⟩
    rw [List.getElem?_take] at hu
    split at hu
    · exact hu
    · cases hu
theorem flat_len (hv : ∀ x, (val x).length = sz) : ∀ xs : List α, (xs.flatMap val).length = xs.length * sz
  | [] => by simp
  | x :: xs => by rw [List.flatMap_cons, List.length_append, hv, flat_len hv xs, List.length_cons, Nat.add_mul, Nat.one_mul, Nat.add_comm]
theorem flat_at (hv : ∀ x, (val x).length = sz) : ∀ (xs : List α) (i : Nat) (u : α) (j : Nat) (x : Value), xs[i]? = some u → (val u)[j]? = some x → (xs.flatMap val)[i * sz + j]? = some x
  | [], i, u, j, x, h, _ => by simp at h
  | y :: xs, 0, u, j, x, h, hx => by
    simp at h
    subst h
    rw [List.flatMap_cons, Nat.zero_mul, Nat.zero_add, List.getElem?_append_left (List.getElem?_eq_some_iff.1 hx).1]
    exact hx
  | y :: xs, i + 1, u, j, x, h, hx => by
    rw [List.getElem?_cons_succ] at h
    have hle : sz ≤ (i + 1) * sz + j := Nat.le_trans (Nat.le_mul_of_pos_left sz (Nat.succ_pos i)) (Nat.le_add_right _ _)
    rw [List.flatMap_cons, List.getElem?_append_right (by rw [hv]; exact hle), hv]
    have e : (i + 1) * sz + j - sz = i * sz + j := by rw [Nat.add_mul, Nat.one_mul]; omega
    rw [e]
    exact flat_at hv xs i u j x h hx
theorem SArr.of_own {w : World} {base e : Nat} {v : Value} {xs : List α} (hv : ∀ x, (val x).length = sz) (h : w.ownsRow base e sz v xs.length (xs.flatMap val)) : SArr sz val w w.heap.size v xs := by
  rcases h.2 with ⟨hv', h0⟩ | ⟨g, cap, cur, hvv, _, hg, hc, _, hsz, htake⟩
  · exact .inl ⟨hv', List.length_eq_zero_iff.1 h0⟩
  · refine .inr ⟨_, cap, hvv, hc, fun _ => (Array.getElem?_eq_some_iff.1 hg).1, fun i u hu j x hx => ?_⟩
    rw [plain_add, Go.cell_of_row w g _ cur e (0, 0) hg]
    have h2 := flat_at hv xs i u j x hu hx
    rw [← htake, List.getElem?_take] at h2
    split at h2
    · rw [← Array.getElem?_toList]; exact h2
    · cases h2
theorem SArr.of_box {w : World} {g n c : Nat} {t : TypeId} {cs : Array Value} {xs : List α} (hb : Box w g t cs) (hn : xs.length = n) (hc : n ≤ c) (h : ∀ (i : Nat) (u : α), xs[i]? = some u → ∀ j x, (val u)[j]? = some x → cs[i * sz + j]? = some x) : SArr sz val w (g + 1) (.slice (some ⟨g, 0, none⟩) n c) xs := by
  subst hn
  exact .inr ⟨⟨g, 0, none⟩, c, rfl, hc, fun _ => by simp, fun i u hu j x hx => by rw [plain_add, hb.cell]; exact h i u hu j x hx⟩

/-- append(s, y) of one struct: the new element stands in a block of its own, the last one made. -/
theorem append_struct {P : Program} (t e : TypeId) (z : Value) (bytes : Nat) (ht : P.underlying t = some (.slice e)) (info : (P.info? e).map (fun i => (i.zero, i.size, i.bytes)) = some (some z, sz, bytes))
    (hzs : z.cells.size = sz) (hs0 : 0 < sz) (hbytes : bytes ≤ 100) (hv : ∀ x, (val x).length = sz) (hval : ∀ x, ∀ u ∈ val x, u.oneCell' = true)
    {ops : Array Oper} {rest : List Oper} {o : Oper} {a : Act} {Q : Exit → Act → World → Prop} (w : World) (hgd : o.guard = none) (s x : Operand)
    (ho : o.op = .call { callee := .builtin .append, args := #[s, x], argTypes := #[t, t] })
    (base : Nat) (v : Value) (xs : List α) (hs : a.eval s = v) (hown : w.ownsRow base e sz v xs.length (xs.flatMap val)) (y : α) (u : Array Value) (hu : u = (val y).toArray) (N : Nat) (hN : w.heap.size = N)
    (hx : a.eval x = .slice (some ⟨N, 0, none⟩) 1 1) (hlen : xs.length ≤ 1000000000000 - 1) (hbase : base ≤ w.heap.size)
    (h : ∀ v' w', w'.ownsRow base e sz v' (xs ++ [y]).length ((xs ++ [y]).flatMap val) → Below base w w' → wpList P ops Q rest (a.put o.dst v') w') : wpList P ops Q (o :: rest) a (w.alloc (.cells u e)) := by
  obtain ⟨i0, hi, hz0, hz1, hz2⟩ := info_parts info
  subst hu hN
  have hown1 : (w.alloc (.cells (val y).toArray e)).ownsRow base e sz v xs.length (xs.flatMap val) := own_keep_below hown ((Below.refl _ _).alloc (Nat.le_refl _) _)
  have hcell : ∀ j u, (val y)[j]? = some u → (w.alloc (.cells (val y).toArray e)).cell? ((⟨w.heap.size, 0, none⟩ : Addr).add j) = some u := by
    intro j u hu
    rw [plain_add, (Box.made w e (val y).toArray).cell]
    simpa using hu
  have hb0 : Below base w (w.alloc (.cells (val y).toArray e)) := (Below.refl _ _).alloc hbase _
  refine wpList_append_own (w := w.alloc (.cells (val y).toArray e)) hgd s x t ho base e i0 z sz bytes ht hi hz0 hz1 hz2 hzs hs0 v xs.length (xs.flatMap val) hs hown1 ⟨w.heap.size, 0, none⟩ 1 1 (val y) hx (by rw [hv, Nat.one_mul]) hcell (hval y)
    (by unfold maxLen; omega) (by have := Nat.mul_le_mul (show xs.length + 1 ≤ 1000000000000 by omega) hbytes; omega) (by simp; omega) ?_
  intro v' w' h1 h2 _
  exact h v' w' (by rw [List.length_append, List.flatMap_append]; simpa using h1) (hb0.grown h2 (by simp; omega) fun k hk => (hown1.lt k hk).1)
/-- The same as a step of a region that draws its order. -/
theorem step_struct {P : Program} (t e : TypeId) (z : Value) (bytes : Nat) (ht : P.underlying t = some (.slice e)) (info : (P.info? e).map (fun i => (i.zero, i.size, i.bytes)) = some (some z, sz, bytes))
    (hzs : z.cells.size = sz) (hs0 : 0 < sz) (hbytes : bytes ≤ 100) (hv : ∀ x, (val x).length = sz) (hval : ∀ x, ∀ u ∈ val x, u.oneCell' = true)
    {ops : Array Oper} {o : Oper} {a : Act} {K : Act → World → Prop} {Q : Exit → Act → World → Prop} {E : Prop} (w : World) (hgd : o.guard = none) (s x : Operand)
    (ho : o.op = .call { callee := .builtin .append, args := #[s, x], argTypes := #[t, t] })
    (base : Nat) (v : Value) (xs : List α) (hs : a.eval s = v) (hown : w.ownsRow base e sz v xs.length (xs.flatMap val)) (y : α) (ad : Addr)
    (hx : a.eval x = .slice (some ad) 1 1) (hcell : ∀ j u, (val y)[j]? = some u → w.cell? (ad.add j) = some u) (hlen : xs.length ≤ 1000000000000 - 1) (hbase : base ≤ w.heap.size)
    (h : ∀ v' w', w'.ownsRow base e sz v' (xs ++ [y]).length ((xs ++ [y]).flatMap val) → Below base w w' → K (a.put o.dst v') w') :
    if Region.wanted o (yielded ops a.tmps) = true then Oper.wp P o a w K Q else E := by
  have hw : Region.wanted o (yielded ops a.tmps) = true := by simp [Region.wanted, hgd]
  rw [if_pos hw]
  obtain ⟨i0, hi, hz0, hz1, hz2⟩ := info_parts info
  refine wp_append_own w s x t ho base e i0 z sz bytes ht hi hz0 hz1 hz2 hzs hs0 v xs.length (xs.flatMap val) hs hown ad 1 1 (val y) hx (by rw [hv, Nat.one_mul]) hcell (hval y)
    (by unfold maxLen; omega) (by have := Nat.mul_le_mul (show xs.length + 1 ≤ 1000000000000 by omega) hbytes; omega) hbase ?_
  intro v' w' h1 h2 _
  exact h v' w' (by rw [List.length_append, List.flatMap_append]; simpa using h1) ((Below.refl _ _).grown h2 hbase fun k hk => (hown.lt k hk).1)
theorem cells_made {cs : List Value} (w : World) (e : TypeId) : ∀ (j : Nat) (u : Value), cs[j]? = some u → (w.alloc (.cells cs.toArray e)).cell? ((⟨w.heap.size, 0, none⟩ : Addr).add j) = some u := by
  intro j u hu
  rw [plain_add, (Box.made w e cs.toArray).cell]
  simpa using hu
end

end Go.Proofs.Ytlloofmmblhnjaa

namespace Go.Proofs.Ytlloofmmblhnjaa
open Go.RowKit

def ov (o : OpI) : List Value := [.int .i64 o.1, .int .i64 o.2]
theorem ov_len (o : OpI) : (ov o).length = 2 := rfl
theorem ov_one (o : OpI) : ∀ u ∈ ov o, u.oneCell' = true := by
  intro u hu
  unfold ov at hu
  simp only [List.mem_cons, List.not_mem_nil, or_false] at hu
  rcases hu with rfl | rfl <;> rfl
theorem info_op : (Try.prog.info? 61).map (fun i => (i.zero, i.size, i.bytes)) = some (some (.agg #[.int .i64 0, .int .i64 0]), 2, 16) := by kernel_rfl
theorem ops_cells {w : World} {B n c : Nat} {A : Option Addr} {xs : List OpI} (h : SArr 2 ov w B (.slice A n c) xs) (h0 : 0 < n) :
    ∃ b off, A = some ⟨b, off, none⟩ ∧ b < B ∧ ∀ i x, xs[i]? = some x → w.cell? ⟨b, off + i * 2, none⟩ = some (.int .i64 x.1) ∧ w.cell? ⟨b, off + i * 2 + 1, none⟩ = some (.int .i64 x.2) := by
  obtain ⟨b, off, e, hb, hc⟩ := h.some_ ov_len (by decide) h0
  exact ⟨b, off, e, hb, fun i x hx => ⟨hc i x hx 0 _ rfl, hc i x hx 1 _ rfl⟩⟩
theorem op_fields : Try.prog.underlying 61 = some (.struct (Try.prog.fieldsOf 61)) := by kernel_rfl
theorem op_held : Try.prog.stoodInHeld 61 = false := by kernel_rfl
theorem eq_op (a b p q : Int) (W : World) : (Op.equalIn 10000 61 (.agg #[.int .i64 a, .int .i64 p]) (.agg #[.int .i64 b, .int .i64 q])).run Try.prog W = .ok (decide ((a, p) = (b, q))) W := by
  have hf : (Try.prog.fieldsOf 61).toList.map (fun f => (f.name == "_", f.type, f.offset)) = [(false, 3, 0), (false, 3, 1)] := by kernel_rfl
  rw [show (10000 : Nat) = 9999 + 1 from rfl, run_equalIn_agg W 9999 _ _ _ op_fields op_held]
  obtain ⟨f, g, hL⟩ : ∃ f g, (Try.prog.fieldsOf 61).toList = [f, g] := by
    generalize (Try.prog.fieldsOf 61).toList = L at hf
    cases L with
    | nil => simp at hf
    | cons f L => cases L with
      | nil => simp at hf
      | cons g L => cases L with
        | nil => exact ⟨f, g, rfl⟩
        | cons h L => simp at hf
  rw [hL] at hf ⊢
  simp only [List.map_cons, List.map_nil, List.cons.injEq, Prod.mk.injEq, and_true] at hf
  obtain ⟨⟨f1, f2, f3⟩, g1, g2, g3⟩ := hf
  have f1' : f.name ≠ "_" := by simpa using f1
  have g1' : g.name ≠ "_" := by simpa using g1
  simp only [Op.eqFields, if_pos f1', if_pos g1', f2, f3, g2, g3]
  have p1 : ∀ (x y : Int), (part 3 #[.int .i64 x, .int .i64 y] 0).run Try.prog W = .ok (.int .i64 x) W := fun x y => by
    have hz := Try.isAgg3 W
    simp [part, hz]
  have p2 : ∀ (x y : Int), (part 3 #[.int .i64 x, .int .i64 y] 1).run Try.prog W = .ok (.int .i64 y) W := fun x y => by
    have hz := Try.isAgg3 W
    simp [part, hz]
  have e1 : ∀ x y : Int, (Op.equalIn 9999 3 (.int .i64 x) (.int .i64 y)).run Try.prog W = .ok (x == y) W := fun x y => by
    rw [show (9999 : Nat) = 9998 + 1 from rfl, run_equalIn_int W 9998 _ _ _ _ _ Try.underlying3]
  simp only [Sem.run_bind, p1, p2, e1, Result.andThen_ok, Sem.run_ite, Sem.run_pure]
  by_cases h1 : a = b
  · rw [eqE h1]
    simp only [Bool.not_true, Bool.false_eq_true, if_false]
    by_cases h2 : p = q
    · subst h1 h2
      simp
    · rw [neE h2, decide_eq_false (fun e => h2 (congrArg Prod.snd e))]
      simp
  · rw [neE h1, decide_eq_false (fun e => h1 (congrArg Prod.fst e))]
    simp
theorem neq_op (a b p q : Int) (W : World) : (binOp .neq 61 (.agg #[.int .i64 a, .int .i64 p]) (.agg #[.int .i64 b, .int .i64 q])).run Try.prog W = .ok (.bool (!decide ((a, p) = (b, q)))) W := by
  rw [run_neq_struct, eq_op]
  rfl

set_option maxRecDepth 20000 in
set_option maxHeartbeats 3200000 in
theorem refText11_any (a b : List UInt8) (w : World) (ha : a.length ≤ 100000) (hb : b.length ≤ 100000) :
    Calls Try.prog 21 #[.string (str a), .string (str b)] w fun e w' => e = .returned (.int .i64 (edD (charsE a) (charsE b) : Int)) ∧ Below w.heap.size w w' := by
  have H1 := Lib.hid (fun W => refChars11_any a W (by omega))
  have H2 := Lib.hid (fun W => refChars11_any b W (by omega))
  have l1 := chars_len a
  have l2 := chars_len b
  obtain ⟨x, hx⟩ : ∃ x, charsE a = x := ⟨_, rfl⟩
  obtain ⟨y, hy⟩ : ∃ x, charsE b = x := ⟨_, rfl⟩
  rw [hx] at H1 l1 ⊢
  rw [hy] at H2 l2 ⊢
  clear hx hy
  go_enter Try.func21, Try.ntmps21
  go_wp2_with fail
  refine (H1.out _).mono ?_
  rintro e w1 ⟨A1, n1, c1, rfl, hA1, k1⟩
  have HA1 := Lib.hid hA1
  clear hA1
  go_wp2_with fail
  refine (H2.out _).mono ?_
  rintro e w2 ⟨A2, n2, c2, rfl, hA2, k2⟩
  have HD := Lib.hid (refDistance11_any A1 A2 n1 c1 n2 c2 x y w2 (HA1.out.up k2) hA2 (by have := HA1.out.len; omega) (by have := hA2.len; omega))
  clear hA2
  go_wp2_with fail
  refine HD.out.mono ?_
  rintro e w3 ⟨rfl, k3⟩
  go_wp2
  go_ret
  exact ⟨rfl, below_next (below_next k1 k2) k3⟩

theorem cost_snoc {l : List OpI} {k : Nat} {o : OpI} (h : l[k]? = some o) : costE (l.take (k + 1)) = costE (l.take k) + (if o.1 = 1 then 0 else 1) := by
  rw [take_next h]
  unfold costE
  rw [List.filter_append, List.length_append]
  by_cases h1 : o.1 = 1 <;> simp [h1]
theorem cost_le (l : List OpI) : costE l ≤ l.length := List.length_filter_le _ _

set_option maxRecDepth 20000 in
set_option maxHeartbeats 3200000 in
theorem refCost11_any (A : Option Addr) (n c : Nat) (l : List OpI) (w : World) (h : SArr 2 ov w w.heap.size (.slice A n c) l) (hn : n ≤ 1000000000) :
    Calls Try.prog 32 #[.slice A n c] w fun e w' => e = .returned (.int .i64 (costE l : Int)) ∧ Below w.heap.size w w' := by
  have HL := Lib.hid h.len
  have HA := Lib.hid h
  clear h
  go_enter Try.func32, Try.ntmps32
  go_wp2
  go_loopw [3, 4] (fun s i wr => ∃ k t : Nat, k ≤ n ∧ i = .int .i64 (k : Int) ∧ s = .int .i64 (t : Int) ∧ Hid (costE (l.take k) = t) ∧ t ≤ k ∧ Below w.heap.size w wr) (fun _ i _ => n - (intOf i).toNat)
  case atStart => exact ⟨0, 0, by omega, rfl, rfl, Lib.hid rfl, Nat.le_refl _, Below.refl _ _⟩
  case round =>
    obtain ⟨k, t, hk, rfl, rfl, HT, htk, hb⟩ := hrel
    by_cases hlt : k < n
    · have t1 : decide ((k : Int) < (n : Int)) = true := decide_eq_true (by omega)
      have kz : (k : Int) < (n : Int) := by omega
      obtain ⟨o, ho⟩ : ∃ o, l[k]? = some o := ⟨_, List.getElem?_eq_getElem (by have := HL.out; omega)⟩
      obtain ⟨b0, o0, rfl, hB0, hc0⟩ := ops_cells HA.out (by omega)
      have d0 : wr.cell? ⟨b0, o0 + k * 2, none⟩ = some (.int .i64 o.1) := (hb.cell (p := ⟨b0, o0 + k * 2, none⟩) hB0).trans (hc0 k o ho).1
      have hcs := cost_snoc ho
      rw [HT.out] at hcs
      clear hc0 ho
      by_cases h1 : o.1 = 1
      · have t2 : (o.1 != 1) = false := by simp [h1]
        rw [if_pos h1] at hcs
        have HT2 := Lib.hid hcs
        clear hcs h1
        go_wp2
        go_roundw
        case rel => exact ⟨k + 1, t, by omega, by go_num, rfl, HT2, by omega, hb⟩
        case measure => first | (simp [intOf]; done) | (simp [intOf]; omega)
      · have t2 : (o.1 != 1) = true := by simp [h1]
        rw [if_neg h1] at hcs
        have HT2 := Lib.hid hcs
        clear hcs h1
        go_wp2
        go_roundw
        case rel => exact ⟨k + 1, t + 1, by omega, by go_num, by go_num, HT2, by omega, hb⟩
        case measure => first | (simp [intOf]; done) | (simp [intOf]; omega)
    · have t1 : decide ((k : Int) < (n : Int)) = false := decide_eq_false (by omega)
      have hfull : l.take k = l := List.take_of_length_le (by have := HL.out; omega)
      have HE : Hid (costE l = t) := Lib.hid (by rw [← HT.out, hfull])
      clear hfull
      go_wp2
      go_ret
      rw [HE.out]
      exact ⟨rfl, hb⟩

set_option maxRecDepth 20000 in
set_option maxHeartbeats 3200000 in
theorem refSameOps11_any (A A' : Option Addr) (n c n' c' : Nat) (l l' : List OpI) (w : World) (h : SArr 2 ov w w.heap.size (.slice A n c) l) (h' : SArr 2 ov w w.heap.size (.slice A' n' c') l') (hn : n ≤ 10000000) (hn' : n' ≤ 10000000) :
    Calls Try.prog 22 #[.slice A n c, .slice A' n' c'] w fun e w' => e = .returned (.bool (decide (l = l'))) ∧ Below w.heap.size w w' := by
  have HL := Lib.hid h.len
  have HL' := Lib.hid h'.len
  have HA := Lib.hid h
  have HA' := Lib.hid h'
  clear h h'
  by_cases hnn : n = n'
  · subst hnn
    have t0 : ((n : Int) != (n : Int)) = false := by simp
    go_enter Try.func22, Try.ntmps22
    go_wp2
    go_loopw [5] (fun i wr => ∃ k : Nat, k ≤ n ∧ i = .int .i64 (k : Int) ∧ Hid (l.take k = l'.take k) ∧ Below w.heap.size w wr) (fun i _ => n - (intOf i).toNat)
    case atStart => exact ⟨0, by omega, rfl, Lib.hid rfl, Below.refl _ _⟩
    case round =>
      obtain ⟨k, hk, rfl, HT, hb⟩ := hrel
      by_cases hlt : k < n
      · have t1 : decide ((k : Int) < (n : Int)) = true := decide_eq_true (by omega)
        have kz : (k : Int) < (n : Int) := by omega
        obtain ⟨x, hx⟩ : ∃ o, l[k]? = some o := ⟨_, List.getElem?_eq_getElem (by have := HL.out; omega)⟩
        obtain ⟨y, hy⟩ : ∃ o, l'[k]? = some o := ⟨_, List.getElem?_eq_getElem (by have := HL'.out; omega)⟩
        obtain ⟨b0, o0, rfl, hB0, hc0⟩ := ops_cells HA.out (by omega)
        obtain ⟨b1, o1, rfl, hB1, hc1⟩ := ops_cells HA'.out (by omega)
        have d0 : wr.cell? ⟨b0, o0 + k * 2, none⟩ = some (.int .i64 x.1) := (hb.cell (p := ⟨b0, o0 + k * 2, none⟩) hB0).trans (hc0 k x hx).1
        have d1 : wr.cell? ⟨b0, o0 + k * 2 + 1, none⟩ = some (.int .i64 x.2) := (hb.cell (p := ⟨b0, o0 + k * 2 + 1, none⟩) hB0).trans (hc0 k x hx).2
        have d2 : wr.cell? ⟨b1, o1 + k * 2, none⟩ = some (.int .i64 y.1) := (hb.cell (p := ⟨b1, o1 + k * 2, none⟩) hB1).trans (hc1 k y hy).1
        have d3 : wr.cell? ⟨b1, o1 + k * 2 + 1, none⟩ = some (.int .i64 y.2) := (hb.cell (p := ⟨b1, o1 + k * 2 + 1, none⟩) hB1).trans (hc1 k y hy).2
        have hq : ∀ W, (binOp .neq 61 (.agg #[.int .i64 x.1, .int .i64 x.2]) (.agg #[.int .i64 y.1, .int .i64 y.2])).run Try.prog W = .ok (.bool (!decide ((x.1, x.2) = (y.1, y.2)))) W := fun W => neq_op x.1 y.1 x.2 y.2 W
        by_cases hxy : x = y
        · have HT2 : Hid (l.take (k + 1) = l'.take (k + 1)) := Lib.hid (by rw [take_next hx, take_next hy, HT.out, hxy])
          have hd : decide ((x.1, x.2) = (y.1, y.2)) = true := decide_eq_true (by rw [hxy])
          simp only [hd, Bool.not_true] at hq
          clear hc0 hc1 hx hy hxy hd
          go_wp2
          go_region
          all_goals
            go_wp2
            go_roundw
            case rel => exact ⟨k + 1, by omega, by go_num, HT2, by first | exact hb | exact hb.drew | exact below_drewN hb _⟩
            case measure => first | (simp [intOf]; done) | (simp [intOf]; omega)
        · have HF : Hid (decide (l = l') = false) := Lib.hid (by
            rw [decide_eq_false]
            rintro rfl
            rw [hx] at hy
            injection hy with hy
            exact hxy hy)
          have hd : decide ((x.1, x.2) = (y.1, y.2)) = false := decide_eq_false (fun e => hxy e)
          simp only [hd, Bool.not_false] at hq
          clear hc0 hc1 hx hy hxy hd
          go_wp2
          go_region
          all_goals
            go_wp2
            go_ret
            rw [HF.out]
            exact ⟨rfl, by first | exact hb | exact hb.drew | exact below_drewN hb _⟩
      · have t1 : decide ((k : Int) < (n : Int)) = false := decide_eq_false (by omega)
        have HF : Hid (decide (l = l') = true) := Lib.hid (by
          have e := HT.out
          rw [List.take_of_length_le (by have := HL.out; omega), List.take_of_length_le (by have := HL'.out; omega)] at e
          exact decide_eq_true e)
        go_wp2
        go_ret
        rw [HF.out]
        exact ⟨rfl, hb⟩
  · have t0 : ((n : Int) != (n' : Int)) = true := by simp; omega
    have HF : Hid (decide (l = l') = false) := Lib.hid (decide_eq_false (fun e => hnn (by rw [← HL.out, ← HL'.out, e])))
    go_enter Try.func22, Try.ntmps22
    go_wp2
    go_ret
    rw [HF.out]
    exact ⟨rfl, Below.refl _ _⟩

end Go.Proofs.Ytlloofmmblhnjaa

namespace Go.Proofs.Ytlloofmmblhnjaa
open Go.RowKit

set_option maxRecDepth 20000 in
set_option maxHeartbeats 3200000 in
theorem refInside11_any (A A' : Option Addr) (m c' n c : Nat) (l a : List Int) (w : World) (h' : Arr iv w w.heap.size (.slice A' m c') l) (h : Arr iv w w.heap.size (.slice A n c) a) (hm : m ≤ 1000000000) (hn : n ≤ 1000000000) :
    Calls Try.prog 33 #[.slice A' m c', .slice A n c] w fun e w' => e = .returned (.bool (insideE l a)) ∧ Below w.heap.size w w' := by
  have HL := Lib.hid h.len
  have HM := Lib.hid h'.len
  have HA := Lib.hid h
  have HB := Lib.hid h'
  clear h h'
  go_enter Try.func33, Try.ntmps33
  go_wp2
  go_loopw [5, 6] (fun s i wr => ∃ k t : Nat, k ≤ n ∧ t ≤ m ∧ i = .int .i64 (k : Int) ∧ s = .int .i64 (t : Int) ∧ Hid (insideE l a = insideE (l.drop t) (a.drop k)) ∧ Below w.heap.size w wr) (fun _ i _ => n - (intOf i).toNat)
  case atStart => exact ⟨0, 0, by omega, by omega, rfl, rfl, Lib.hid rfl, Below.refl _ _⟩
  case round =>
    obtain ⟨k, t, hk, ht, rfl, rfl, HT, hb⟩ := hrel
    by_cases hlt : k < n
    · have t1 : decide ((k : Int) < (n : Int)) = true := decide_eq_true (by omega)
      have t1n : decide (k < n) = true := decide_eq_true hlt
      have kz : (k : Int) < (n : Int) := by omega
      by_cases htm : t < m
      · have t2 : decide ((t : Int) < (m : Int)) = true := decide_eq_true (by omega)
        have t2n : decide (t < m) = true := decide_eq_true htm
        have tz : (t : Int) < (m : Int) := by omega
        obtain ⟨x, hx⟩ : ∃ o, a[k]? = some o := ⟨_, List.getElem?_eq_getElem (by have := HL.out; omega)⟩
        obtain ⟨z, hz⟩ : ∃ o, l[t]? = some o := ⟨_, List.getElem?_eq_getElem (by have := HM.out; omega)⟩
        obtain ⟨b0, o0, rfl, hB0, hc0⟩ := HA.out.some_ (by omega)
        obtain ⟨b1, o1, rfl, hB1, hc1⟩ := HB.out.some_ (by omega)
        have d0 : wr.cell? ⟨b0, o0 + k, none⟩ = some (.int .i64 x) := (hb.cell (p := ⟨b0, o0 + k, none⟩) hB0).trans (hc0 k x hx)
        have d1 : wr.cell? ⟨b1, o1 + t, none⟩ = some (.int .i64 z) := (hb.cell (p := ⟨b1, o1 + t, none⟩) hB1).trans (hc1 t z hz)
        have hst := HT.out
        rw [drop_at hx, drop_at hz, insideE] at hst
        by_cases hxz : x = z
        · have t3 : (x == z) = true := eqE hxz
          rw [if_pos hxz] at hst
          have HT2 := Lib.hid hst
          clear hst hc0 hc1 hx hz hxz
          go_wp2_with fail
          go_region
          all_goals
            go_wp2_with fail
            go_roundw
            case rel => exact ⟨k + 1, t + 1, by omega, by omega, by go_num, by go_num, HT2, by first | exact hb | exact hb.drew⟩
            case measure => first | (simp [intOf]; done) | (simp [intOf]; omega)
        · have t3 : (x == z) = false := neE hxz
          rw [if_neg hxz, ← drop_at hz] at hst
          have HT2 := Lib.hid hst
          clear hst hc0 hc1 hx hz hxz
          go_wp2_with fail
          go_region
          all_goals
            go_wp2_with fail
            go_roundw
            case rel => exact ⟨k + 1, t, by omega, by omega, by go_num, rfl, HT2, by first | exact hb | exact hb.drew⟩
            case measure => first | (simp [intOf]; done) | (simp [intOf]; omega)
      · have t2 : decide ((t : Int) < (m : Int)) = false := decide_eq_false (by omega)
        have t2n : decide (t < m) = false := decide_eq_false htm
        have q1 : ((t : Int) == (m : Int)) = true := eqE (by omega)
        have HE : Hid (insideE l a = true) := Lib.hid (by rw [HT.out, List.drop_eq_nil_of_le (by have := HM.out; omega), insideE])
        go_wp2_with fail
        go_ret
        rw [HE.out]
        exact ⟨rfl, hb⟩
    · have t1 : decide ((k : Int) < (n : Int)) = false := decide_eq_false (by omega)
      have t1n : decide (k < n) = false := decide_eq_false hlt
      by_cases htm : t < m
      · have q1 : ((t : Int) == (m : Int)) = false := neE (by omega)
        obtain ⟨z, hz⟩ : ∃ o, l[t]? = some o := ⟨_, List.getElem?_eq_getElem (by have := HM.out; omega)⟩
        have HE : Hid (insideE l a = false) := Lib.hid (by rw [HT.out, drop_at hz, show a.drop k = [] from List.drop_eq_nil_of_le (by have := HL.out; omega), insideE])
        clear hz
        go_wp2_with fail
        go_ret
        rw [HE.out]
        exact ⟨rfl, hb⟩
      · have q1 : ((t : Int) == (m : Int)) = true := eqE (by omega)
        have HE : Hid (insideE l a = true) := Lib.hid (by rw [HT.out, List.drop_eq_nil_of_le (by have := HM.out; omega), insideE])
        go_wp2_with fail
        go_ret
        rw [HE.out]
        exact ⟨rfl, hb⟩

end Go.Proofs.Ytlloofmmblhnjaa
