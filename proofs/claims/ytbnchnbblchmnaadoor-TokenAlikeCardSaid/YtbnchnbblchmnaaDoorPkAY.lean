/-
  Words for slices of structs, over any program and any numbering: such a slice as a list, rows of the call's own, append.
  The reference's Words, Zone, Same.
  The reference's SameTexts, Zone.
-/
import Derived.Test.YtbnchnbblchmnaaDoorWords
import Derived.Test.YtbnchnbblchmnaaDoorPkAN
import Derived.Laws.StructEq
import Derived.Test.YtbnchnbblchmnaaDoorPkAH
import Derived.Maps.AppendAt
namespace Go.Proofs.YtbnchnbblchmnaaDoor
open Go.RowKit

/-- In w, the slice v reads as the list xs: each element takes sz cells that hold its values. -/
def SArr {α : Type} (sz : Nat) (val : α → List Value) (w : World) (B : Nat) (v : Value) (xs : List α) : Prop :=
  (v = .slice none 0 0 ∧ xs = []) ∨ ∃ (a : Addr) (c : Nat), v = .slice (some a) xs.length c ∧ xs.length ≤ c ∧ (0 < xs.length → a.block < B) ∧ ∀ i u, xs[i]? = some u → ∀ j x, (val u)[j]? = some x → w.cell? (a.add (i * sz + j)) = some x

section
variable {α : Type} {sz : Nat} {val : α → List Value}
theorem SArr.nil_ (w : World) (B : Nat) : SArr sz val w B (.slice none 0 0) [] := .inl ⟨rfl, rfl⟩
theorem SArr.keep {w w' : World} {B : Nat} {v : Value} {xs : List α} (h : SArr sz val w B v xs) (hk : ∀ p : Addr, p.block < B → w'.cell? p = w.cell? p) : SArr sz val w' B v xs := by
  rcases h with h | ⟨a, c, e, hl, hb, hc⟩
  · exact .inl h
  · exact .inr ⟨a, c, e, hl, hb, fun i u hu j x hx => (hk _ (by rw [add_block]; exact hb (by have := (List.getElem?_eq_some_iff.1 hu).1; omega))).trans (hc i u hu j x hx)⟩
theorem SArr.below {w w' : World} {B : Nat} {v : Value} {xs : List α} (h : SArr sz val w B v xs) (hb : Below B w w') : SArr sz val w' B v xs := h.keep fun _ hp => hb.cell hp
theorem SArr.more {w : World} {B B' : Nat} {v : Value} {xs : List α} (h : SArr sz val w B v xs) (hB : B ≤ B') : SArr sz val w B' v xs := by
  rcases h with h | ⟨a, c, e, hl, hb, hc⟩
  · exact .inl h
  · exact .inr ⟨a, c, e, hl, fun h => by have := hb h; omega, hc⟩
theorem SArr.at_ {W w : World} {v : Value} {xs : List α} (h : SArr sz val W W.heap.size v xs) (hb : Below W.heap.size W w) : SArr sz val w W.heap.size v xs := h.below hb
theorem SArr.up {W w : World} {v : Value} {xs : List α} (h : SArr sz val W W.heap.size v xs) (hb : Below W.heap.size W w) : SArr sz val w w.heap.size v xs := (h.below hb).more hb.size
theorem SArr.form {w : World} {B : Nat} {v : Value} {xs : List α} (h : SArr sz val w B v xs) : ∃ A c, v = .slice A xs.length c := by
  rcases h with ⟨e, rfl⟩ | ⟨a, c, e, _⟩
  · exact ⟨_, _, e⟩
  · exact ⟨_, _, e⟩
theorem SArr.len {w : World} {B n c : Nat} {A : Option Addr} {xs : List α} (h : SArr sz val w B (.slice A n c) xs) : xs.length = n := by
  rcases h with ⟨e, rfl⟩ | ⟨a, c', e, _⟩
  · injection e with _ e2 _; exact e2.symm
  · injection e with _ e2 _; exact e2.symm
theorem SArr.cap {w : World} {B n c : Nat} {A : Option Addr} {xs : List α} (h : SArr sz val w B (.slice A n c) xs) : n ≤ c := by
  have hl := h.len
  rcases h with ⟨e, rfl⟩ | ⟨a, c', e, hc, _⟩
  · simp at hl; omega
  · injection e with _ _ e3; omega
/-- A slice with elements: its address written out. -/
theorem SArr.some_ {w : World} {B n c : Nat} {A : Option Addr} {xs : List α} (h : SArr sz val w B (.slice A n c) xs) (hv : ∀ x, (val x).length = sz) (hs : 0 < sz) (h0 : 0 < n) :
    ∃ b off, A = some ⟨b, off, none⟩ ∧ b < B ∧ ∀ i u, xs[i]? = some u → ∀ j x, (val u)[j]? = some x → w.cell? ⟨b, off + i * sz + j, none⟩ = some x := by
  have hl := h.len
  rcases h with ⟨e, _⟩ | ⟨a, c', e, _, hb, hc⟩
  · injection e with _ e2 _; omega
  · injection e with e1 e2 e3
    have hu := List.getElem?_eq_getElem (show 0 < xs.length by omega)
    have hx := List.getElem?_eq_getElem (l := val xs[0]) (i := 0) (by rw [hv]; exact hs)
    have hcell := hc 0 _ hu 0 _ hx
    obtain ⟨b, off, spot⟩ := a
    have hspot : spot = none := by simpa [Addr.add] using World.cell?_spot hcell
    subst hspot
    refine ⟨b, off, e1, hb (by omega), fun i u hu j x hx => ?_⟩
    have := hc i u hu j x hx
    rw [add_plain, ← Nat.add_assoc] at this
    exact this
theorem SArr.head {w : World} {B N n c : Nat} {A : Option Addr} {xs : List α} (h : SArr sz val w B (.slice A n c) xs) (hN : N ≤ n) : SArr sz val w B (.slice A N c) (xs.take N) := by
  have hn := h.len
  have hl : (xs.take N).length = N := by rw [List.length_take]; omega
  rcases h with ⟨e, rfl⟩ | ⟨a, c', e, hc, hb, hcell⟩
  · injection e with e1 e2 e3
    subst e1 e2 e3
    obtain rfl : N = 0 := by omega
    exact .inl ⟨rfl, rfl⟩
  · injection e with e1 e2 e3
    subst e1 e2 e3
    refine .inr ⟨a, c, by rw [hl], by omega, fun h0 => hb (by omega), fun i u hu j x hx => hcell i u ?_ j x hx⟩
    rw [List.getElem?_take] at hu
    split at hu
    · exact hu
    · cases hu
theorem flat_len (hv : ∀ x, (val x).length = sz) : ∀ xs : List α, (xs.flatMap val).length = xs.length * sz
  | [] => by simp
  | x :: xs => by rw [List.flatMap_cons, List.length_append, hv, flat_len hv xs, List.length_cons, Nat.add_mul, Nat.one_mul, Nat.add_comm]
theorem flat_at (hv : ∀ x, (val x).length = sz) : ∀ (xs : List α) (i : Nat) (u : α) (j : Nat) (x : Value), xs[i]? = some u → (val u)[j]? = some x → (xs.flatMap val)[i * sz + j]? = some x
  | [], i, u, j, x, h, _ => by simp at h
  | y :: xs, 0, u, j, x, h, hx => by
    simp at h
    subst h
    rw [List.flatMap_cons, Nat.zero_mul, Nat.zero_add, List.getElem?_append_left (List.getElem?_eq_some_iff.1 hx).1]
    exact hx
  | y :: xs, i + 1, u, j, x, h, hx => by
    rw [List.getElem?_cons_succ] at h
    have hle : sz ≤ (i + 1) * sz + j := Nat.le_trans (Nat.le_mul_of_pos_left sz (Nat.succ_pos i)) (Nat.le_add_right _ _)
    rw [List.flatMap_cons, List.getElem?_append_right (by rw [hv]; exact hle), hv]
    have e : (i + 1) * sz + j - sz = i * sz + j := by rw [Nat.add_mul, Nat.one_mul]; omega
    rw [e]
    exact flat_at hv xs i u j x h hx
theorem SArr.of_own {w : World} {base e : Nat} {v : Value} {xs : List α} (hv : ∀ x, (val x).length = sz) (h : w.ownsRow base e sz v xs.length (xs.flatMap val)) : SArr sz val w w.heap.size v xs := by
  rcases h.2 with ⟨hv', h0⟩ | ⟨g, cap, cur, hvv, _, hg, hc, _, hsz, htake⟩
  · exact .inl ⟨hv', List.length_eq_zero_iff.1 h0⟩
  · refine .inr ⟨_, cap, hvv, hc, fun _ => (Array.getElem?_eq_some_iff.1 hg).1, fun i u hu j x hx => ?_⟩
    rw [plain_add, Go.cell_of_row w g _ cur e (0, 0) hg]
    have h2 := flat_at hv xs i u j x hu hx
    rw [← htake, List.getElem?_take] at h2
    split at h2
    · rw [← Array.getElem?_toList]; exact h2
    · cases h2
theorem SArr.of_box {w : World} {g n c : Nat} {t : TypeId} {cs : Array Value} {xs : List α} (hb : Box w g t cs) (hn : xs.length = n) (hc : n ≤ c) (h : ∀ (i : Nat) (u : α), xs[i]? = some u → ∀ j x, (val u)[j]? = some x → cs[i * sz + j]? = some x) : SArr sz val w (g + 1) (.slice (some ⟨g, 0, none⟩) n c) xs := by
  subst hn
  exact .inr ⟨⟨g, 0, none⟩, c, rfl, hc, fun _ => by simp, fun i u hu j x hx => by rw [plain_add, hb.cell]; exact h i u hu j x hx⟩

/-- append(s, y) of one struct: the new element stands in a block of its own, the last one made. -/
theorem append_struct {P : Program} (t e : TypeId) (z : Value) (bytes : Nat) (ht : P.underlying t = some (.slice e)) (info : (P.info? e).map (fun i => (i.zero, i.size, i.bytes)) = some (some z, sz, bytes))
    (hzs : z.cells.size = sz) (hs0 : 0 < sz) (hbytes : bytes ≤ 100) (hv : ∀ x, (val x).length = sz) (hval : ∀ x, ∀ u ∈ val x, u.oneCell' = true)
    {ops : Array Oper} {rest : List Oper} {o : Oper} {a : Act} {Q : Exit → Act → World → Prop} (w : World) (hgd : o.guard = none) (s x : Operand)
    (ho : o.op = .call { callee := .builtin .append, args := #[s, x], argTypes := #[t, t] })
    (base : Nat) (v : Value) (xs : List α) (hs : a.eval s = v) (hown : w.ownsRow base e sz v xs.length (xs.flatMap val)) (y : α) (u : Array Value) (hu : u = (val y).toArray) (N : Nat) (hN : w.heap.size = N)
    (hx : a.eval x = .slice (some ⟨N, 0, none⟩) 1 1) (hlen : xs.length ≤ 1000000000000 - 1) (hbase : base ≤ w.heap.size)
    (h : ∀ v' w', w'.ownsRow base e sz v' (xs ++ [y]).length ((xs ++ [y]).flatMap val) → Below base w w' → wpList P ops Q rest (a.put o.dst v') w') : wpList P ops Q (o :: rest) a (w.alloc (.cells u e)) := by
  obtain ⟨i0, hi, hz0, hz1, hz2⟩ := info_parts info
  subst hu hN
  have hown1 : (w.alloc (.cells (val y).toArray e)).ownsRow base e sz v xs.length (xs.flatMap val) := own_keep_below hown ((Below.refl _ _).alloc (Nat.le_refl _) _)
  have hcell : ∀ j u, (val y)[j]? = some u → (w.alloc (.cells (val y).toArray e)).cell? ((⟨w.heap.size, 0, none⟩ : Addr).add j) = some u := by
    intro j u hu
    rw [plain_add, (Box.made w e (val y).toArray).cell]
    simpa using hu
  have hb0 : Below base w (w.alloc (.cells (val y).toArray e)) := (Below.refl _ _).alloc hbase _
  refine wpList_append_own (w := w.alloc (.cells (val y).toArray e)) hgd s x t ho base e i0 z sz bytes ht hi hz0 hz1 hz2 hzs hs0 v xs.length (xs.flatMap val) hs hown1 ⟨w.heap.size, 0, none⟩ 1 1 (val y) hx (by rw [hv, Nat.one_mul]) hcell (hval y)
    (by unfold maxLen; omega) (by have := Nat.mul_le_mul (show xs.length + 1 ≤ 1000000000000 by omega) hbytes; omega) (by simp; omega) ?_
  intro v' w' h1 h2 _
  exact h v' w' (by rw [List.length_append, List.flatMap_append]; simpa using h1) (hb0.grown h2 (by simp; omega) fun k hk => (hown1.lt k hk).1)
/-- The same as a step of a region that draws its order. -/
theorem step_struct {P : Program} (t e : TypeId) (z : Value) (bytes : Nat) (ht : P.underlying t = some (.slice e)) (info : (P.info? e).map (fun i => (i.zero, i.size, i.bytes)) = some (some z, sz, bytes))
    (hzs : z.cells.size = sz) (hs0 : 0 < sz) (hbytes : bytes ≤ 100) (hv : ∀ x, (val x).length = sz) (hval : ∀ x, ∀ u ∈ val x, u.oneCell' = true)
    {ops : Array Oper} {o : Oper} {a : Act} {K : Act → World → Prop} {Q : Exit → Act → World → Prop} {E : Prop} (w : World) (hgd : o.guard = none) (s x : Operand)
    (ho : o.op = .call { callee := .builtin .append, args := #[s, x], argTypes := #[t, t] })
    (base : Nat) (v : Value) (xs : List α) (hs : a.eval s = v) (hown : w.ownsRow base e sz v xs.length (xs.flatMap val)) (y : α) (ad : Addr)
    (hx : a.eval x = .slice (some ad) 1 1) (hcell : ∀ j u, (val y)[j]? = some u → w.cell? (ad.add j) = some u) (hlen : xs.length ≤ 1000000000000 - 1) (hbase : base ≤ w.heap.size)
    (h : ∀ v' w', w'.ownsRow base e sz v' (xs ++ [y]).length ((xs ++ [y]).flatMap val) → Below base w w' → K (a.put o.dst v') w') :
    if Region.wanted o (yielded ops a.tmps) = true then Oper.wp P o a w K Q else E := by
  have hw : Region.wanted o (yielded ops a.tmps) = true := by simp [Region.wanted, hgd]
  rw [if_pos hw]
  obtain ⟨i0, hi, hz0, hz1, hz2⟩ := info_parts info
  refine wp_append_own w s x t ho base e i0 z sz bytes ht hi hz0 hz1 hz2 hzs hs0 v xs.length (xs.flatMap val) hs hown ad 1 1 (val y) hx (by rw [hv, Nat.one_mul]) hcell (hval y)
    (by unfold maxLen; omega) (by have := Nat.mul_le_mul (show xs.length + 1 ≤ 1000000000000 by omega) hbytes; omega) hbase ?_
  intro v' w' h1 h2 _
  exact h v' w' (by rw [List.length_append, List.flatMap_append]; simpa using h1) ((Below.refl _ _).grown h2 hbase fun k hk => (hown.lt k hk).1)
theorem cells_made {cs : List Value} (w : World) (e : TypeId) : ∀ (j : Nat) (u : Value), cs[j]? = some u → (w.alloc (.cells cs.toArray e)).cell? ((⟨w.heap.size, 0, none⟩ : Addr).add j) = some u := by
  intro j u hu
  rw [plain_add, (Box.made w e cs.toArray).cell]
  simpa using hu
end

end Go.Proofs.YtbnchnbblchmnaaDoor

namespace Go.Proofs.YtbnchnbblchmnaaDoor
open Go.RowKit

/-- A word as the model holds it. -/
def wv (x : WordI) : List Value := [.string (str x.1), .int .i64 x.2]
theorem wv_len (x : WordI) : (wv x).length = 2 := rfl
theorem wv_one (x : WordI) : ∀ u ∈ wv x, u.oneCell' = true := by
  intro u hu
  unfold wv at hu
  simp only [List.mem_cons, List.not_mem_nil, or_false] at hu
  rcases hu with rfl | rfl <;> rfl
theorem info_word : (Tryd.prog.info? 46).map (fun i => (i.zero, i.size, i.bytes)) = some (some (.agg #[.string ⟨#[]⟩, .int .i64 0]), 2, 24) := by kernel_rfl
/-- The cells of a slice of words. -/
theorem words_cells {w : World} {B n c : Nat} {A : Option Addr} {xs : List WordI} (h : SArr 2 wv w B (.slice A n c) xs) (h0 : 0 < n) :
    ∃ b off, A = some ⟨b, off, none⟩ ∧ b < B ∧ ∀ i x, xs[i]? = some x → w.cell? ⟨b, off + i * 2, none⟩ = some (.string (str x.1)) ∧ w.cell? ⟨b, off + i * 2 + 1, none⟩ = some (.int .i64 x.2) := by
  obtain ⟨b, off, e, hb, hc⟩ := h.some_ wv_len (by decide) h0
  exact ⟨b, off, e, hb, fun i x hx => ⟨hc i x hx 0 _ rfl, hc i x hx 1 _ rfl⟩⟩

theorem word_fields : Tryd.prog.underlying 46 = some (.struct (Tryd.prog.fieldsOf 46)) := by kernel_rfl
theorem word_held : Tryd.prog.stoodInHeld 46 = false := by kernel_rfl
theorem eq_word (a b : List UInt8) (p q : Int) (W : World) : (Op.equalIn 10000 46 (.agg #[.string (str a), .int .i64 p]) (.agg #[.string (str b), .int .i64 q])).run Tryd.prog W = .ok (decide ((a, p) = (b, q))) W := by
  have hf : (Tryd.prog.fieldsOf 46).toList.map (fun f => (f.name == "_", f.type, f.offset)) = [(false, 9, 0), (false, 3, 1)] := by kernel_rfl
  rw [show (10000 : Nat) = 9999 + 1 from rfl, run_equalIn_agg W 9999 _ _ _ word_fields word_held]
  obtain ⟨f, g, hL⟩ : ∃ f g, (Tryd.prog.fieldsOf 46).toList = [f, g] := by
    generalize (Tryd.prog.fieldsOf 46).toList = L at hf
    cases L with
    | nil => simp at hf
    | cons f L => cases L with
      | nil => simp at hf
      | cons g L => cases L with
        | nil => exact ⟨f, g, rfl⟩
        | cons h L => simp at hf
  rw [hL] at hf ⊢
  simp only [List.map_cons, List.map_nil, List.cons.injEq, Prod.mk.injEq, and_true] at hf
  obtain ⟨⟨f1, f2, f3⟩, g1, g2, g3⟩ := hf
  have f1' : f.name ≠ "_" := by simpa using f1
  have g1' : g.name ≠ "_" := by simpa using g1
  have hs := strs_beq a b
  simp only [Op.eqFields, if_pos f1', if_pos g1', f2, f3, g2, g3]
  have p1 : ∀ (x : ByteArray) (y : Int), (part 9 #[.string x, .int .i64 y] 0).run Tryd.prog W = .ok (.string x) W := fun x y => by
    have hz := Tryd.isAgg9 W
    simp [part, hz]
  have p2 : ∀ (x : ByteArray) (y : Int), (part 3 #[.string x, .int .i64 y] 1).run Tryd.prog W = .ok (.int .i64 y) W := fun x y => by
    have hz := Tryd.isAgg3 W
    simp [part, hz]
  have e1 : (Op.equalIn 9999 9 (.string (str a)) (.string (str b))).run Tryd.prog W = .ok (decide (a = b)) W := by
    rw [show (9999 : Nat) = 9998 + 1 from rfl, run_equalIn_string W 9998 _ _ _ Tryd.underlying9, hs]
  have e2 : (Op.equalIn 9999 3 (.int .i64 p) (.int .i64 q)).run Tryd.prog W = .ok (p == q) W := by
    rw [show (9999 : Nat) = 9998 + 1 from rfl, run_equalIn_int W 9998 _ _ _ _ _ Tryd.underlying3]
  simp only [Sem.run_bind, p1, p2, e1, e2, Result.andThen_ok, Sem.run_ite, Sem.run_pure]
  by_cases h1 : a = b
  · rw [decide_eq_true h1]
    simp only [Bool.not_true, Bool.false_eq_true, if_false]
    by_cases h2 : p = q
    · subst h1 h2
      simp
    · have h3 : (p == q) = false := by simpa using h2
      rw [h3, decide_eq_false (fun e => h2 (congrArg Prod.snd e))]
      simp
  · rw [decide_eq_false h1, decide_eq_false (fun e => h1 (congrArg Prod.fst e))]
    simp
theorem neq_word (a b : List UInt8) (p q : Int) (W : World) : (binOp .neq 46 (.agg #[.string (str a), .int .i64 p]) (.agg #[.string (str b), .int .i64 q])).run Tryd.prog W = .ok (.bool (!decide ((a, p) = (b, q)))) W := by
  rw [run_neq_struct, eq_word]
  rfl

theorem cast_app (a b : List WordL) : castW (a ++ b) = castW a ++ castW b := by unfold castW; rw [List.map_append]
theorem idx_next {l : List (List UInt8)} {k : Nat} {x : List UInt8} (B : Nat) (h : l[k]? = some x) : castW ((l.take (k + 1)).zipIdx B) = castW ((l.take k).zipIdx B) ++ [(x, ((B + k : Nat) : Int))] := by
  have hl := (List.getElem?_eq_some_iff.1 h).1
  rw [take_next h, List.zipIdx_append, cast_app, List.length_take, Nat.min_eq_left (by omega)]
  rfl
theorem idx_len (l : List (List UInt8)) (B k : Nat) (hk : k ≤ l.length) : (castW ((l.take k).zipIdx B)).length = k := by
  unfold castW
  rw [List.length_map, List.length_zipIdx, List.length_take]
  omega

set_option maxRecDepth 20000 in
set_option maxHeartbeats 6400000 in
theorem refWords10_own (s : List UInt8) (w : World) (hs : s.length ≤ 20000) :
    Calls Tryd.prog 11 #[.string (str s)] w fun e w' => ∃ A c, e = .returned (.slice A (castW (wordsP s)).length c) ∧ w'.ownsRow w.heap.size 46 2 (.slice A (castW (wordsP s)).length c) (castW (wordsP s)).length ((castW (wordsP s)).flatMap wv) ∧ Below w.heap.size w w' := by
  have HT := Lib.hid (refTexts10_any s w hs)
  have hln := texts_len s
  unfold wordsP
  obtain ⟨R, hR⟩ : ∃ R, textsB s = R := ⟨_, rfl⟩
  rw [hR] at HT hln ⊢
  clear hR
  go_enter Tryd.func11, Tryd.ntmps11
  go_wp2_with fail
  refine HT.out.mono ?_
  rintro e w1 ⟨A1, n, c1, rfl, hA1, k1⟩
  have HL := Lib.hid hA1.len
  have hn : n ≤ 1000000 := by have := HL.out; omega
  go_wp2
  go_loopw [4, 5] (fun v i wr => ∃ k : Nat, k ≤ n ∧ i = .int .i64 (k : Int) ∧ wr.ownsRow w1.heap.size 46 2 v (castW ((R.take k).zipIdx 0)).length ((castW ((R.take k).zipIdx 0)).flatMap wv) ∧ Below w1.heap.size w1 wr) (fun _ i _ => n - (intOf i).toNat)
  case atStart => exact ⟨0, by omega, rfl, World.ownsRow_nil _ _ _ _, Below.refl _ _⟩
  case round =>
    obtain ⟨k, hk, rfl, hown, hb⟩ := hrel
    have hbs := hb.size
    by_cases hlt : k < n
    · have t1 : decide ((k : Int) < (n : Int)) = true := decide_eq_true (by omega)
      have t1n : decide (k < n) = true := decide_eq_true hlt
      have kz : (k : Int) < (n : Int) := by omega
      obtain ⟨b0, o0, rfl, hB0, hc0⟩ := hA1.some_ (by omega)
      obtain ⟨x, hx⟩ : ∃ a, R[k]? = some a := ⟨_, List.getElem?_eq_getElem (by have := HL.out; omega)⟩
      have d0 : wr.cell? ⟨b0, o0 + k, none⟩ = some (.string (str x)) := (hb.cell (p := ⟨b0, o0 + k, none⟩) hB0).trans (hc0 k x hx)
      have hnx := idx_next 0 hx
      rw [Nat.zero_add] at hnx
      have HX := Lib.hid hnx
      have hlk := idx_len R 0 k (by have := HL.out; omega)
      obtain ⟨O, hO⟩ : ∃ O, castW ((R.take k).zipIdx 0) = O := ⟨_, rfl⟩
      rw [hO] at hown HX hlk
      clear hc0 hx hO hnx
      obtain ⟨A4, c4, h4⟩ := (SArr.of_own wv_len hown).form
      have HM := Lib.hid hlk
      rw [hlk] at h4
      subst h4
      have hol : O.length ≤ 1000000000000 - 1 := by omega
      clear hlk
      go_wp2_with (at_builtin; refine append_struct (val := wv) 23 46 (.agg #[.string ⟨#[]⟩, .int .i64 0]) 24 Tryd.underlying23 info_word rfl (by decide) (by decide) wv_len wv_one wr rfl (.tmp 14) (.tmp 21) rfl w1.heap.size (.slice A4 k c4) O rfl hown (x, (k : Int)) #[.string (str x), .int .i64 (k : Int)] rfl wr.heap.size rfl rfl hol hbs ?_; intro v2 w2 hown2 hb2)
      rw [← HX.out] at hown2
      go_wp2
      go_roundw
      case rel => exact ⟨k + 1, by omega, by go_num, hown2, hb.trans hb2⟩
      case measure => simp [intOf]; omega
    · obtain rfl : k = n := by omega
      have t1 : decide ((k : Int) < (k : Int)) = false := by simp
      have t1n : decide (k < k) = false := by simp
      rw [List.take_of_length_le (by rw [HL.out]; exact Nat.le_refl _)] at hown
      have hA := SArr.of_own wv_len hown
      obtain ⟨A4, c4, h4⟩ := hA.form
      subst h4
      have HA := Lib.hid (own_less k1.size hown)
      clear hA hown
      go_wp2
      go_ret
      exact ⟨_, _, rfl, HA.out, below_next k1 hb⟩
theorem refWords10_any (s : List UInt8) (w : World) (hs : s.length ≤ 20000) :
    Calls Tryd.prog 11 #[.string (str s)] w fun e w' => ∃ A n c, e = .returned (.slice A n c) ∧ SArr 2 wv w' w'.heap.size (.slice A n c) (castW (wordsP s)) ∧ Below w.heap.size w w' :=
  (refWords10_own s w hs).mono fun _ _ ⟨A, c, h1, h2, h3⟩ => ⟨A, _, c, h1, SArr.of_own wv_len h2, h3⟩

set_option maxRecDepth 20000 in
set_option maxHeartbeats 6400000 in
theorem refSame10_any (A A' : Option Addr) (n c n' c' : Nat) (l l' : List WordI) (w : World) (h : SArr 2 wv w w.heap.size (.slice A n c) l) (h' : SArr 2 wv w w.heap.size (.slice A' n' c') l') (hn : n ≤ 10000000) (hn' : n' ≤ 10000000) :
    Calls Tryd.prog 10 #[.slice A n c, .slice A' n' c'] w fun e w' => e = .returned (.bool (decide (l = l'))) ∧ Below w.heap.size w w' := by
  have HL := Lib.hid h.len
  have HL' := Lib.hid h'.len
  obtain ⟨R, hR⟩ : ∃ R, decide (l = l') = R := ⟨_, rfl⟩
  rw [hR]
  have HR := Lib.hid hR
  clear hR
  by_cases hne : n = n'
  · subst hne
    have t0 : ((n : Int) != (n : Int)) = false := by simp
    go_enter Tryd.func10, Tryd.ntmps10
    go_wp2
    go_loopw [5] (fun i wr => ∃ k : Nat, k ≤ n ∧ i = .int .i64 (k : Int) ∧ Hid (l.take k = l'.take k) ∧ Below w.heap.size w wr) (fun i _ => n - (intOf i).toNat)
    case atStart => exact ⟨0, by omega, rfl, Lib.hid rfl, Below.refl _ _⟩
    case round =>
      obtain ⟨k, hk, rfl, HK, hb⟩ := hrel
      by_cases hlt : k < n
      · have i1 : decide ((k : Int) < (n : Int)) = true := decide_eq_true (by omega)
        have i1n : decide (k < n) = true := decide_eq_true hlt
        have kz : (k : Int) < (n : Int) := by omega
        obtain ⟨b0, o0, rfl, hB0, hc0⟩ := words_cells h (by omega)
        obtain ⟨b1, o1, rfl, hB1, hc1⟩ := words_cells h' (by omega)
        obtain ⟨x, hx⟩ : ∃ a, l[k]? = some a := ⟨_, List.getElem?_eq_getElem (by have := HL.out; omega)⟩
        obtain ⟨y, hy⟩ : ∃ a, l'[k]? = some a := ⟨_, List.getElem?_eq_getElem (by have := HL'.out; omega)⟩
        have d0 : wr.cell? ⟨b0, o0 + k * 2, none⟩ = some (.string (str x.1)) := (hb.cell (p := ⟨b0, o0 + k * 2, none⟩) hB0).trans (hc0 k x hx).1
        have d1 : wr.cell? ⟨b0, o0 + k * 2 + 1, none⟩ = some (.int .i64 x.2) := (hb.cell (p := ⟨b0, o0 + k * 2 + 1, none⟩) hB0).trans (hc0 k x hx).2
        have d2 : wr.cell? ⟨b1, o1 + k * 2, none⟩ = some (.string (str y.1)) := (hb.cell (p := ⟨b1, o1 + k * 2, none⟩) hB1).trans (hc1 k y hy).1
        have d3 : wr.cell? ⟨b1, o1 + k * 2 + 1, none⟩ = some (.int .i64 y.2) := (hb.cell (p := ⟨b1, o1 + k * 2 + 1, none⟩) hB1).trans (hc1 k y hy).2
        have hnq := neq_word x.1 y.1 x.2 y.2
        have hq9 : (((x.1, x.2) : WordI) = (y.1, y.2)) = (x = y) := rfl
        have HTx := Lib.hid (take_next hx)
        have HTy := Lib.hid (take_next hy)
        by_cases hxy : x = y
        · have HK2 : Hid (l.take (k + 1) = l'.take (k + 1)) := Lib.hid (by rw [HTx.out, HTy.out, HK.out, hxy])
          rw [show decide (((x.1, x.2) : WordI) = (y.1, y.2)) = true from decide_eq_true hxy] at hnq
          clear hc0 hc1 hx hy hq9 hxy
          obtain ⟨x1, x2⟩ := x
          obtain ⟨y1, y2⟩ := y
          simp only at d0 d1 d2 d3 hnq
          go_wp2
          go_big_quiet (fail)
          go_wp2
          go_roundw
          case rel => exact ⟨k + 1, by omega, by go_num, HK2, by first | exact below_drewN hb _ | exact hb⟩
          case measure => simp [intOf]; omega
        · have HE : Hid (R = false) := Lib.hid (by
            rw [← HR.out]
            refine decide_eq_false fun e => hxy ?_
            rw [e, hy] at hx
            exact (Option.some.inj hx).symm)
          rw [show decide (((x.1, x.2) : WordI) = (y.1, y.2)) = false from decide_eq_false hxy] at hnq
          clear hc0 hc1 hx hy hq9 hxy
          obtain ⟨x1, x2⟩ := x
          obtain ⟨y1, y2⟩ := y
          simp only at d0 d1 d2 d3 hnq
          go_wp2
          go_big_quiet (fail)
          go_wp2
          go_ret
          rw [HE.out]
          exact ⟨rfl, by first | exact below_drewN hb _ | exact hb⟩
      · obtain rfl : k = n := by omega
        have i1 : decide ((k : Int) < (k : Int)) = false := by simp
        have i1n : decide (k < k) = false := by simp
        have HE : Hid (R = true) := Lib.hid (by
          rw [← HR.out]
          refine decide_eq_true ?_
          have h9 := HK.out
          rwa [List.take_of_length_le (by rw [HL.out]; exact Nat.le_refl _), List.take_of_length_le (by rw [HL'.out]; exact Nat.le_refl _)] at h9)
        go_wp2
        go_ret
        rw [HE.out]
        exact ⟨rfl, hb⟩
  · have t0 : ((n : Int) != (n' : Int)) = true := by
      have : ((n : Int) == (n' : Int)) = false := eqb_false (by omega)
      rw [bne, this]; rfl
    have HE : Hid (R = false) := Lib.hid (by
      rw [← HR.out]
      refine decide_eq_false fun e => hne ?_
      rw [← HL.out, ← HL'.out, e])
    clear hne
    go_enter Tryd.func10, Tryd.ntmps10
    go_wp2
    go_ret
    rw [HE.out]
    exact ⟨rfl, Below.refl _ _⟩

end Go.Proofs.YtbnchnbblchmnaaDoor

namespace Go.Proofs.YtbnchnbblchmnaaDoor
open Go.RowKit

set_option maxRecDepth 20000 in
set_option maxHeartbeats 6400000 in
theorem refSameTexts10_any (A A' : Option Addr) (n c n' c' : Nat) (l l' : List (List UInt8)) (w : World) (h : Arr sv w w.heap.size (.slice A n c) l) (h' : Arr sv w w.heap.size (.slice A' n' c') l') (hn : n ≤ 10000000) (hn' : n' ≤ 10000000) :
    Calls Tryd.prog 12 #[.slice A n c, .slice A' n' c'] w fun e w' => e = .returned (.bool (decide (l = l'))) ∧ Below w.heap.size w w' := by
  have HL := Lib.hid h.len
  have HL' := Lib.hid h'.len
  obtain ⟨R, hR⟩ : ∃ R, decide (l = l') = R := ⟨_, rfl⟩
  rw [hR]
  have HR := Lib.hid hR
  clear hR
  by_cases hne : n = n'
  · subst hne
    have t0 : ((n : Int) != (n : Int)) = false := by simp
    go_enter Tryd.func12, Tryd.ntmps12
    go_wp2
    go_loopw [5] (fun i wr => ∃ k : Nat, k ≤ n ∧ i = .int .i64 (k : Int) ∧ Hid (l.take k = l'.take k) ∧ Below w.heap.size w wr) (fun i _ => n - (intOf i).toNat)
    case atStart => exact ⟨0, by omega, rfl, Lib.hid rfl, Below.refl _ _⟩
    case round =>
      obtain ⟨k, hk, rfl, HK, hb⟩ := hrel
      by_cases hlt : k < n
      · have i1 : decide ((k : Int) < (n : Int)) = true := decide_eq_true (by omega)
        have i1n : decide (k < n) = true := decide_eq_true hlt
        have kz : (k : Int) < (n : Int) := by omega
        obtain ⟨b0, o0, rfl, hB0, hc0⟩ := h.some_ (by omega)
        obtain ⟨b1, o1, rfl, hB1, hc1⟩ := h'.some_ (by omega)
        obtain ⟨x, hx⟩ : ∃ a, l[k]? = some a := ⟨_, List.getElem?_eq_getElem (by have := HL.out; omega)⟩
        obtain ⟨y, hy⟩ : ∃ a, l'[k]? = some a := ⟨_, List.getElem?_eq_getElem (by have := HL'.out; omega)⟩
        have d0 : wr.cell? ⟨b0, o0 + k, none⟩ = some (.string (str x)) := (hb.cell (p := ⟨b0, o0 + k, none⟩) hB0).trans (hc0 k x hx)
        have d1 : wr.cell? ⟨b1, o1 + k, none⟩ = some (.string (str y)) := (hb.cell (p := ⟨b1, o1 + k, none⟩) hB1).trans (hc1 k y hy)
        have hsb := strs_beq x y
        have HTx := Lib.hid (take_next hx)
        have HTy := Lib.hid (take_next hy)
        by_cases hxy : x = y
        · have HK2 : Hid (l.take (k + 1) = l'.take (k + 1)) := Lib.hid (by rw [HTx.out, HTy.out, HK.out, hxy])
          rw [decide_eq_true hxy] at hsb
          clear hc0 hc1 hx hy hxy
          go_wp2
          go_big_quiet (fail)
          go_wp2
          go_roundw
          case rel => exact ⟨k + 1, by omega, by go_num, HK2, by first | exact below_drewN hb _ | exact hb⟩
          case measure => simp [intOf]; omega
        · have HE : Hid (R = false) := Lib.hid (by
            rw [← HR.out]
            refine decide_eq_false fun e => hxy ?_
            rw [e, hy] at hx
            exact (Option.some.inj hx).symm)
          rw [decide_eq_false hxy] at hsb
          clear hc0 hc1 hx hy hxy
          go_wp2
          go_big_quiet (fail)
          go_wp2
          go_ret
          rw [HE.out]
          exact ⟨rfl, by first | exact below_drewN hb _ | exact hb⟩
      · obtain rfl : k = n := by omega
        have i1 : decide ((k : Int) < (k : Int)) = false := by simp
        have i1n : decide (k < k) = false := by simp
        have HE : Hid (R = true) := Lib.hid (by
          rw [← HR.out]
          refine decide_eq_true ?_
          have h9 := HK.out
          rwa [List.take_of_length_le (by rw [HL.out]; exact Nat.le_refl _), List.take_of_length_le (by rw [HL'.out]; exact Nat.le_refl _)] at h9)
        go_wp2
        go_ret
        rw [HE.out]
        exact ⟨rfl, hb⟩
  · have t0 : ((n : Int) != (n' : Int)) = true := by
      have : ((n : Int) == (n' : Int)) = false := eqb_false (by omega)
      rw [bne, this]; rfl
    have HE : Hid (R = false) := Lib.hid (by
      rw [← HR.out]
      refine decide_eq_false fun e => hne ?_
      rw [← HL.out, ← HL'.out, e])
    clear hne
    go_enter Tryd.func12, Tryd.ntmps12
    go_wp2
    go_ret
    rw [HE.out]
    exact ⟨rfl, Below.refl _ _⟩

end Go.Proofs.YtbnchnbblchmnaaDoor
