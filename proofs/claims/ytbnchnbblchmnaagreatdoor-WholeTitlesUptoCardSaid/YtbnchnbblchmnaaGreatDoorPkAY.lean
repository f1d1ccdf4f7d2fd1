/-
  Words for slices of structs, over any program and any numbering: such a slice as a list, rows of the call's own, append.
  The reference's Words, Zone, Same.
  The reference's SameTexts, Zone.
  The reference's Zone.
  What the document promises of articles, by bytes.
  What the document promises of articles: titles without one, titles with each.
-/
import Derived.Test.YtbnchnbblchmnaaGreatDoorPkAB
import Derived.Test.YtbnchnbblchmnaaGreatDoorPkAN
import Derived.Laws.StructEq
import Derived.Test.YtbnchnbblchmnaaGreatDoorPkAH
import Derived.Maps.AppendAt
import Derived.Test.YtbnchnbblchmnaaGreatDoorPkAK
namespace Go.Proofs.YtbnchnbblchmnaaGreatDoor
open Go.RowKit

/-- In w, the slice v reads as the list xs: each element takes sz cells that hold its values. -/
def SArr {α : Type} (sz : Nat) (val : α → List Value) (w : World) (B : Nat) (v : Value) (xs : List α) : Prop :=
  (v = .slice none 0 0 ∧ xs = []) ∨ ∃ (a : Addr) (c : Nat), v = .slice (some a) xs.length c ∧ xs.length ≤ c ∧ (0 < xs.length → a.block < B) ∧ ∀ i u, xs[i]? = some u → ∀ j x, (val u)[j]? = some x → w.cell? (a.add (i * sz + j)) = some x

section
variable {α : Type} {sz : Nat} {val : α → List Value}
theorem SArr.nil_ (w : World) (B : Nat) : SArr sz val w B (.slice none 0 0) [] := .inl ⟨rfl, rfl⟩
theorem SArr.keep {w w' : World} {B : Nat} {v : Value} {xs : List α} (h : SArr sz val w B v xs) (hk : ∀ p : Addr, p.block < B → w'.cell? p = w.cell? p) : SArr sz val w' B v xs := by
  rcases h with h | ⟨a, c, e, hl, hb, hc⟩
  · exact .inl h
  · exact .inr ⟨a, c, e, hl, hb, fun i u hu j x hx => (hk _ (by rw [add_block]; exact hb (by have := (List.getElem?_eq_some_iff.1 hu).1; omega))).trans (hc i u hu j x hx)⟩
theorem SArr.below {w w' : World} {B : Nat} {v : Value} {xs : List α} (h : SArr sz val w B v xs) (hb : Below B w w') : SArr sz val w' B v xs := h.keep fun _ hp => hb.cell hp
theorem SArr.more {w : World} {B B' : Nat} {v : Value} {xs : List α} (h : SArr sz val w B v xs) (hB : B ≤ B') : SArr sz val w B' v xs := by
  rcases h with h | ⟨a, c, e, hl, hb, hc⟩
  · exact .inl h
  · exact .inr ⟨a, c, e, hl, fun h => by have := hb h; omega, hc⟩
theorem SArr.at_ {W w : World} {v : Value} {xs : List α} (h : SArr sz val W W.heap.size v xs) (hb : Below W.heap.size W w) : SArr sz val w W.heap.size v xs := h.below hb
theorem SArr.up {W w : World} {v : Value} {xs : List α} (h : SArr sz val W W.heap.size v xs) (hb : Below W.heap.size W w) : SArr sz val w w.heap.size v xs := (h.below hb).more hb.size
theorem SArr.form {w : World} {B : Nat} {v : Value} {xs : List α} (h : SArr sz val w B v xs) : ∃ A c, v = .slice A xs.length c := by
  rcases h with ⟨e, rfl⟩ | ⟨a, c, e, _⟩
  · exact ⟨_, _, e⟩
  · exact ⟨_, _, e⟩
theorem SArr.len {w : World} {B n c : Nat} {A : Option Addr} {xs : List α} (h : SArr sz val w B (.slice A n c) xs) : xs.length = n := by
  rcases h with ⟨e, rfl⟩ | ⟨a, c', e, _⟩
  · injection e with _ e2 _; exact e2.symm
  · injection e with _ e2 _; exact e2.symm
theorem SArr.cap {w : World} {B n c : Nat} {A : Option Addr} {xs : List α} (h : SArr sz val w B (.slice A n c) xs) : n ≤ c := by
  have hl := h.len
  rcases h with ⟨e, rfl⟩ | ⟨a, c', e, hc, _⟩
  · simp at hl; omega
  · injection e with _ _ e3; omega
/-- A slice with elements: its address written out. -/
theorem SArr.some_ {w : World} {B n c : Nat} {A : Option Addr} {xs : List α} (h : SArr sz val w B (.slice A n c) xs) (hv : ∀ x, (val x).length = sz) (hs : 0 < sz) (h0 : 0 < n) :
    ∃ b off, A = some ⟨b, off, none⟩ ∧ b < B ∧ ∀ i u, xs[i]? = some u → ∀ j x, (val u)[j]? = some x → w.cell? ⟨b, off + i * sz + j, none⟩ = some x := by
  have hl := h.len
  rcases h with ⟨e, _⟩ | ⟨a, c', e, _, hb, hc⟩
  · injection e with _ e2 _; omega
  · injection e with e1 e2 e3
    have hu := List.getElem?_eq_getElem (show 0 < xs.length by omega)
    have hx := List.getElem?_eq_getElem (l := val xs[0]) (i := 0) (by rw [hv]; exact hs)
    have hcell := hc 0 _ hu 0 _ hx
    obtain ⟨b, off, spot⟩ := a
    have hspot : spot = none := by simpa [Addr.add] using World.cell?_spot hcell
    subst hspot
    refine ⟨b, off, e1, hb (by omega), fun i u hu j x hx => ?_⟩
    have := hc i u hu j x hx
    rw [add_plain, ← Nat.add_assoc] at this
    exact this
theorem SArr.head {w : World} {B N n c : Nat} {A : Option Addr} {xs : List α} (h : SArr sz val w B (.slice A n c) xs) (hN : N ≤ n) : SArr sz val w B (.slice A N c) (xs.take N) := by
  have hn := h.len
  have hl : (xs.take N).length = N := by rw [List.length_take]; omega
  rcases h with ⟨e, rfl⟩ | ⟨a, c', e, hc, hb, hcell⟩
  · injection e with e1 e2 e3
    subst e1 e2 e3
    obtain rfl : N = 0 := by omega
    exact .inl ⟨rfl, rfl⟩
  · injection e with e1 e2 e3
    subst e1 e2 e3
    refine .inr ⟨a, c, by rw [hl], by omega, fun h0 => hb (by omega), fun i u hu j x hx => hcell i u ?_ j x hx⟩
    rw [List.getElem?_take] at hu
    split at hu
    · exact hu
    · cases hu
theorem flat_len (hv : ∀ x, (val x).length = sz) : ∀ xs : List α, (xs.flatMap val).length = xs.length * sz
  | [] => by simp
  | x :: xs => by rw [List.flatMap_cons, List.length_append, hv, flat_len hv xs, List.length_cons, Nat.add_mul, Nat.one_mul, Nat.add_comm]
theorem flat_at (hv : ∀ x, (val x).length = sz) : ∀ (xs : List α) (i : Nat) (u : α) (j : Nat) (x : Value), xs[i]? = some u → (val u)[j]? = some x → (xs.flatMap val)[i * sz + j]? = some x
  | [], i, u, j, x, h, _ => by simp at h
  | y :: xs, 0, u, j, x, h, hx => by
    simp at h
    subst h
    rw [List.flatMap_cons, Nat.zero_mul, Nat.zero_add, List.getElem?_append_left (List.getElem?_eq_some_iff.1 hx).1]
    exact hx
  | y :: xs, i + 1, u, j, x, h, hx => by
    rw [List.getElem?_cons_succ] at h
    have hle : sz ≤ (i + 1) * sz + j := Nat.le_trans (Nat.le_mul_of_pos_left sz (Nat.succ_pos i)) (Nat.le_add_right _ _)
    rw [List.flatMap_cons, List.getElem?_append_right (by rw [hv]; exact hle), hv]
    have e : (i + 1) * sz + j - sz = i * sz + j := by rw [Nat.add_mul, Nat.one_mul]; omega
    rw [e]
    exact flat_at hv xs i u j x h hx
theorem SArr.of_own {w : World} {base e : Nat} {v : Value} {xs : List α} (hv : ∀ x, (val x).length = sz) (h : w.ownsRow base e sz v xs.length (xs.flatMap val)) : SArr sz val w w.heap.size v xs := by
  rcases h.2 with ⟨hv', h0⟩ | ⟨g, cap, cur, hvv, _, hg, hc, _, hsz, htake⟩
  · exact .inl ⟨hv', List.length_eq_zero_iff.1 h0⟩
  · refine .inr ⟨_, cap, hvv, hc, fun _ => (Array.getElem?_eq_some_iff.1 hg).1, fun i u hu j x hx => ?_⟩
    rw [plain_add, Go.cell_of_row w g _ cur e (0, 0) hg]
    have h2 := flat_at hv xs i u j x hu hx
    rw [← htake, List.getElem?_take] at h2
    split at h2
    · rw [← Array.getElem?_toList]; exact h2
    · cases h2
theorem SArr.of_box {w : World} {g n c : Nat} {t : TypeId} {cs : Array Value} {xs : List α} (hb : Box w g t cs) (hn : xs.length = n) (hc : n ≤ c) (h : ∀ (i : Nat) (u : α), xs[i]? = some u → ∀ j x, (val u)[j]? = some x → cs[i * sz + j]? = some x) : SArr sz val w (g + 1) (.slice (some ⟨g, 0, none⟩) n c) xs := by
  subst hn
  exact .inr ⟨⟨g, 0, none⟩, c, rfl, hc, fun _ => by simp, fun i u hu j x hx => by rw [plain_add, hb.cell]; exact h i u hu j x hx⟩

/-- append(s, y) of one struct: the new element stands in a block of its own, the last one made. -/
theorem append_struct {P : Program} (t e : TypeId) (z : Value) (bytes : Nat) (ht : P.underlying t = some (.slice e)) (info : (P.info? e).map (fun i => (i.zero, i.size, i.bytes)) = some (some z, sz, bytes))
    (hzs : z.cells.size = sz) (hs0 : 0 < sz) (hbytes : bytes ≤ 100) (hv : ∀ x, (val x).length = sz) (hval : ∀ x, ∀ u ∈ val x, u.oneCell' = true)
    {ops : Array Oper} {rest : List Oper} {o : Oper} {a : Act} {Q : Exit → Act → World → Prop} (w : World) (hgd : o.guard = none) (s x : Operand)
    (ho : o.op = .call { callee := .builtin .append, args := #[s, x], argTypes := #[t, t] })
    (base : Nat) (v : Value) (xs : List α) (hs : a.eval s = v) (hown : w.ownsRow base e sz v xs.length (xs.flatMap val)) (y : α) (u : Array Value) (hu : u = (val y).toArray) (N : Nat) (hN : w.heap.size = N)
    (hx : a.eval x = .slice (some ⟨N, 0, none⟩) 1 1) (hlen : xs.length ≤ 1000000000000 - 1) (hbase : base ≤ w.heap.size)
    (h : ∀ v' w', w'.ownsRow base e sz v' (xs ++ [y]).length ((xs ++ [y]).flatMap val) → Below base w w' → wpList P ops Q rest (a.put o.dst v') w') : wpList P ops Q (o :: rest) a (w.alloc (.cells u e)) := by
  obtain ⟨i0, hi, hz0, hz1, hz2⟩ := info_parts info
  subst hu hN
  have hown1 : (w.alloc (.cells (val y).toArray e)).ownsRow base e sz v xs.length (xs.flatMap val) := own_keep_below hown ((Below.refl _ _).alloc (Nat.le_refl _) _)
  have hcell : ∀ j u, (val y)[j]? = some u → (w.alloc (.cells (val y).toArray e)).cell? ((⟨w.heap.size, 0, none⟩ : Addr).add j) = some u := by
    intro j u hu
    rw [plain_add, (Box.made w e (val y).toArray).cell]
    simpa using hu
  have hb0 : Below base w (w.alloc (.cells (val y).toArray e)) := (Below.refl _ _).alloc hbase _
  refine wpList_append_own (w := w.alloc (.cells (val y).toArray e)) hgd s x t ho base e i0 z sz bytes ht hi hz0 hz1 hz2 hzs hs0 v xs.length (xs.flatMap val) hs hown1 ⟨w.heap.size, 0, none⟩ 1 1 (val y) hx (by rw [hv, Nat.one_mul]) hcell (hval y)
    (by unfold maxLen; omega) (by have := Nat.mul_le_mul (show xs.length + 1 ≤ 1000000000000 by omega) hbytes; omega) (by simp; omega) ?_
  intro v' w' h1 h2 _
  exact h v' w' (by rw [List.length_append, List.flatMap_append]; simpa using h1) (hb0.grown h2 (by simp; omega) fun k hk => (hown1.lt k hk).1)
/-- The same as a step of a region that draws its order. -/
theorem step_struct {P : Program} (t e : TypeId) (z : Value) (bytes : Nat) (ht : P.underlying t = some (.slice e)) (info : (P.info? e).map (fun i => (i.zero, i.size, i.bytes)) = some (some z, sz, bytes))
    (hzs : z.cells.size = sz) (hs0 : 0 < sz) (hbytes : bytes ≤ 100) (hv : ∀ x, (val x).length = sz) (hval : ∀ x, ∀ u ∈ val x, u.oneCell' = true)
    {ops : Array Oper} {o : Oper} {a : Act} {K : Act → World → Prop} {Q : Exit → Act → World → Prop} {E : Prop} (w : World) (hgd : o.guard = none) (s x : Operand)
    (ho : o.op = .call { callee := .builtin .append, args := #[s, x], argTypes := #[t, t] })
    (base : Nat) (v : Value) (xs : List α) (hs : a.eval s = v) (hown : w.ownsRow base e sz v xs.length (xs.flatMap val)) (y : α) (ad : Addr)
    (hx : a.eval x = .slice (some ad) 1 1) (hcell : ∀ j u, (val y)[j]? = some u → w.cell? (ad.add j) = some u) (hlen : xs.length ≤ 1000000000000 - 1) (hbase : base ≤ w.heap.size)
    (h : ∀ v' w', w'.ownsRow base e sz v' (xs ++ [y]).length ((xs ++ [y]).flatMap val) → Below base w w' → K (a.put o.dst v') w') :
    if Region.wanted o (yielded ops a.tmps) = true then Oper.wp P o a w K Q else E := by
  have hw : Region.wanted o (yielded ops a.tmps) = true := by simp [Region.wanted, hgd]
  rw [if_pos hw]
  obtain ⟨i0, hi, hz0, hz1, hz2⟩ := info_parts info
  refine wp_append_own w s x t ho base e i0 z sz bytes ht hi hz0 hz1 hz2 hzs hs0 v xs.length (xs.flatMap val) hs hown ad 1 1 (val y) hx (by rw [hv, Nat.one_mul]) hcell (hval y)
    (by unfold maxLen; omega) (by have := Nat.mul_le_mul (show xs.length + 1 ≤ 1000000000000 by omega) hbytes; omega) hbase ?_
  intro v' w' h1 h2 _
  exact h v' w' (by rw [List.length_append, List.flatMap_append]; simpa using h1) ((Below.refl _ _).grown h2 hbase fun k hk => (hown.lt k hk).1)
theorem cells_made {cs : List Value} (w : World) (e : TypeId) : ∀ (j : Nat) (u : Value), cs[j]? = some u → (w.alloc (.cells cs.toArray e)).cell? ((⟨w.heap.size, 0, none⟩ : Addr).add j) = some u := by
  intro j u hu
  rw [plain_add, (Box.made w e cs.toArray).cell]
  simpa using hu
end

end Go.Proofs.YtbnchnbblchmnaaGreatDoor

namespace Go.Proofs.YtbnchnbblchmnaaGreatDoor
open Go.RowKit

/-- A word as the model holds it. -/
def wv (x : WordI) : List Value := [.string (str x.1), .int .i64 x.2]
theorem wv_len (x : WordI) : (wv x).length = 2 := rfl
theorem wv_one (x : WordI) : ∀ u ∈ wv x, u.oneCell' = true := by
  intro u hu
  unfold wv at hu
  simp only [List.mem_cons, List.not_mem_nil, or_false] at hu
  rcases hu with rfl | rfl <;> rfl
theorem info_word : (Tryz.prog.info? 32).map (fun i => (i.zero, i.size, i.bytes)) = some (some (.agg #[.string ⟨#[]⟩, .int .i64 0]), 2, 24) := by kernel_rfl
/-- The cells of a slice of words. -/
theorem words_cells {w : World} {B n c : Nat} {A : Option Addr} {xs : List WordI} (h : SArr 2 wv w B (.slice A n c) xs) (h0 : 0 < n) :
    ∃ b off, A = some ⟨b, off, none⟩ ∧ b < B ∧ ∀ i x, xs[i]? = some x → w.cell? ⟨b, off + i * 2, none⟩ = some (.string (str x.1)) ∧ w.cell? ⟨b, off + i * 2 + 1, none⟩ = some (.int .i64 x.2) := by
  obtain ⟨b, off, e, hb, hc⟩ := h.some_ wv_len (by decide) h0
  exact ⟨b, off, e, hb, fun i x hx => ⟨hc i x hx 0 _ rfl, hc i x hx 1 _ rfl⟩⟩

theorem word_fields : Tryz.prog.underlying 32 = some (.struct (Tryz.prog.fieldsOf 32)) := by kernel_rfl
theorem word_held : Tryz.prog.stoodInHeld 32 = false := by kernel_rfl
theorem eq_word (a b : List UInt8) (p q : Int) (W : World) : (Op.equalIn 10000 32 (.agg #[.string (str a), .int .i64 p]) (.agg #[.string (str b), .int .i64 q])).run Tryz.prog W = .ok (decide ((a, p) = (b, q))) W := by
  have hf : (Tryz.prog.fieldsOf 32).toList.map (fun f => (f.name == "_", f.type, f.offset)) = [(false, 9, 0), (false, 3, 1)] := by kernel_rfl
  rw [show (10000 : Nat) = 9999 + 1 from rfl, run_equalIn_agg W 9999 _ _ _ word_fields word_held]
  obtain ⟨f, g, hL⟩ : ∃ f g, (Tryz.prog.fieldsOf 32).toList = [f, g] := by
    generalize (Tryz.prog.fieldsOf 32).toList = L at hf
    cases L with
    | nil => simp at hf
    | cons f L => cases L with
      | nil => simp at hf
      | cons g L => cases L with
        | nil => exact ⟨f, g, rfl⟩
        | cons h L => simp at hf
  rw [hL] at hf ⊢
  simp only [List.map_cons, List.map_nil, List.cons.injEq, Prod.mk.injEq, and_true] at hf
  obtain ⟨⟨f1, f2, f3⟩, g1, g2, g3⟩ := hf
  have f1' : f.name ≠ "_" := by simpa using f1
  have g1' : g.name ≠ "_" := by simpa using g1
  have hs := strs_beq a b
  simp only [Op.eqFields, if_pos f1', if_pos g1', f2, f3, g2, g3]
  have p1 : ∀ (x : ByteArray) (y : Int), (part 9 #[.string x, .int .i64 y] 0).run Tryz.prog W = .ok (.string x) W := fun x y => by
    have hz := Tryz.isAgg9 W
    simp [part, hz]
  have p2 : ∀ (x : ByteArray) (y : Int), (part 3 #[.string x, .int .i64 y] 1).run Tryz.prog W = .ok (.int .i64 y) W := fun x y => by
    have hz := Tryz.isAgg3 W
    simp [part, hz]
  have e1 : (Op.equalIn 9999 9 (.string (str a)) (.string (str b))).run Tryz.prog W = .ok (decide (a = b)) W := by
    rw [show (9999 : Nat) = 9998 + 1 from rfl, run_equalIn_string W 9998 _ _ _ Tryz.underlying9, hs]
  have e2 : (Op.equalIn 9999 3 (.int .i64 p) (.int .i64 q)).run Tryz.prog W = .ok (p == q) W := by
    rw [show (9999 : Nat) = 9998 + 1 from rfl, run_equalIn_int W 9998 _ _ _ _ _ Tryz.underlying3]
  simp only [Sem.run_bind, p1, p2, e1, e2, Result.andThen_ok, Sem.run_ite, Sem.run_pure]
  by_cases h1 : a = b
  · rw [decide_eq_true h1]
    simp only [Bool.not_true, Bool.false_eq_true, if_false]
    by_cases h2 : p = q
    · subst h1 h2
      simp
    · have h3 : (p == q) = false := by simpa using h2
      rw [h3, decide_eq_false (fun e => h2 (congrArg Prod.snd e))]
      simp
  · rw [decide_eq_false h1, decide_eq_false (fun e => h1 (congrArg Prod.fst e))]
    simp
theorem neq_word (a b : List UInt8) (p q : Int) (W : World) : (binOp .neq 32 (.agg #[.string (str a), .int .i64 p]) (.agg #[.string (str b), .int .i64 q])).run Tryz.prog W = .ok (.bool (!decide ((a, p) = (b, q)))) W := by
  rw [run_neq_struct, eq_word]
  rfl

theorem cast_app (a b : List WordL) : castW (a ++ b) = castW a ++ castW b := by unfold castW; rw [List.map_append]
theorem idx_next {l : List (List UInt8)} {k : Nat} {x : List UInt8} (B : Nat) (h : l[k]? = some x) : castW ((l.take (k + 1)).zipIdx B) = castW ((l.take k).zipIdx B) ++ [(x, ((B + k : Nat) : Int))] := by
  have hl := (List.getElem?_eq_some_iff.1 h).1
  rw [take_next h, List.zipIdx_append, cast_app, List.length_take, Nat.min_eq_left (by omega)]
  rfl
theorem idx_len (l : List (List UInt8)) (B k : Nat) (hk : k ≤ l.length) : (castW ((l.take k).zipIdx B)).length = k := by
  unfold castW
  rw [List.length_map, List.length_zipIdx, List.length_take]
  omega

set_option maxRecDepth 20000 in
set_option maxHeartbeats 6400000 in
theorem refSame10_any (A A' : Option Addr) (n c n' c' : Nat) (l l' : List WordI) (w : World) (h : SArr 2 wv w w.heap.size (.slice A n c) l) (h' : SArr 2 wv w w.heap.size (.slice A' n' c') l') (hn : n ≤ 10000000) (hn' : n' ≤ 10000000) :
    Calls Tryz.prog 19 #[.slice A n c, .slice A' n' c'] w fun e w' => e = .returned (.bool (decide (l = l'))) ∧ Below w.heap.size w w' := by
  have HL := Lib.hid h.len
  have HL' := Lib.hid h'.len
  obtain ⟨R, hR⟩ : ∃ R, decide (l = l') = R := ⟨_, rfl⟩
  rw [hR]
  have HR := Lib.hid hR
  clear hR
  by_cases hne : n = n'
  · subst hne
    have t0 : ((n : Int) != (n : Int)) = false := by simp
    go_enter Tryz.func19, Tryz.ntmps19
    go_wp2
    go_loopw [5] (fun i wr => ∃ k : Nat, k ≤ n ∧ i = .int .i64 (k : Int) ∧ Hid (l.take k = l'.take k) ∧ Below w.heap.size w wr) (fun i _ => n - (intOf i).toNat)
    case atStart => exact ⟨0, by omega, rfl, Lib.hid rfl, Below.refl _ _⟩
    case round =>
      obtain ⟨k, hk, rfl, HK, hb⟩ := hrel
      by_cases hlt : k < n
      · have i1 : decide ((k : Int) < (n : Int)) = true := decide_eq_true (by omega)
        have i1n : decide (k < n) = true := decide_eq_true hlt
        have kz : (k : Int) < (n : Int) := by omega
        obtain ⟨b0, o0, rfl, hB0, hc0⟩ := words_cells h (by omega)
        obtain ⟨b1, o1, rfl, hB1, hc1⟩ := words_cells h' (by omega)
        obtain ⟨x, hx⟩ : ∃ a, l[k]? = some a := ⟨_, List.getElem?_eq_getElem (by have := HL.out; omega)⟩
        obtain ⟨y, hy⟩ : ∃ a, l'[k]? = some a := ⟨_, List.getElem?_eq_getElem (by have := HL'.out; omega)⟩
        have d0 : wr.cell? ⟨b0, o0 + k * 2, none⟩ = some (.string (str x.1)) := (hb.cell (p := ⟨b0, o0 + k * 2, none⟩) hB0).trans (hc0 k x hx).1
        have d1 : wr.cell? ⟨b0, o0 + k * 2 + 1, none⟩ = some (.int .i64 x.2) := (hb.cell (p := ⟨b0, o0 + k * 2 + 1, none⟩) hB0).trans (hc0 k x hx).2
        have d2 : wr.cell? ⟨b1, o1 + k * 2, none⟩ = some (.string (str y.1)) := (hb.cell (p := ⟨b1, o1 + k * 2, none⟩) hB1).trans (hc1 k y hy).1
        have d3 : wr.cell? ⟨b1, o1 + k * 2 + 1, none⟩ = some (.int .i64 y.2) := (hb.cell (p := ⟨b1, o1 + k * 2 + 1, none⟩) hB1).trans (hc1 k y hy).2
        have hnq := neq_word x.1 y.1 x.2 y.2
        have hq9 : (((x.1, x.2) : WordI) = (y.1, y.2)) = (x = y) := rfl
        have HTx := Lib.hid (take_next hx)
        have HTy := Lib.hid (take_next hy)
        by_cases hxy : x = y
        · have HK2 : Hid (l.take (k + 1) = l'.take (k + 1)) := Lib.hid (by rw [HTx.out, HTy.out, HK.out, hxy])
          rw [show decide (((x.1, x.2) : WordI) = (y.1, y.2)) = true from decide_eq_true hxy] at hnq
          clear hc0 hc1 hx hy hq9 hxy
          obtain ⟨x1, x2⟩ := x
          obtain ⟨y1, y2⟩ := y
          simp only at d0 d1 d2 d3 hnq
          go_wp2
          go_big_quiet (fail)
          go_wp2
          go_roundw
          case rel => exact ⟨k + 1, by omega, by go_num, HK2, by first | exact below_drewN hb _ | exact hb⟩
          case measure => simp [intOf]; omega
        · have HE : Hid (R = false) := Lib.hid (by
            rw [← HR.out]
            refine decide_eq_false fun e => hxy ?_
            rw [e, hy] at hx
            exact (Option.some.inj hx).symm)
          rw [show decide (((x.1, x.2) : WordI) = (y.1, y.2)) = false from decide_eq_false hxy] at hnq
          clear hc0 hc1 hx hy hq9 hxy
          obtain ⟨x1, x2⟩ := x
          obtain ⟨y1, y2⟩ := y
          simp only at d0 d1 d2 d3 hnq
          go_wp2
          go_big_quiet (fail)
          go_wp2
          go_ret
          rw [HE.out]
          exact ⟨rfl, by first | exact below_drewN hb _ | exact hb⟩
      · obtain rfl : k = n := by omega
        have i1 : decide ((k : Int) < (k : Int)) = false := by simp
        have i1n : decide (k < k) = false := by simp
        have HE : Hid (R = true) := Lib.hid (by
          rw [← HR.out]
          refine decide_eq_true ?_
          have h9 := HK.out
          rwa [List.take_of_length_le (by rw [HL.out]; exact Nat.le_refl _), List.take_of_length_le (by rw [HL'.out]; exact Nat.le_refl _)] at h9)
        go_wp2
        go_ret
        rw [HE.out]
        exact ⟨rfl, hb⟩
  · have t0 : ((n : Int) != (n' : Int)) = true := by
      have : ((n : Int) == (n' : Int)) = false := eqb_false (by omega)
      rw [bne, this]; rfl
    have HE : Hid (R = false) := Lib.hid (by
      rw [← HR.out]
      refine decide_eq_false fun e => hne ?_
      rw [← HL.out, ← HL'.out, e])
    clear hne
    go_enter Tryz.func19, Tryz.ntmps19
    go_wp2
    go_ret
    rw [HE.out]
    exact ⟨rfl, Below.refl _ _⟩

end Go.Proofs.YtbnchnbblchmnaaGreatDoor

namespace Go.Proofs.YtbnchnbblchmnaaGreatDoor
open Go.RowKit

end Go.Proofs.YtbnchnbblchmnaaGreatDoor

namespace Go.Proofs.YtbnchnbblchmnaaGreatDoor
open Go.RowKit

/-- append(s, y) of one struct; the new row is the old one, or a new block. -/
theorem append_struct_where {P : Program} {α : Type} {val : α → List Value} {sz : Nat} (t e : TypeId) (z : Value) (bytes : Nat) (ht : P.underlying t = some (.slice e)) (info : (P.info? e).map (fun i => (i.zero, i.size, i.bytes)) = some (some z, sz, bytes))
    (hzs : z.cells.size = sz) (hs0 : 0 < sz) (hbytes : bytes ≤ 100) (hv : ∀ x, (val x).length = sz) (hval : ∀ x, ∀ u ∈ val x, u.oneCell' = true)
    {ops : Array Oper} {rest : List Oper} {o : Oper} {a : Act} {Q : Exit → Act → World → Prop} (w : World) (hgd : o.guard = none) (s x : Operand)
    (ho : o.op = .call { callee := .builtin .append, args := #[s, x], argTypes := #[t, t] })
    (base : Nat) (v : Value) (xs : List α) (hs : a.eval s = v) (hown : w.ownsRow base e sz v xs.length (xs.flatMap val)) (y : α) (u : Array Value) (hu : u = (val y).toArray) (N : Nat) (hN : w.heap.size = N)
    (hx : a.eval x = .slice (some ⟨N, 0, none⟩) 1 1) (hlen : xs.length ≤ 1000000000000 - 1) (hbase : base ≤ w.heap.size)
    (h : ∀ v' w', w'.ownsRow base e sz v' (xs ++ [y]).length ((xs ++ [y]).flatMap val) → w.grownBy w' v.ownBlock → (∀ g, v'.ownBlock = some g → v.ownBlock = some g ∨ w.heap.size ≤ g) → wpList P ops Q rest (a.put o.dst v') w') : wpList P ops Q (o :: rest) a (w.alloc (.cells u e)) := by
  obtain ⟨i0, hi, hz0, hz1, hz2⟩ := info_parts info
  subst hu hN
  have hown1 : (w.alloc (.cells (val y).toArray e)).ownsRow base e sz v xs.length (xs.flatMap val) := own_keep_below hown ((Below.refl _ _).alloc (Nat.le_refl _) _)
  have hcell : ∀ j u, (val y)[j]? = some u → (w.alloc (.cells (val y).toArray e)).cell? ((⟨w.heap.size, 0, none⟩ : Addr).add j) = some u := by
    intro j u hu
    rw [plain_add, (Box.made w e (val y).toArray).cell]
    simpa using hu
  refine wpList_append_own_at (w := w.alloc (.cells (val y).toArray e)) hgd s x t ho base e i0 z sz bytes ht hi hz0 hz1 hz2 hzs hs0 v xs.length (xs.flatMap val) hs hown1 ⟨w.heap.size, 0, none⟩ 1 1 (val y) hx (by rw [hv, Nat.one_mul]) hcell (hval y)
    (by unfold maxLen; omega) (by have := Nat.mul_le_mul (show xs.length + 1 ≤ 1000000000000 by omega) hbytes; omega) (by simp; omega) ?_
  intro v' w' h1 h2 _ h4
  refine h v' w' (by rw [List.length_append, List.flatMap_append]; simpa using h1) (grown_trans (grown_of_below _ ((Below.refl _ _).alloc (Nat.le_refl _) _)) h2) fun g hg => ?_
  rcases h4 with h5 | h5
  · exact .inl (h5 ▸ hg)
  · rw [h5] at hg
    injection hg with hg
    simp at hg
    exact .inr (by omega)

/-! Bounds on zones. -/
theorem begin_app (gap : Nat) (o : List WordL) (z : List (List UInt8)) (b : Nat) : beginOf gap (o ++ z.zipIdx b) = if z = [] then beginOf gap o else b + z.length + gap := by
  refine list_snoc (fun z : List (List UInt8) => beginOf gap (o ++ z.zipIdx b) = if z = [] then beginOf gap o else b + z.length + gap) ?_ (fun z x _ => ?_) z
  · simp
  · rw [List.zipIdx_append, ← List.append_assoc, if_neg (by simp)]
    unfold beginOf
    simp
    omega
theorem zone_bound (gap M : Nat) (l : List (List UInt8)) : (∀ s ∈ l, (textsB s).length ≤ M) → beginOf gap (zoneP gap l) ≤ l.length * (M + 1 + gap) ∧ (zoneP gap l).length ≤ l.length * M := by
  refine list_snoc (fun l => (∀ s ∈ l, (textsB s).length ≤ M) → beginOf gap (zoneP gap l) ≤ l.length * (M + 1 + gap) ∧ (zoneP gap l).length ≤ l.length * M) (fun _ => ⟨Nat.zero_le _, Nat.zero_le _⟩) (fun l s ih h => ?_) l
  obtain ⟨h1, h2⟩ := ih fun t ht => h t (List.mem_append_left _ ht)
  have h3 := h s (List.mem_append_right _ (List.mem_singleton.2 rfl))
  rw [zone_snoc, begin_app, List.length_append, List.length_append, List.length_zipIdx, List.length_singleton, Nat.add_mul, Nat.add_mul, Nat.one_mul, Nat.one_mul]
  constructor
  · split <;> omega
  · omega
theorem cast_len (l : List WordL) : (castW l).length = l.length := by unfold castW; rw [List.length_map]
/-- The end of a row of words. -/
theorem begin_last (gap : Nat) {O : List WordL} {m : Nat} (hm : O.length = m + 1) : ∃ x p, (castW O)[m]? = some (x, ((p : Nat) : Int)) ∧ beginOf gap O = p + 1 + gap := by
  obtain ⟨z, hz⟩ : ∃ z, O[m]? = some z := ⟨_, List.getElem?_eq_getElem (by omega)⟩
  refine ⟨z.1, z.2, by unfold castW; rw [List.getElem?_map, hz]; rfl, ?_⟩
  unfold beginOf
  rw [List.getLast?_eq_getElem?, hm, Nat.add_sub_cancel, hz]
theorem words_at (s : List UInt8) {q : Nat} (hq : q < (textsB s).length) : ∃ y, (textsB s)[q]? = some y ∧ (castW (wordsP s))[q]? = some (y, (q : Int)) := by
  refine ⟨_, List.getElem?_eq_getElem hq, ?_⟩
  unfold castW wordsP
  rw [List.getElem?_map, List.getElem?_zipIdx, List.getElem?_eq_getElem hq]
  simp
/-- The cells of a row of words of a call's own. -/
theorem own_words {w : World} {B e c : Nat} {A : Option Addr} {xs : List WordI} (h : w.ownsRow B e 2 (.slice A xs.length c) xs.length (xs.flatMap wv)) (h0 : 0 < xs.length) :
    ∃ b cs, A = some ⟨b, 0, none⟩ ∧ B ≤ b ∧ b < w.heap.size ∧ Box w b e cs ∧ ∀ i x, xs[i]? = some x → cs[i * 2]? = some (.string (str x.1)) ∧ cs[i * 2 + 1]? = some (.int .i64 x.2) := by
  rcases h.2 with ⟨hv', h0'⟩ | ⟨g, cap, cur, hvv, hB, hg, hc, _, hsz, htake⟩
  · omega
  · injection hvv with e1 e2 e3
    refine ⟨g, cur, e1, hB, (Array.getElem?_eq_some_iff.1 hg).1, hg, fun i x hx => ?_⟩
    have key : ∀ j u, (wv x)[j]? = some u → cur[i * 2 + j]? = some u := by
      intro j u hu
      have h2 := flat_at wv_len xs i x j u hx hu
      rw [← htake, List.getElem?_take] at h2
      split at h2
      · rw [← Array.getElem?_toList]; exact h2
      · cases h2
    exact ⟨key 0 _ rfl, key 1 _ rfl⟩

end Go.Proofs.YtbnchnbblchmnaaGreatDoor

namespace Go.Proofs.YtbnchnbblchmnaaGreatDoor

theorem enc_head_len {m : List Nat} (h : m ≠ []) : 0 < (encL m).length := by
  cases m with
  | nil => exact absurd rfl h
  | cons c m =>
    have := (encC_len c).1
    rw [encL, List.length_append]
    omega
theorem blank_none {t : List UInt8} (h : t.head? ≠ some 32) : blankN t = 0 := by
  have := blank_rep 0 h
  simpa using this
theorem art_sort {lang s : List UInt8} (h : skipN lang s ≠ 0) (h9 : countR (s.take (skipN lang s)) ≤ 9) : sortA s (countR (s.take (skipN lang s)) : Int) = stripN lang s := by
  obtain ⟨p, m, a, h1, h2, h3, h4, h5, h6, h7, -⟩ := skip_split h
  unfold stripN
  rw [← h4] at h9 ⊢
  have htk : s.take (encL p).length = encL p := by
    conv => lhs; rw [h2]
    exact List.take_left
  have hdp : s.drop (encL p).length = encL m := by
    conv => lhs; rw [h2]
    exact List.drop_left
  have hct : countR (s.take (encL p).length) = p.length := by rw [htk, countR_some (dec_enc p h3)]
  rw [hct] at h9 ⊢
  have hp := List.length_pos_iff.2 h5
  have hm := List.length_pos_iff.2 h6
  have hcut : cutR s (p.length : Int) = encL p := by
    rw [cutR_some h1 (by omega)]
    simp
  have hsp : spN s (encL p).length = (encL p).length := by unfold spN; rw [hdp, blank_none h7]; rfl
  have hlen : (encL p).length < s.length := by
    rw [h2, List.length_append]
    have := enc_head_len h6
    omega
  unfold sortA
  rw [h1]
  simp only
  rw [if_neg (by rw [List.length_append]; omega), hcut, hsp, if_neg (by omega)]

/-- A string without the blanks at its end. -/
def trimB (s : List UInt8) : List UInt8 := (s.reverse.dropWhile (· == 32)).reverse
theorem trim_same {s : List UInt8} (h : s.getLast? ≠ some 32) : trimB s = s := by
  unfold trimB
  rw [← List.head?_reverse] at h
  cases hr : s.reverse with
  | nil => rw [List.reverse_eq_nil_iff.1 hr]; rfl
  | cons b t =>
    rw [hr] at h
    have hb : (b == 32) = false := by
      simp only [List.head?_cons, ne_eq, Option.some.injEq] at h
      simpa using h
    rw [List.dropWhile_cons, hb]
    simp only [Bool.false_eq_true, if_false]
    rw [← hr, List.reverse_reverse]
theorem trim_rep (s : List UInt8) (k : Nat) : trimB (s ++ List.replicate k 32) = trimB s := by
  unfold trimB
  rw [List.reverse_append, List.reverse_replicate]
  congr 1
  induction k with
  | zero => rfl
  | succ k ih => rw [List.replicate_succ, List.cons_append, List.dropWhile_cons]; simp only [beq_self_eq_true, if_true]; exact ih
theorem last_enc {p : List Nat} (hp : ∀ c ∈ p, okC c) (h : (encL p).getLast? = some 32) : ∃ q, p = q ++ [32] := by
  rcases List.eq_nil_or_concat p with e | ⟨q, c, e⟩
  · subst e; simp [encL] at h
  · rw [List.concat_eq_append] at e
    subst e
    rw [encL_app] at h
    have h1 : encL [c] = encC c := by simp [encL]
    rw [h1, List.getLast?_append] at h
    cases hx : (encC c).getLast? with
    | none => exact absurd (List.getLast?_eq_none_iff.1 hx) (encC_ne c)
    | some x =>
      rw [hx] at h
      have h2 : x = 32 := by simpa using h
      have hm := List.mem_of_getLast? hx
      rw [h2] at hm
      have hc := (encC_ascii (b := 32) (by decide) (hp c (by simp)).1).1 hm
      exact ⟨q, by rw [hc]⟩
theorem fold_enc {p : List Nat} (hp : ∀ c ∈ p, okC c) : nFold (encL p) = encL (foldL (dcF p)) := by
  unfold nFold nFL
  rw [nL_enc hp]
theorem fold_last (q : List Nat) : foldL (dcF (q ++ [32])) = foldL (dcF q) ++ [32] := by
  have hb := blank_facts
  rw [dcF_join q [32] (fun c hc => by simp at hc; subst hc; exact hb.2.2.1), dcF_one, hb.2.1]
  unfold foldL
  rw [List.flatMap_append]
  simp [hb.2.2.2.1]
theorem arts_last : ∀ {lang a : List UInt8}, a ∈ artsOf lang → a.getLast? ≠ some 32 := by
  intro lang a ha
  have hall : (artT.all fun l => l.all fun a => !(a.getLast? == some 32)) = true := by decide +kernel
  unfold artsOf at ha
  cases hf : (langT.zip artT).find? fun p => p.1 == lang with
  | none => rw [hf] at ha; cases ha
  | some p =>
    rw [hf] at ha
    have hp := (List.of_mem_zip (List.mem_of_find?_eq_some hf)).2
    have h1 := List.all_eq_true.1 (List.all_eq_true.1 hall _ hp) a ha
    intro e
    rw [e] at h1
    cases h1
theorem art_rest {lang s : List UInt8} (h : skipN lang s ≠ 0) : skipN lang s < s.length ∧ s[skipN lang s]? ≠ some 32 ∧ nFold (trimB (s.take (skipN lang s))) ∈ artsOf lang ∧ ∃ t, invN lang s = s.drop (skipN lang s) ++ [44, 32] ++ t := by
  obtain ⟨p, m, a, h1, h2, h3, h4, h5, h6, h7, h8, hcase⟩ := skip_split h
  have htk : s.take (encL p).length = encL p := by
    conv => lhs; rw [h2]
    exact List.take_left
  have hinv : ∃ t, invN lang s = s.drop (skipN lang s) ++ [44, 32] ++ t := ⟨s.take (beginN lang s).1, by have h' : ¬ (beginN lang s).2 = 0 := h; unfold invN; rw [if_neg h']; rfl⟩
  rw [← h4] at hinv ⊢
  refine ⟨?_, ?_, ?_, hinv⟩
  · rw [h2, List.length_append]
    have := enc_head_len h6
    omega
  · intro e
    refine h7 ?_
    rw [h2, List.getElem?_append_right (Nat.le_refl _), Nat.sub_self, ← List.head?_eq_getElem?] at e
    exact e
  · rw [htk]
    rcases hcase with ⟨_, g2, _⟩ | ⟨q, k, e, hk, g2, g3, _⟩
    · have hl : (encL p).getLast? ≠ some 32 := fun e => by
        obtain ⟨q, rfl⟩ := last_enc h3 e
        rw [fold_enc h3, fold_last, encL_app] at g2
        refine arts_last h8 ?_
        rw [← g2]
        simp [encL, encC]
      rw [trim_same hl, g2]
      exact h8
    · subst e
      have hq : ∀ c ∈ q, okC c := fun c hc => h3 c (List.mem_append_left _ hc)
      rw [encL_app, rep_enc, trim_rep, trim_same, g2]
      · exact h8
      · intro e
        obtain ⟨q', rfl⟩ := last_enc hq e
        exact g3 (by simp)

end Go.Proofs.YtbnchnbblchmnaaGreatDoor

namespace Go.Proofs.YtbnchnbblchmnaaGreatDoor

/-- A character whose folded form holds an apostrophe is one, or the wide one. -/
def apoC (c : Nat) : Bool := !(((wholeR c).flatMap low1).contains 39) || Nat.beq c 39 || Nat.beq c 65287
theorem chars_apo : (charL.all apoC) = true := by kernel_rfl
theorem apo_char {c : Nat} (h : hasN c = true) (hm : 39 ∈ (wholeR c).flatMap low1) : c = 39 ∨ c = 65287 := by
  have h1 := List.all_eq_true.1 chars_apo c ((char_mem c).2 h)
  unfold apoC at h1
  rw [List.contains_iff_mem.2 hm] at h1
  simpa using h1
theorem fold_mem39 {p : List Nat} (hp : ∀ c ∈ p, hasN c = true) (h : 39 ∈ foldL (dcF p)) : ∃ c ∈ p, c = 39 ∨ c = 65287 := by
  unfold foldL at h
  obtain ⟨y, hy, h1⟩ := List.mem_flatMap.1 h
  obtain ⟨c, hc, h2⟩ := mem_dcF.1 hy
  exact ⟨c, hc, apo_char (hp c hc) (List.mem_flatMap.2 ⟨y, h2, h1⟩)⟩
theorem fold_ok {p : List Nat} (hp : ∀ c ∈ p, okC c) : ∀ y ∈ foldL (dcF p), y < 65536 := by
  have h := nFL_dec (encL p)
  unfold nFL at h
  rw [nL_enc hp] at h
  exact fun y hy => (ok_of_has (h.1 y hy)).1
theorem apo_mem {a : List UInt8} (h : apoB a = true) : (39 : UInt8) ∈ a := by
  unfold apoB at h
  exact List.mem_of_getLast? (by simpa using h)
theorem art_others {lang s : List UInt8} (h : artsOf lang = [] ∨ (32 ∉ s ∧ 39 ∉ s ∧ ¬ ∃ a b, s = a ++ [239, 188, 135] ++ b)) : skipN lang s = 0 ∧ stripN lang s = s ∧ invN lang s = s := by
  have h0 : skipN lang s = 0 := by
    by_cases hz : skipN lang s = 0
    · exact hz
    · exfalso
      obtain ⟨p, m, a, h1, h2, h3, h4, h5, h6, h7, h8, hcase⟩ := skip_split hz
      rcases h with h | ⟨n1, n2, n3⟩
      · rw [h] at h8; cases h8
      · rcases hcase with ⟨g1, g2, _⟩ | ⟨q, k, e, hk, _⟩
        · have hm := apo_mem g1
          rw [← g2, fold_enc h3, mem_encL] at hm
          obtain ⟨y, hy, h39⟩ := hm
          have hyy := (encC_ascii (b := 39) (by decide) (fold_ok h3 y hy)).1 h39
          rw [hyy] at hy
          have hhas : ∀ c ∈ p, hasN c = true := fun c hc => by
            have h9 := h3 c hc
            have hk9 := h9.2
            rw [← hasN_eq]
            show (kindR (c : Int) != 0) = true
            simpa using hk9
          obtain ⟨c, hc, hcc⟩ := fold_mem39 hhas hy
          rcases hcc with rfl | rfl
          · refine n2 ?_
            rw [h2]
            exact List.mem_append_left _ (mem_encL.2 ⟨39, hc, (encC_ascii (b := 39) (by decide) (by decide)).2 rfl⟩)
          · refine n3 ?_
            obtain ⟨p1, p2, rfl⟩ := List.append_of_mem hc
            refine ⟨encL p1, encL p2 ++ encL m, ?_⟩
            rw [h2, encL_app, encL, show encC 65287 = [239, 188, 135] by decide]
            simp
        · refine n1 ?_
          subst e
          rw [h2, encL_app, rep_enc]
          refine List.mem_append_left _ (List.mem_append_right _ ?_)
          exact List.mem_replicate.2 ⟨by omega, rfl⟩
  refine ⟨h0, ?_, ?_⟩
  · unfold stripN; rw [h0]; rfl
  · have h0' : (beginN lang s).2 = 0 := h0
    unfold invN
    rw [if_pos h0']

end Go.Proofs.YtbnchnbblchmnaaGreatDoor
