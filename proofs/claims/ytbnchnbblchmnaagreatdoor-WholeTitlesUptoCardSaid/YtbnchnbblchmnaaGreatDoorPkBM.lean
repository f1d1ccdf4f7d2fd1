/-
  The reference's elements of collate: what its loops hold, in plain mathematics; the laws of slices that it wants.
  The reference's elements of collate.
  The program's prepare: the letters of a tailoring with their characters and weights.
-/
import Derived.Test.YtbnchnbblchmnaaGreatDoorPkBL
import Derived.Lib.MinMax
import Derived.Test.YtbnchnbblchmnaaGreatDoorPkBK
namespace Go.Proofs.YtbnchnbblchmnaaGreatDoor
open Go.RowKit

/-- A letter of a tailoring as the model holds it. -/
def rv (x : RuleL) : List Value := [.string (str x.1), .string (str x.2)]
theorem rv_len (x : RuleL) : (rv x).length = 2 := rfl
theorem rv_one (x : RuleL) : ∀ u ∈ rv x, u.oneCell' = true := by
  intro u hu
  simp only [rv, List.mem_cons, List.not_mem_nil, or_false] at hu
  rcases hu with rfl | rfl <;> rfl
theorem lets_cells {w : World} {B n c : Nat} {A : Option Addr} {t : List RuleL} (h : SArr 2 rv w B (.slice A n c) t) (h0 : 0 < n) :
    ∃ b off, A = some ⟨b, off, none⟩ ∧ b < B ∧ ∀ (i : Nat) (x : RuleL), t[i]? = some x → w.cell? ⟨b, off + i * 2, none⟩ = some (.string (str x.1)) ∧ w.cell? ⟨b, off + i * 2 + 1, none⟩ = some (.string (str x.2)) := by
  obtain ⟨b, off, e, hb, hc⟩ := h.some_ rv_len (by decide) h0
  exact ⟨b, off, e, hb, fun i x hx => ⟨hc i x hx 0 _ rfl, hc i x hx 1 _ rfl⟩⟩

/-! The search for the longest Text. -/
def BestK (T : List LetL) (l : List Nat) (k : Nat) (z : Int) (m : Nat) : Prop :=
  (z = -1 ∧ m = 0 ∧ (T.zipIdx.take k).foldl (stepC l) none = none) ∨ ∃ j, z = ((j : Nat) : Int) ∧ j < T.length ∧ (T.zipIdx.take k).foldl (stepC l) none = some (j, m)
theorem bestK_zero (T : List LetL) (l : List Nat) : BestK T l 0 (-1) 0 := .inl ⟨rfl, rfl, by simp⟩
theorem bestK_len {T : List LetL} {l : List Nat} {k m : Nat} {z : Int} (h : BestK T l k z m) : lenB ((T.zipIdx.take k).foldl (stepC l) none) = m := by
  rcases h with ⟨_, h2, h3⟩ | ⟨j, _, _, h3⟩
  · rw [h3, h2]; rfl
  · rw [h3]; rfl
theorem foldK_next {T : List LetL} {k : Nat} {x : LetL} (hx : T[k]? = some x) (l : List Nat) : (T.zipIdx.take (k + 1)).foldl (stepC l) none = stepC l ((T.zipIdx.take k).foldl (stepC l) none) (x, k) := by
  have h : T.zipIdx[k]? = some (x, k) := by rw [List.getElem?_zipIdx, hx]; simp
  rw [take_next h, List.foldl_append]
  rfl
theorem step_no {l : List Nat} {o : Option (Nat × Nat)} {x : LetL} {k : Nat} (h : ¬(passB l x.1 = true ∧ lenB o < x.1.length)) : stepC l o (x, k) = o := if_neg h
theorem step_yes {l : List Nat} {o : Option (Nat × Nat)} {x : LetL} {k : Nat} (h : passB l x.1 = true ∧ lenB o < x.1.length) : stepC l o (x, k) = some (k, x.1.length) := if_pos h
theorem bestK_no {T : List LetL} {l : List Nat} {k m : Nat} {z : Int} {x : LetL} (h : BestK T l k z m) (hx : T[k]? = some x) (hb : ¬(passB l x.1 = true ∧ m < x.1.length)) : BestK T l (k + 1) z m := by
  have hl := bestK_len h
  have e : (T.zipIdx.take (k + 1)).foldl (stepC l) none = (T.zipIdx.take k).foldl (stepC l) none := by
    rw [foldK_next hx]
    exact step_no (by rw [hl]; exact hb)
  unfold BestK at h ⊢
  rw [e]
  exact h
theorem bestK_yes {T : List LetL} {l : List Nat} {k m : Nat} {z : Int} {x : LetL} (h : BestK T l k z m) (hx : T[k]? = some x) (hb : passB l x.1 = true) (hm : m < x.1.length) : BestK T l (k + 1) (k : Int) x.1.length := by
  have hl := bestK_len h
  refine .inr ⟨k, rfl, (List.getElem?_eq_some_iff.1 hx).1, ?_⟩
  rw [foldK_next hx]
  exact step_yes ⟨hb, by rw [hl]; exact hm⟩
theorem bestK_all {T : List LetL} {l : List Nat} {m : Nat} {z : Int} (h : BestK T l T.length z m) : (z = -1 ∧ bestC T l = none) ∨ ∃ j, z = ((j : Nat) : Int) ∧ j < T.length ∧ bestC T l = some (j, m) := by
  have e : (T.zipIdx.take T.length).foldl (stepC l) none = bestC T l := by
    rw [List.take_of_length_le (by rw [List.length_zipIdx]; exact Nat.le_refl _)]
    rfl
  unfold BestK at h
  rw [e] at h
  rcases h with ⟨h1, _, h3⟩ | h
  · exact .inl ⟨h1, h3⟩
  · exact .inr h

/-! One step. -/
theorem elems_fuel (T : List LetL) : ∀ (f g : Nat) (l : List Nat), l.length ≤ f → l.length ≤ g → elemsF f T l = elemsF g T l
  | 0, g, l, h, _ => by
    obtain rfl := List.length_eq_zero_iff.1 (Nat.le_zero.1 h)
    cases g <;> rfl
  | f + 1, 0, l, _, h => by
    obtain rfl := List.length_eq_zero_iff.1 (Nat.le_zero.1 h)
    rfl
  | f + 1, g + 1, [], _, _ => rfl
  | f + 1, g + 1, c :: l, hf, hg => by
    simp only [List.length_cons] at hf hg
    rw [elemsF, elemsF]
    cases hb : bestC T (c :: l) with
    | none =>
      simp only
      rw [elems_fuel T f g l (by omega) (by omega)]
    | some b =>
      simp only
      have h0 := (best_some hb).choose_spec.2.2.1
      have hl : ((c :: l).drop b.2).length ≤ l.length := by rw [List.length_drop, List.length_cons]; omega
      rw [elems_fuel T f g _ (by omega) (by omega)]
theorem elemsL_none {T : List LetL} {c : Nat} {l : List Nat} (h : bestC T (c :: l) = none) : elemsL T (c :: l) = singleL c ++ elemsL T l := by
  show elemsF (l.length + 1) T (c :: l) = _
  rw [elemsF, h]
  rfl
theorem elemsL_some {T : List LetL} {l : List Nat} {b : Nat × Nat} (h : bestC T l = some b) : elemsL T l = tailEl T l b :: elemsL T (l.drop b.2) := by
  obtain ⟨x, _, _, h0, _, hl⟩ := best_some h
  cases l with
  | nil => simp at hl; omega
  | cons c l =>
    show elemsF (l.length + 1) T (c :: l) = _
    rw [elemsF, h]
    simp only
    have hd : ((c :: l).drop b.2).length ≤ l.length := by rw [List.length_drop, List.length_cons]; omega
    unfold elemsL
    rw [elems_fuel T l.length _ _ hd (Nat.le_refl _)]
theorem elemsL_nil (T : List LetL) : elemsL T [] = [] := rfl

/-! Tails of a slice of numbers; a slice of structs behind a row of the call's own. -/
theorem tail_any {w : World} {B b o n c : Nat} {l : List Nat} (h : Arr nv w B (.slice (some ⟨b, o, none⟩) n c) l) (k : Nat) (hk : k ≤ n) :
    ∃ V, (∀ W : World, (Instr.sliceAt 27 (.slice (some ⟨b, o, none⟩) n c) (some (.int .i64 (k : Int))) none none).run Tryz.prog W = .ok V W) ∧ ∀ v, (∀ p : Addr, p.block < B → v.cell? p = w.cell? p) → Arr nv v B V (l.drop k) := by
  have hl := h.len
  have hcap := h.cap
  by_cases hkc : k < c
  · refine ⟨_, fun W => slice_tail _ elem_ints size_elem_int b o n k c hk hkc W, fun v hv => ?_⟩
    rcases h.keep hv with ⟨e, _⟩ | ⟨a, c', e, _, hb, hc⟩
    · cases e
    · injection e with e1 e2 e3
      injection e1 with e1
      subst e1 e3
      refine .inr ⟨⟨b, o + k, none⟩, c - k, by rw [List.length_drop, hl], by rw [List.length_drop]; omega, fun h0 => by rw [List.length_drop] at h0; exact hb (by omega), fun i u hu => ?_⟩
      rw [List.getElem?_drop] at hu
      have := hc (k + i) u hu
      rw [add_plain] at this ⊢
      rw [Nat.add_assoc]
      exact this
  · obtain rfl : k = n := by omega
    obtain rfl : k = c := by omega
    refine ⟨.slice (some ⟨b, o, none⟩) 0 0, fun W => ?_, fun v _ => ?_⟩
    · rw [run_sliceAt_slice W _ _ _ _ _ elem_ints, run_slice_l W _ _ k k elem_ints .i64 (k : Int) (by omega) (by omega), size_elem_int]
      simp [Result.andThen, sliced]
    · rw [List.drop_of_length_le (by omega)]
      exact .inr ⟨⟨b, o, none⟩, 0, rfl, by simp, by simp, by simp⟩
theorem append_structs {P : Program} {α : Type} {sz : Nat} {val : α → List Value} (t e : TypeId) (z : Value) (bytes : Nat) (ht : P.underlying t = some (.slice e)) (info : (P.info? e).map (fun i => (i.zero, i.size, i.bytes)) = some (some z, sz, bytes))
    (hzs : z.cells.size = sz) (hs0 : 0 < sz) (hbytes : bytes ≤ 100) (hv : ∀ x, (val x).length = sz) (hval : ∀ x, ∀ u ∈ val x, u.oneCell' = true)
    {ops : Array Oper} {rest : List Oper} {o : Oper} {a : Act} {Q : Exit → Act → World → Prop} (w : World) (hgd : o.guard = none) (s x : Operand)
    (ho : o.op = .call { callee := .builtin .append, args := #[s, x], argTypes := #[t, t] })
    (base B : Nat) (v : Value) (xs : List α) (hs : a.eval s = v) (hown : w.ownsRow base e sz v xs.length (xs.flatMap val)) (ys : List α) (V : Value)
    (hx : a.eval x = V) (hV : SArr sz val w B V ys) (h0 : 0 < ys.length) (hlen : xs.length + ys.length ≤ 1000000000000) (hbase : base ≤ w.heap.size)
    (h : ∀ v' w', w'.ownsRow base e sz v' (xs ++ ys).length ((xs ++ ys).flatMap val) → Below base w w' → wpList P ops Q rest (a.put o.dst v') w') : wpList P ops Q (o :: rest) a w := by
  obtain ⟨i0, hi, hz0, hz1, hz2⟩ := info_parts info
  obtain ⟨A, c, rfl⟩ := hV.form
  obtain ⟨b, off, rfl, _, hc⟩ := hV.some_ hv hs0 h0
  have hfl : (ys.flatMap val).length = ys.length * sz := flat_len hv ys
  refine wpList_append_own w hgd s x t ho base e i0 z sz bytes ht hi hz0 hz1 hz2 hzs hs0 v xs.length (xs.flatMap val) hs hown ⟨b, off, none⟩ ys.length c (ys.flatMap val) hx hfl (fun j u hu => ?_)
    (fun u hu => by obtain ⟨y, _, hy⟩ := List.mem_flatMap.1 hu; exact hval y u hy) (by unfold maxLen; omega) (by have := Nat.mul_le_mul (show xs.length + ys.length ≤ 1000000000000 by omega) hbytes; omega) hbase ?_
  · have hj : j < ys.length * sz := by rw [← hfl]; exact (List.getElem?_eq_some_iff.1 hu).1
    have hq : j / sz < ys.length := Nat.div_lt_of_lt_mul (by rw [Nat.mul_comm]; exact hj)
    have hr : j % sz < sz := Nat.mod_lt _ hs0
    obtain ⟨y, hy⟩ : ∃ y, ys[j / sz]? = some y := ⟨_, List.getElem?_eq_getElem hq⟩
    obtain ⟨u', hu'⟩ : ∃ u', (val y)[j % sz]? = some u' := ⟨_, List.getElem?_eq_getElem (by rw [hv]; exact hr)⟩
    have h1 := flat_at hv ys (j / sz) y (j % sz) u' hy hu'
    have h2 := hc (j / sz) y hy (j % sz) u' hu'
    have ej : j / sz * sz + j % sz = j := by rw [Nat.mul_comm]; exact Nat.div_add_mod j sz
    rw [ej] at h1
    rw [Nat.add_assoc, ej] at h2
    rw [h1] at hu
    rw [add_plain, h2, Option.some.inj hu]
  · intro v' w' h1 h2 _
    exact h v' w' (by rw [List.length_append, List.flatMap_append]; exact h1) ((Below.refl _ _).grown h2 hbase fun k hk => (hown.lt k hk).1)

end Go.Proofs.YtbnchnbblchmnaaGreatDoor

namespace Go.Proofs.YtbnchnbblchmnaaGreatDoor
open Go.RowKit

theorem below_put6 {w w' : World} {B k i : Nat} (h : Below B w w') (hk : B ≤ k) (v : Value) : Below B w (w'.setCell ⟨k, i, none⟩ v) :=
  ⟨h.os, h.tape, h.output, by rw [World.size_setCell]; exact h.size, fun j hj => (Below.heap_setCell w' ⟨k, i, none⟩ v j (by show j ≠ k; omega)).trans (h.block j hj)⟩
theorem let_facts {t : List RuleL} (hv : validT t = true) : ∀ x ∈ t, decR x.1 = some (nL x.1) ∧ (nL x.1).length ≤ 4 ∧ x.1.length ≤ 12 ∧ decR x.2 = some [(letL x).2] ∧ x.2.length ≤ 3 ∧ Asked (letL x).2 := by
  intro x hx
  have h := hv
  unfold validT preT at h
  simp only [Bool.and_eq_true, decide_eq_true_eq, List.all_eq_true] at h
  have h1 := h.1.1 x hx
  unfold letB at h1
  rw [Bool.and_eq_true] at h1
  obtain ⟨c, l, k1, k2, k3, _, _, _, k7⟩ := text_facts h1.1
  obtain ⟨d, j1, j2, _, j4, j5⟩ := after_facts h1.2
  have e : (letL x).2 = d := by show (nL x.2).headD 0 = d; rw [j2]; rfl
  have hD := (dec_dc x.2)
  refine ⟨by rw [k1, k2], by rw [k2]; exact k3, ?_, by rw [e]; exact j1, ?_, ?_⟩
  · have := encL_len (c :: l)
    rw [k7] at this
    omega
  · have := encL_len [d]
    rw [j5] at this
    simpa using this
  · rw [e]
    exact ⟨j4.has, j4.whole⟩
/-- The slice behind the first number, as the walk reckons it. -/
theorem tail_one {w : World} {B b o n c : Nat} {l : List Nat} (h : Arr nv w B (.slice (some ⟨b, o, none⟩) n c) l) (hn : 1 ≤ n) :
    ∃ A, (if c = 1 then some (⟨b, o, none⟩ : Addr) else some ⟨b, o + 1, none⟩) = A ∧ Arr nv w B (.slice A (n - 1) (c - 1)) (l.drop 1) := by
  refine ⟨_, rfl, ?_⟩
  have hl := h.len
  have hcap := h.cap
  rcases h with ⟨e, _⟩ | ⟨a, c', e, _, hb, hc⟩
  · cases e
  · injection e with e1 e2 e3
    injection e1 with e1
    subst e1 e3
    by_cases h1 : c = 1
    · rw [if_pos h1]
      have hd : l.drop 1 = [] := List.drop_of_length_le (by omega)
      rw [hd]
      refine .inr ⟨⟨b, o, none⟩, c - 1, by simp; omega, by simp, by simp, by simp⟩
    · rw [if_neg h1]
      refine .inr ⟨⟨b, o + 1, none⟩, c - 1, by rw [List.length_drop, hl], by rw [List.length_drop]; omega, fun h0 => by rw [List.length_drop] at h0; exact hb (by omega), fun i u hu => ?_⟩
      rw [List.getElem?_drop] at hu
      have := hc (1 + i) u hu
      rw [add_plain] at this ⊢
      rw [Nat.add_assoc]
      exact this
def lenOf : Value → Nat
  | .slice _ n _ => n
  | _ => 0

end Go.Proofs.YtbnchnbblchmnaaGreatDoor

namespace Go.Proofs.YtbnchnbblchmnaaGreatDoor
open Go.RowKit

theorem tlv_one {y : Value × Nat} (h : y.1.oneCell' = true) : ∀ u ∈ tlv y, u.oneCell' = true := by
  intro u hu
  simp only [tlv, List.mem_cons, List.not_mem_nil, or_false] at hu
  rcases hu with rfl | rfl
  · exact h
  · rfl
/-- A letter that is kept: its Text a slice. -/
abbrev Tl := (Option Addr × Nat × Nat) × Nat
def tlw (y : Tl) : List Value := [.slice y.1.1 y.1.2.1 y.1.2.2, .int .i64 (y.2 : Int)]
theorem tlw_len (y : Tl) : (tlw y).length = 2 := rfl
theorem tlw_one (y : Tl) : ∀ u ∈ tlw y, u.oneCell' = true := by
  intro u hu
  simp only [tlw, List.mem_cons, List.not_mem_nil, or_false] at hu
  rcases hu with rfl | rfl <;> rfl
theorem info_tail : (Tryz.prog.info? 108).map (fun i => (i.zero, i.size, i.bytes)) = some (some (.agg #[.slice none 0 0, .int .i64 0]), 2, 32) := by kernel_rfl
def PrepTo (w : World) (base : Nat) (t : List RuleL) (ys : List Tl) : Prop :=
  ∀ (i : Nat) (y : Tl) (x : RuleL), ys[i]? = some y → t[i]? = some x → w.ownsRow base 3 1 (.slice y.1.1 y.1.2.1 y.1.2.2) (nL x.1).length ((nL x.1).map nv) ∧ y.2 = lwN (letL x).2 + i + 1
theorem PrepTo.keep {w w' : World} {base : Nat} {t : List RuleL} {ys : List Tl} (h : PrepTo w base t ys) (hk : ∀ (v : Value) (n : Nat) (xs : List Value), w.ownsRow base 3 1 v n xs → w'.ownsRow base 3 1 v n xs) : PrepTo w' base t ys :=
  fun i y x hy hx => ⟨hk _ _ _ (h i y x hy hx).1, (h i y x hy hx).2⟩
theorem PrepTo.next {w : World} {base : Nat} {t : List RuleL} {ys : List Tl} {y : Tl} {x : RuleL} (h : PrepTo w base t ys) (hx : t[ys.length]? = some x) (h1 : w.ownsRow base 3 1 (.slice y.1.1 y.1.2.1 y.1.2.2) (nL x.1).length ((nL x.1).map nv)) (h2 : y.2 = lwN (letL x).2 + ys.length + 1) : PrepTo w base t (ys ++ [y]) := by
  intro i z u hz hu
  rcases Nat.lt_trichotomy i ys.length with hi | hi | hi
  · rw [List.getElem?_append_left hi] at hz
    exact h i z u hz hu
  · subst hi
    rw [List.getElem?_append_right (Nat.le_refl _), Nat.sub_self] at hz
    simp at hz
    subst hz
    rw [hx] at hu
    rw [← Option.some.inj hu]
    exact ⟨h1, h2⟩
  · have := (List.getElem?_eq_some_iff.1 hz).1
    simp at this
    omega
theorem PrepTo.all {w : World} {base : Nat} {t : List RuleL} {ys : List Tl} {v : Value} (h : PrepTo w base t ys) (hown : w.ownsRow base 108 2 v ys.length (ys.flatMap tlw)) (hl : ys.length = t.length) : Ltt w w.heap.size v (t.map letL) := by
  refine ⟨ys.map fun y => (.slice y.1.1 y.1.2.1 y.1.2.2, y.2), ?_, by rw [List.length_map, List.length_map, hl], fun i y x hy hx => ?_⟩
  · have e : ys.flatMap tlw = (ys.map fun y => ((.slice y.1.1 y.1.2.1 y.1.2.2 : Value), y.2)).flatMap tlv := by rw [List.flatMap_map]; rfl
    rw [e] at hown
    refine SArr.of_own tlv_len (base := base) (e := 108) ?_
    rw [List.length_map]
    exact hown
  · rw [List.getElem?_map] at hy hx
    obtain ⟨y', hy', rfl⟩ := Option.map_eq_some_iff.1 hy
    obtain ⟨x', hx', rfl⟩ := Option.map_eq_some_iff.1 hx
    obtain ⟨h1, h2⟩ := h i y' x' hy' hx'
    exact ⟨Arr.of_own h1, h2⟩
theorem let_weight {t : List RuleL} (hv : validT t = true) {x : RuleL} (hx : x ∈ t) : 97 ≤ (letL x).2 ∧ (letL x).2 ≤ 100000 ∧ lwN (letL x).2 ≤ 10000000 := by
  obtain ⟨h1, h2⟩ := (valid_let hv).after (letL x) (List.mem_map.2 ⟨x, hx, rfl⟩)
  obtain ⟨h3, h4⟩ := af_weight h1 h2
  have h5 := (ok_of_has h1.has).1
  have h6 := prim_bound h1.has h1.whole
  omega

set_option maxRecDepth 100000 in
set_option maxHeartbeats 6400000 in
theorem prPrepare_any (A : Option Addr) (n c : Nat) (t : List RuleL) (w : World) (hS : Spans w) (h : SArr 2 rv w w.heap.size (.slice A n c) t) (hv : validT t = true) :
    Calls Tryz.prog 38 #[.slice A n c] w fun e w' => ∃ A' n' c', e = .returned (.slice A' n' c') ∧ Ltt w' w'.heap.size (.slice A' n' c') (t.map letL) ∧ Below w.heap.size w w' := by
  have HL := Lib.hid h.len
  have hfew : n ≤ 40 := by
    have := (valid_let hv).few
    rw [List.length_map, h.len] at this
    exact this
  have HF := Lib.hid (let_facts hv)
  have HWt := Lib.hid (fun (x : RuleL) (hx : x ∈ t) => let_weight hv hx)
  have HS := Lib.hid hS
  clear hS hv
  go_enter Tryz.func38, Tryz.ntmps38
  go_wp2
  go_loopw [3, 12] (fun lv iv_ wr => ∃ (k : Nat) (ys : List Tl), k ≤ n ∧ iv_ = .int .i64 (k : Int) ∧ Hid (ys.length = k) ∧ wr.ownsRow w.heap.size 108 2 lv ys.length (ys.flatMap tlw) ∧ Hid (PrepTo wr w.heap.size t ys) ∧ Below w.heap.size w wr) (fun _ iv_ _ => n - (intOf iv_).toNat)
  case atStart => exact ⟨0, [], by omega, rfl, Lib.hid rfl, World.ownsRow_nil _ _ _ _, Lib.hid (fun i y x hy => by simp at hy), Below.refl _ _⟩
  case round =>
    obtain ⟨k, ys, hk, rfl, HY, hown, HP, hb⟩ := hrel
    by_cases hlt : k < n
    · have t1 : decide ((k : Int) < (n : Int)) = true := by simp; omega
      have t1' : decide (k < n) = true := by simpa using hlt
      have kz : (k : Int) < (n : Int) := by omega
      obtain ⟨b0, p0, rfl, hB0, hc0⟩ := lets_cells h (by omega)
      obtain ⟨x, hx⟩ : ∃ x, t[k]? = some x := ⟨_, List.getElem?_eq_getElem (by have := HL.out; omega)⟩
      have d0 := (hb.cell (p := ⟨b0, p0 + k * 2, none⟩) hB0).trans (hc0 k x hx).1
      have d1 := (hb.cell (p := ⟨b0, p0 + k * 2 + 1, none⟩) hB0).trans (hc0 k x hx).2
      obtain ⟨f1, f2, f3, f4, f5, f6⟩ := HF.out x (List.mem_of_getElem? hx)
      obtain ⟨g1, g2, g3⟩ := HWt.out x (List.mem_of_getElem? hx)
      have HX := Lib.hid hx
      have HD1 := Lib.hid fun (W : World) (hW : Below w.heap.size w W) => prDecode_any x.1 W (HS.out.below hW) (by omega)
      have HD2 := Lib.hid fun (W : World) (hW : Below w.heap.size w W) => prDecode_any x.2 W (HS.out.below hW) (by omega)
      rw [f1] at HD1
      rw [f4] at HD2
      obtain ⟨x1, x2⟩ := x
      obtain ⟨a, ha⟩ : ∃ a, (letL (x1, x2)).2 = a := ⟨_, rfl⟩
      rw [ha] at HD2 g1 g2 g3
      have HA := Lib.hid ha
      have HW := Lib.hid (fun W => prWeight_any (a : Int) W (by omega) (by omega))
      rw [lw_eq g1] at HW
      obtain ⟨pw, hpw⟩ : ∃ pw, lwN a = pw := ⟨_, rfl⟩
      rw [hpw] at HW g3
      have HPw := Lib.hid hpw
      have hbV : Below w.heap.size w (wr.alloc (.cells #[.string (str x1), .string (str x2)] 105)) := below_new hb _
      have hownV := own_keep_below hown ((Below.refl wr.heap.size wr).alloc (Nat.le_refl _) (.cells #[.string (str x1), .string (str x2)] 105))
      have HPV := Lib.hid (HP.out.keep (w' := wr.alloc (.cells #[.string (str x1), .string (str x2)] 105)) fun v n xs h => own_keep_below h ((Below.refl wr.heap.size wr).alloc (Nat.le_refl _) _))
      have hboxV := Box.made wr 105 #[.string (str x1), .string (str x2)]
      obtain ⟨V, hV⟩ : ∃ V, wr.alloc (.cells #[.string (str x1), .string (str x2)] 105) = V := ⟨_, rfl⟩
      have hVs : V.heap.size = wr.heap.size + 1 := by rw [← hV]; simp
      rw [hV] at hbV hownV HPV hboxV
      have e0 : V.cell? ⟨wr.heap.size, 0, none⟩ = some (.string (str x1)) := hboxV.cell 0
      have e1 : V.cell? ⟨wr.heap.size, 1, none⟩ = some (.string (str x2)) := hboxV.cell 1
      have s1 : IntKind.i64.wrap ((pw : Int) + (k : Int)) = (pw : Int) + (k : Int) := wraps_i64 _ (by omega) (by omega)
      have s2 : IntKind.i64.wrap ((pw : Int) + (k : Int) + 1) = (pw : Int) + (k : Int) + 1 := wraps_i64 _ (by omega) (by omega)
      clear hc0 hx f1 f2 f4 ha hpw hown HP
      go_wp2_with fail
      refine (HD1.out _ hbV).mono ?_
      rintro e w5 ⟨hde, k5⟩
      obtain ⟨A2, n2, c2, b', rfl, hcase⟩ := hde.form
      rcases hcase with ⟨rfl, l', hl', hn2, -, hO2⟩ | ⟨rfl, h', -⟩
      case inr => cases h'
      obtain rfl := Option.some.inj hl'
      have hO5 := own_less (show w.heap.size ≤ V.heap.size from hbV.size) hO2
      have e5 : w5.cell? ⟨wr.heap.size, 1, none⟩ = some (.string (str x2)) := (k5.cell (p := ⟨wr.heap.size, 1, none⟩) (by show wr.heap.size < V.heap.size; omega)).trans e1
      have hown5 := own_keep_below hownV k5
      have HP5 := Lib.hid (HPV.out.keep fun v n xs h => own_keep_below h k5)
      have hb5 : Below w.heap.size w w5 := below_next hbV k5
      clear hde hl' hO2 hownV HPV e0 e1 hn2
      go_wp2_with fail
      refine (HD2.out _ hb5).mono ?_
      rintro e w6 ⟨hde, k6⟩
      obtain ⟨A3, n3, c3, b', rfl, hcase⟩ := hde.form
      rcases hcase with ⟨rfl, l', hl', hn3, hA3, -⟩ | ⟨rfl, h', -⟩
      case inr => cases h'
      obtain rfl := Option.some.inj hl'
      obtain rfl : n3 = 1 := hn3
      obtain ⟨a3, q3, rfl, hA3b, hc3⟩ := hA3.some_ (by decide)
      have d2 : w6.cell? ⟨a3, q3, none⟩ = some (.int .i64 (a : Int)) := hc3 0 a rfl
      have hO6 := own_keep_below hO5 k6
      have hown6 := own_keep_below hown5 k6
      have HP6 := Lib.hid (HP5.out.keep fun v n xs h => own_keep_below h k6)
      have hb6 : Below w.heap.size w w6 := below_next hb5 k6
      have hb6s := hb6.size
      have hyl : ys.length ≤ 1000000000000 - 1 := by rw [HY.out]; omega
      clear hde hl' hc3 hA3 hO5 hown5 HP5
      go_wp2_with fail
      refine (HW.out _).mono ?_
      rintro e w7 ⟨rfl, rfl⟩
      go_wp2_with (at_builtin; refine append_struct_g (val := tlw) 68 108 (.agg #[.slice none 0 0, .int .i64 0]) 32 Tryz.underlying68 info_tail rfl (by decide) (by decide) tlw_len tlw_one _ rfl (.tmp 29) (.tmp 39) rfl w.heap.size _ ys rfl hown6 ((A2, n2, c2), pw + k + 1) #[.slice A2 n2 c2, .int .i64 ((pw : Int) + (k : Int) + 1)] (by simp [tlw]) _ rfl rfl hyl hb6s ?_; intro v8 w8 hown8 hg8)
      have HP8 := Lib.hid ((HP6.out.keep fun v n xs h => own_apart h hown6 (by decide) hg8).next (y := ((A2, n2, c2), pw + k + 1)) (by rw [HY.out]; exact HX.out) (own_apart hO6 hown6 (by decide) hg8) (by rw [HA.out, HPw.out, HY.out]))
      have hb8 := hb6.trans (below_own hown6 hb6s hg8)
      go_wp2
      go_roundw
      case rel => exact ⟨k + 1, ys ++ [((A2, n2, c2), pw + k + 1)], by omega, by go_num, Lib.hid (by rw [List.length_append, HY.out]; rfl), hown8, HP8, hb8⟩
      case measure => simp [intOf]; omega
    · obtain rfl : k = n := by omega
      have t1 : decide ((k : Int) < (k : Int)) = false := by simp
      have t1' : decide (k < k) = false := by simp
      have HE := Lib.hid (HP.out.all hown (by rw [HY.out, HL.out]))
      obtain ⟨A4, c4, h4⟩ := (SArr.of_own tlw_len hown).form
      subst h4
      go_wp2
      go_ret
      exact ⟨_, _, _, rfl, HE.out, hb⟩

end Go.Proofs.YtbnchnbblchmnaaGreatDoor
