/-
  Rows of the call's own beside other blocks: what keeps a row, append of a struct with the row alone changed.
  The reference's letter, capital, order, passes of collate.
  The reference's single of collate: the elements of a character.
  The reference's single of collate: a letter with a search form.
  The program's elements of a character that is passed alone.
-/
import Derived.Test.YtbnchnbblchmnaaGreatDoorPkAY
import Derived.WalkSmall
import Derived.Test.YtbnchnbblchmnaaGreatDoorPkAM
import Derived.Test.YtbnchnbblchmnaaGreatDoorPkBF
import Derived.Deep.RegionHeld3
import Derived.Test.YtbnchnbblchmnaaGreatDoorPkBK
import Derived.Test.YtbnchnbblchmnaaGreatDoorPkBI
import Derived.Laws.Runes
namespace Go.Proofs.YtbnchnbblchmnaaGreatDoor
open Go.RowKit

theorem own_blockG {w : World} {base e size n : Nat} {v : Value} {xs : List Value} (h : w.ownsRow base e size v n xs) {g : Nat} (hg : v.ownBlock = some g) : base ≤ g ∧ ∃ cur, w.heap[g]? = some (.cells cur e (0, 0)) := by
  rcases h.2 with ⟨rfl, _⟩ | ⟨g', cap, cur, rfl, hb, hx, _⟩
  · cases hg
  · simp only [Value.ownBlock, Option.some.injEq] at hg
    subst hg
    exact ⟨hb, cur, hx⟩
theorem own_sameG {w w' : World} {base e size n : Nat} {v : Value} {xs : List Value} (h : w.ownsRow base e size v n xs) (hk : ∀ g, v.ownBlock = some g → w'.heap[g]? = w.heap[g]?) : w'.ownsRow base e size v n xs := by
  refine ⟨h.1, ?_⟩
  rcases h.2 with h0 | ⟨g, cap, cur, hv, hb, hx, rest⟩
  · exact .inl h0
  · exact .inr ⟨g, cap, cur, hv, hb, (hk g (by rw [hv]; rfl)).trans hx, rest⟩
theorem own_iterG {w : World} {base e size n : Nat} {v : Value} {xs : List Value} (h : w.ownsRow base e size v n xs) {k pos : Nat} {s : ByteArray} (hk : w.heap[k]? = some (.stringIter s pos)) (pos' : Nat) : (w.iterAt k s pos').ownsRow base e size v n xs :=
  own_sameG h fun g hg => by
    obtain ⟨_, cur, hx⟩ := own_blockG h hg
    refine Lib.iterAt_other w k g s pos' (fun e => ?_)
    subst e
    rw [hk] at hx
    cases hx
/-- A row of another kind of elements stays. -/
theorem own_apart {w w' : World} {base base' e e' size size' n n' : Nat} {v v' : Value} {xs xs' : List Value} (h : w.ownsRow base e size v n xs) (h' : w.ownsRow base' e' size' v' n' xs') (hne : e ≠ e') (hg : w.grownBy w' v'.ownBlock) : w'.ownsRow base e size v n xs :=
  own_sameG h fun g hv => by
    obtain ⟨_, cur, hx⟩ := own_blockG h hv
    refine hg.block g (Array.getElem?_eq_some_iff.1 hx).1 fun e2 => ?_
    obtain ⟨_, cur2, hx2⟩ := own_blockG h' e2.symm
    rw [hx] at hx2
    injection hx2 with h1
    injection h1 with _ h2
    exact hne h2
theorem box_apart {w w' : World} {base' e' size' n' k : Nat} {t : TypeId} {cs : Array Value} {v' : Value} {xs' : List Value} (h : Box w k t cs) (h' : w.ownsRow base' e' size' v' n' xs') (hne : t ≠ e') (hg : w.grownBy w' v'.ownBlock) : Box w' k t cs := by
  refine (hg.block k h.lt fun e2 => ?_).trans h
  obtain ⟨_, cur2, hx2⟩ := own_blockG h' e2.symm
  unfold Box at h
  rw [h] at hx2
  injection hx2 with h1
  injection h1 with _ h2
  exact hne h2
theorem iter_apart {w w' : World} {base' e' size' n' k pos : Nat} {s : ByteArray} {v' : Value} {xs' : List Value} (h : w.heap[k]? = some (.stringIter s pos)) (h' : w.ownsRow base' e' size' v' n' xs') (hg : w.grownBy w' v'.ownBlock) : w'.heap[k]? = some (.stringIter s pos) := by
  refine (hg.block k (Array.getElem?_eq_some_iff.1 h).1 fun e2 => ?_).trans h
  obtain ⟨_, cur2, hx2⟩ := own_blockG h' e2.symm
  rw [h] at hx2
  cases hx2
section
variable {α : Type} {sz : Nat} {val : α → List Value}
/-- append(s, y) of one struct, the new world by what is left as it was. -/
theorem append_struct_g {P : Program} (t e : TypeId) (z : Value) (bytes : Nat) (ht : P.underlying t = some (.slice e)) (info : (P.info? e).map (fun i => (i.zero, i.size, i.bytes)) = some (some z, sz, bytes))
    (hzs : z.cells.size = sz) (hs0 : 0 < sz) (hbytes : bytes ≤ 100) (hv : ∀ x, (val x).length = sz) (hval : ∀ x, ∀ u ∈ val x, u.oneCell' = true)
    {ops : Array Oper} {rest : List Oper} {o : Oper} {a : Act} {Q : Exit → Act → World → Prop} (w : World) (hgd : o.guard = none) (s x : Operand)
    (ho : o.op = .call { callee := .builtin .append, args := #[s, x], argTypes := #[t, t] })
    (base : Nat) (v : Value) (xs : List α) (hs : a.eval s = v) (hown : w.ownsRow base e sz v xs.length (xs.flatMap val)) (y : α) (u : Array Value) (hu : u = (val y).toArray) (N : Nat) (hN : w.heap.size = N)
    (hx : a.eval x = .slice (some ⟨N, 0, none⟩) 1 1) (hlen : xs.length ≤ 1000000000000 - 1) (hbase : base ≤ w.heap.size)
    (h : ∀ v' w', w'.ownsRow base e sz v' (xs ++ [y]).length ((xs ++ [y]).flatMap val) → w.grownBy w' v.ownBlock → wpList P ops Q rest (a.put o.dst v') w') : wpList P ops Q (o :: rest) a (w.alloc (.cells u e)) := by
  obtain ⟨i0, hi, hz0, hz1, hz2⟩ := info_parts info
  subst hu hN
  have hown1 : (w.alloc (.cells (val y).toArray e)).ownsRow base e sz v xs.length (xs.flatMap val) := own_keep_below hown ((Below.refl _ _).alloc (Nat.le_refl _) _)
  have hcell : ∀ j u, (val y)[j]? = some u → (w.alloc (.cells (val y).toArray e)).cell? ((⟨w.heap.size, 0, none⟩ : Addr).add j) = some u := by
    intro j u hu
    rw [plain_add, (Box.made w e (val y).toArray).cell]
    simpa using hu
  have hb0 : w.grownBy (w.alloc (.cells (val y).toArray e)) v.ownBlock := grown_of_below _ ((Below.refl _ _).alloc (Nat.le_refl _) _)
  refine wpList_append_own (w := w.alloc (.cells (val y).toArray e)) hgd s x t ho base e i0 z sz bytes ht hi hz0 hz1 hz2 hzs hs0 v xs.length (xs.flatMap val) hs hown1 ⟨w.heap.size, 0, none⟩ 1 1 (val y) hx (by rw [hv, Nat.one_mul]) hcell (hval y)
    (by unfold maxLen; omega) (by have := Nat.mul_le_mul (show xs.length + 1 ≤ 1000000000000 by omega) hbytes; omega) (by simp; omega) ?_
  intro v' w' h1 h2 _
  exact h v' w' (by rw [List.length_append, List.flatMap_append]; simpa using h1) (grown_trans hb0 h2)
/-- The same as a step of a region that draws its order. -/
theorem step_struct_g {P : Program} (t e : TypeId) (z : Value) (bytes : Nat) (ht : P.underlying t = some (.slice e)) (info : (P.info? e).map (fun i => (i.zero, i.size, i.bytes)) = some (some z, sz, bytes))
    (hzs : z.cells.size = sz) (hs0 : 0 < sz) (hbytes : bytes ≤ 100) (hv : ∀ x, (val x).length = sz) (hval : ∀ x, ∀ u ∈ val x, u.oneCell' = true)
    {ops : Array Oper} {o : Oper} {a : Act} {K : Act → World → Prop} {Q : Exit → Act → World → Prop} {E : Prop} (w : World) (hgd : o.guard = none) (s x : Operand)
    (ho : o.op = .call { callee := .builtin .append, args := #[s, x], argTypes := #[t, t] })
    (base : Nat) (v : Value) (xs : List α) (hs : a.eval s = v) (hown : w.ownsRow base e sz v xs.length (xs.flatMap val)) (y : α) (ad : Addr)
    (hx : a.eval x = .slice (some ad) 1 1) (hcell : ∀ j u, (val y)[j]? = some u → w.cell? (ad.add j) = some u) (hlen : xs.length ≤ 1000000000000 - 1) (hbase : base ≤ w.heap.size)
    (h : ∀ v' w', w'.ownsRow base e sz v' (xs ++ [y]).length ((xs ++ [y]).flatMap val) → w.grownBy w' v.ownBlock → K (a.put o.dst v') w') :
    if Region.wanted o (yielded ops a.tmps) = true then Oper.wp P o a w K Q else E := by
  have hw : Region.wanted o (yielded ops a.tmps) = true := by simp [Region.wanted, hgd]
  rw [if_pos hw]
  obtain ⟨i0, hi, hz0, hz1, hz2⟩ := info_parts info
  refine wp_append_own w s x t ho base e i0 z sz bytes ht hi hz0 hz1 hz2 hzs hs0 v xs.length (xs.flatMap val) hs hown ad 1 1 (val y) hx (by rw [hv, Nat.one_mul]) hcell (hval y)
    (by unfold maxLen; omega) (by have := Nat.mul_le_mul (show xs.length + 1 ≤ 1000000000000 by omega) hbytes; omega) hbase ?_
  intro v' w' h1 h2 _
  exact h v' w' (by rw [List.length_append, List.flatMap_append]; simpa using h1) h2
end
theorem below_own {w w' : World} {base e size n : Nat} {v : Value} {xs : List Value} (hown : w.ownsRow base e size v n xs) (hbase : base ≤ w.heap.size) (hg : w.grownBy w' v.ownBlock) : Below base w w' :=
  (Below.refl _ _).grown hg hbase fun _ hk => (own_blockG hown hk).1

end Go.Proofs.YtbnchnbblchmnaaGreatDoor

namespace Go.Proofs.YtbnchnbblchmnaaGreatDoor
open Go.RowKit

theorem ordL_drop {xs ys : List Nat} {k : Nat} (h : xs.take k = ys.take k) : ordL xs ys = ordL (xs.drop k) (ys.drop k) := by
  conv => lhs; rw [← List.take_append_drop k xs, ← List.take_append_drop k ys, h]
  exact ordL_app _ _ _
theorem dropK_at {l : List Nat} {k x : Nat} (h : l[k]? = some x) : l.drop k = x :: l.drop (k + 1) := by
  obtain ⟨h1, h2⟩ := List.getElem?_eq_some_iff.1 h
  rw [List.drop_eq_getElem_cons h1, h2]

end Go.Proofs.YtbnchnbblchmnaaGreatDoor

namespace Go.Proofs.YtbnchnbblchmnaaGreatDoor
open Go.RowKit

/-- An element as the model holds it. -/
def ev (e : El) : List Value := [.int .i64 (e.1 : Int), .int .i64 (e.2.1 : Int), .int .i64 (e.2.2 : Int)]
theorem ev_len (e : El) : (ev e).length = 3 := rfl
theorem ev_one (e : El) : ∀ u ∈ ev e, u.oneCell' = true := by
  intro u hu
  simp only [ev, List.mem_cons, List.not_mem_nil, or_false] at hu
  rcases hu with rfl | rfl | rfl <;> rfl
/-- A new slice of these elements. -/
def EndEls (w : World) (l : List El) (e : Ending) (w' : World) : Prop := ∃ A n c, e = .returned (.slice A n c) ∧ SArr 3 ev w' w'.heap.size (.slice A n c) l ∧ Below w.heap.size w w'
theorem single_open (c : Nat) : singleL c = 
  if kN c = 4 then [(100, 1, 1)] else if kN c = 5 then [(100 * c, 1, 1)] else if kN c = 3 then [(20000 + 100 * (c - 48), 1, 1)] else if kN c = 2 then [(0, 10 + (c - 768), 1)]
  else if scN c = 2 then [(50000 + 100 * (lowN c - 945), 1, capN c)] else if scN c = 3 ∧ lowN c ≤ 1103 then [(60000 + 200 * (lowN c - 1072), 1, capN c)]
  else if lowN c = 1108 then [(61100, 1, capN c)] else if lowN c = 1110 then [(61700, 1, capN c)] else if lowN c = 1169 then [(60700, 1, capN c)] else latL c := by
  unfold singleL
  simp only [Nat.beq_eq, Bool.and_eq_true, Nat.ble_eq]
/-- What the reference's single is asked of: a letter, or another character of a decomposed form. -/
structure Asked (c : Nat) : Prop where
  has : hasN c = true
  whole : wholeR c = [c]

/-- What the reference takes as a letter with a search form. -/
def Late (c : Nat) : Prop := kN c ≠ 4 ∧ kN c ≠ 5 ∧ kN c ≠ 3 ∧ kN c ≠ 2 ∧ scN c ≠ 2 ∧ ¬(scN c = 3 ∧ lowN c ≤ 1103) ∧ lowN c ≠ 1108 ∧ lowN c ≠ 1110 ∧ lowN c ≠ 1169
theorem chars_kind : (charL.all fun c => Nat.beq (kN c) 1 || Nat.beq (kN c) 2 || Nat.beq (kN c) 3 || Nat.beq (kN c) 4 || Nat.beq (kN c) 5) = true := by kernel_rfl
theorem kind_one {c : Nat} (h : hasN c = true) : kN c = 1 ∨ kN c = 2 ∨ kN c = 3 ∨ kN c = 4 ∨ kN c = 5 := by
  have h1 := List.all_eq_true.1 chars_kind c ((char_mem c).2 h)
  simp only [Bool.or_eq_true, Nat.beq_eq] at h1
  omega

end Go.Proofs.YtbnchnbblchmnaaGreatDoor

namespace Go.Proofs.YtbnchnbblchmnaaGreatDoor
open Go.RowKit

def lateB (c : Nat) : Bool := !Nat.beq (kN c) 4 && !Nat.beq (kN c) 5 && !Nat.beq (kN c) 3 && !Nat.beq (kN c) 2 && !Nat.beq (scN c) 2 && !(Nat.beq (scN c) 3 && Nat.ble (lowN c) 1103) && !Nat.beq (lowN c) 1108 && !Nat.beq (lowN c) 1110 && !Nat.beq (lowN c) 1169
theorem chars_late : (charL.all fun c => !(is1 (wholeR c) c && lateB c) || (!Nat.beq (scN c) 3 && (seaN c).all fun x => Nat.ble 97 x && Nat.ble x 65535)) = true := by kernel_rfl
theorem late_sea {c : Nat} (hq : Asked c) (hD : Late c) : scN c ≠ 3 ∧ ∀ x ∈ seaN c, 97 ≤ x ∧ x ≤ 65535 := by
  have h := List.all_eq_true.1 chars_late c ((char_mem c).2 hq.has)
  have hl : lateB c = true := by
    obtain ⟨h0, h1, h2, h3, h4, h5, h6, h7, h8⟩ := hD
    unfold lateB
    rw [beq_false h0, beq_false h1, beq_false h2, beq_false h3, beq_false h4, beq_false h6, beq_false h7, beq_false h8]
    cases hx : (Nat.beq (scN c) 3 && Nat.ble (lowN c) 1103) with
    | false => rfl
    | true =>
      rw [Bool.and_eq_true, Nat.beq_eq, Nat.ble_eq] at hx
      exact absurd hx h5
  rw [is1_of hq.whole, hl] at h
  simp only [Bool.and_self, Bool.not_true, Bool.false_or, List.all_eq_true, Bool.and_eq_true, Nat.ble_eq] at h
  refine ⟨fun e => ?_, h.2⟩
  have := h.1
  rw [e] at this
  cases this
theorem late_single {c : Nat} (hD : Late c) : singleL c = latL c := by
  obtain ⟨h0, h1, h2, h3, h4, h5, h6, h7, h8⟩ := hD
  rw [single_open, if_neg h0, if_neg h1, if_neg h2, if_neg h3, if_neg h4, if_neg h5, if_neg h6, if_neg h7, if_neg h8]
theorem late_len {c : Nat} (hq : Asked c) (hD : Late c) : (seaN c).length ≤ 3 := by
  have h := (ok_col hq.has hq.whole).few
  rw [late_single hD] at h
  unfold latL at h
  rwa [List.length_map] at h
theorem enc_col {c : Nat} (h : hasN c = true) : encR [(c : Int)] = some (encL [c]) := by
  unfold encR
  rw [if_pos (by simp [hasN_eq, h])]
  rfl
theorem sea_enc {c : Nat} (h : hasN c = true) : decR (nSearch (encL [c])) = some (seaN c) ∧ (nSearch (encL [c])).length ≤ 3 * (seaN c).length := by
  have e : nSL (encL [c]) = seaN c := by
    unfold nSL nFL seaN
    rw [nL_encL (fun x hx => by rw [List.mem_singleton.1 hx]; exact h)]
  unfold nSearch
  rw [← e]
  exact ⟨dec_enc _ (dec_ok (nSL_dec _)), encL_len _⟩
def lev (z u : Nat) (x : Nat) : El := (30000 + 100 * (x - 97), z, u)
theorem lev_wrap {z u x : Nat} (h1 : 97 ≤ x) (h2 : x ≤ 65535) : (IntKind.i64.wrap (30000 + IntKind.i64.wrap (100 * IntKind.i64.wrap ((x : Int) - 97))) : Int) = ((lev z u x).1 : Int) := by
  rw [wraps_i64 ((x : Int) - 97) (by omega) (by omega), wraps_i64 (100 * _) (by omega) (by omega), wraps_i64 _ (by omega) (by omega)]
  show _ = ((30000 + 100 * (x - 97) : Nat) : Int)
  omega

end Go.Proofs.YtbnchnbblchmnaaGreatDoor

namespace Go.Proofs.YtbnchnbblchmnaaGreatDoor
open Go.RowKit

theorem info_pel : (Tryz.prog.info? 71).map (fun i => (i.zero, i.size, i.bytes)) = some (some (.agg #[.int .i64 0, .int .i64 0, .int .i64 0]), 3, 24) := by kernel_rfl
/-- A row of elements of the call's own. -/
def OwnEls (w : World) (base : Nat) (v : Value) (o : List El) : Prop := w.ownsRow base 71 3 v o.length (o.flatMap ev)
/-- What a function that appends elements returns. -/
def EndApp (base : Nat) (w : World) (o : List El) (e : Ending) (w' : World) : Prop := ∃ v, e = .returned v ∧ OwnEls w' base v o ∧ Below base w w'
theorem encL_one (c : Nat) : encL [c] = encC c := by simp [encL]
/-- The secondary weight of a Latin letter. -/
theorem lat_second {c : Nat} (h : hasN c = true) : (if decide (nSearch (encL [c]) = encL [lowN c]) = true then 1 else 2) = (if is1 (seaN c) (lowN c) = true then 1 else 2) := by
  have hd := (sea_enc h).1
  have hl : decR (encL [lowN c]) = some [lowN c] := dec_enc _ fun x hx => by rw [List.mem_singleton.1 hx]; exact ok_of_has (low_has h)
  by_cases h1 : seaN c = [lowN c]
  · rw [if_pos (is1_of h1), if_pos]
    refine decide_eq_true ?_
    have e1 := (enc_dec hd).1
    rw [← e1, h1]
  · rw [if_neg (fun e => h1 (is1_eq e)), if_neg]
    intro e
    have e1 := of_decide_eq_true e
    rw [e1, hl] at hd
    exact h1 (Option.some.inj hd).symm
theorem cap_if (c : Nat) : (if ((c : Int) == (lowN c : Int)) = true then (1 : Int) else 2) = (capN c : Int) := by
  unfold capN
  by_cases h : lowN c = c
  · rw [if_pos (beq_of h), if_pos (by rw [h]; simp)]; rfl
  · rw [if_neg (by rw [eqb_false (by omega)]; exact Bool.false_ne_true), if_neg (by rw [beq_false h]; exact Bool.false_ne_true)]; rfl
theorem lw_low {x : Nat} (h1 : 97 ≤ x) (h2 : x ≤ 122) : lwI (x : Int) = ((30000 + 100 * (x - 97) : Nat) : Int) := by
  unfold lwI
  rw [if_neg (by omega), if_neg (by omega), if_neg (by omega), if_neg (by omega), if_neg (by omega)]
  omega

set_option maxRecDepth 100000 in
set_option maxHeartbeats 6400000 in
theorem prLatin_any (base : Nat) (v : Value) (o : List El) (c : Nat) (w : World) (hS : Spans w) (hown : OwnEls w base v o) (hbase : base ≤ w.heap.size) (ho : o.length ≤ 1000000000) (hq : Asked c) (hk : kN c = 1) (hs : scN c = 1) :
    Calls Tryz.prog 112 #[v, .int .i64 (c : Int), .int .i64 (lowN c : Int)] w (EndApp base w (o ++ singleL c)) := by
  obtain ⟨hl97, hl5, hc5, hcase⟩ := wt_single hq.has hq.whole hk
  rcases hcase with ⟨_, hsl, hab, hsl3⟩ | ⟨hns, _⟩
  case inr => exact absurd hs hns
  have hcR : hasR (c : Int) = true := by rw [hasN_eq]; exact hq.has
  have hlR : hasR (lowN c : Int) = true := by rw [hasN_eq]; exact low_has hq.has
  have he1 := encode_has hcR
  have he2 := encode_has hlR
  rw [← encL_one] at he1 he2
  obtain ⟨hd, hdl⟩ := sea_enc hq.has
  have hsec := lat_second hq.has
  have hlen1 := encL_len [c]
  have HSe := Lib.hid (prSearch_s (encL [c]) w hS (by simp at hlen1; omega))
  obtain ⟨t, ht⟩ : ∃ t, nSearch (encL [c]) = t := ⟨_, rfl⟩
  rw [ht] at hd hdl hsec HSe
  have htl : t.length ≤ 9 := by omega
  obtain ⟨f, hf⟩ : ∃ f : Nat → El, f = fun x => (30000 + 100 * (x - 97), (if is1 (seaN c) (lowN c) = true then 1 else 2), capN c) := ⟨_, rfl⟩
  have HF : Hid (singleL c = (seaN c).map f) := Lib.hid (by rw [hsl, hf]; rfl)
  have HQs := str_beq t (encL [lowN c])
  obtain ⟨bq, hbq⟩ : ∃ bq, decide (t = encL [lowN c]) = bq := ⟨_, rfl⟩
  rw [hbq] at HQs hsec
  obtain ⟨sec, hse⟩ : ∃ sec, (if is1 (seaN c) (lowN c) = true then 1 else 2) = sec := ⟨_, rfl⟩
  rw [hse] at hsec hf
  have HO1 := Lib.hid (fun W => prOneIf_any bq W)
  have hi1 : (if bq = true then (1 : Int) else 2) = (sec : Int) := by rw [← hsec]; split <;> rfl
  rw [hi1] at HO1
  obtain ⟨cq, hcq⟩ : ∃ cq, ((c : Int) == (lowN c : Int)) = cq := ⟨_, rfl⟩
  have HO2 := Lib.hid (fun W => prOneIf_any cq W)
  have hi2 : (if cq = true then (1 : Int) else 2) = (capN c : Int) := by rw [← hcq]; exact cap_if c
  rw [hi2] at HO2
  obtain ⟨u, hu⟩ : ∃ u, capN c = u := ⟨_, rfl⟩
  rw [hu] at HO2 hf
  obtain ⟨R, hR⟩ : ∃ R, o ++ singleL c = R := ⟨_, rfl⟩
  rw [hR]
  rw [HF.out] at hR
  have HR := Lib.hid hR
  have HD := Lib.hid hd
  have HAb := Lib.hid hab
  have HFx : Hid (∀ x, f x = (30000 + 100 * (x - 97), sec, u)) := Lib.hid fun x => by rw [hf]
  have hcz : (c : Int) ≤ 100000 := by omega
  have hlz : (lowN c : Int) ≤ 100000 := by omega
  have hlz0 : (97 : Int) ≤ (lowN c : Int) := by omega
  obtain ⟨l, hl⟩ : ∃ l, lowN c = l := ⟨_, rfl⟩
  rw [hl] at he2 HQs hcq hlz hlz0 ⊢
  obtain ⟨e1, hE1⟩ : ∃ e1, encL [c] = e1 := ⟨_, rfl⟩
  obtain ⟨e2, hE2⟩ : ∃ e2, encL [l] = e2 := ⟨_, rfl⟩
  rw [hE1] at he1 HSe
  rw [hE2] at he2 HQs
  obtain ⟨S, hSe⟩ : ∃ S, seaN c = S := ⟨_, rfl⟩
  have hS3 : S.length ≤ 3 := by rw [← hSe]; exact hsl3
  rw [hSe] at HAb HR HD
  have HOwn := Lib.hid hown
  clear hE1 hE2 hl hd hab hf hu hi1 hi2 hse hbq ht hR HF hsl hsl3 hsec hk hs hq hc5 hl5 hl97 hlen1 hdl hown hcR hlR hSe
  go_enter Tryz.func112, Tryz.ntmps112
  go_wp2_with fail
  refine HSe.out.mono ?_
  rintro e w1 ⟨rfl, k1⟩
  go_wp2_with fail
  refine (HO1.out _).mono ?_
  rintro e w2 ⟨rfl, rfl⟩
  have hown1 := own_keep_below HOwn.out k1
  have hB1 : Below base w w1 := k1.mono hbase
  have hb1 : base ≤ w1.heap.size := Nat.le_trans hbase k1.size
  have hsz : (str t).size = t.length := rfl
  go_wp2
  go_loopw [0] (fun v0 wr => ∃ (pos : Nat) (lx : List Nat), OwnEls wr base v0 (o ++ lx.map f) ∧ wr.heap[w1.heap.size]? = some (.stringIter (str t) pos) ∧ Hid (Past t pos lx) ∧ Below base w1 wr) (fun _ wr => t.length - wr.iterPos w1.heap.size)
  case atStart =>
    refine ⟨0, [], ?_, World.iter_heap w1 (str t) 0, Lib.hid (Past.start t), (Below.refl _ _).alloc hb1 _⟩
    rw [List.map_nil, List.append_nil]
    exact own_keep_below hown1 ((Below.refl _ _).alloc (Nat.le_refl _) _)
  case round =>
    obtain ⟨pos, lx, hO, hit, HP, hb⟩ := hrel
    have hks : w1.heap.size < wr.heap.size := (Array.getElem?_eq_some_iff.1 hit).1
    by_cases hp : pos < t.length
    · obtain ⟨x, n, hcn⟩ : ∃ c n, Utf8.decode (str t) pos = (c, n) := ⟨_, _, rfl⟩
      have hnx : ∀ ty, (Instr.next (.pointer (some ⟨w1.heap.size, 0, none⟩)) true ty).run Tryz.prog wr = _ := fun ty => Lib.run_next_any_at wr w1.heap.size (str t) pos ty hit hp
      have hit2 := Lib.iterAt_heap wr w1.heap.size (str t) pos (pos + (Utf8.decode (str t) pos).2) hit
      have hO2 := own_iterG hO hit (pos + (Utf8.decode (str t) pos).2)
      have hbw2 := Lib.below_iterAt hb (k := w1.heap.size) hb1 (str t) (pos + (Utf8.decode (str t) pos).2)
      have hcm := decode_le (str t) pos
      simp only [hcn] at hnx hit2 hbw2 hcm hO2
      have hx : hasR (x : Int) = true := by
        cases hx : hasR (x : Int) with
        | true => rfl
        | false => have h := HP.out.rune_bad hp hcn hx; rw [HD.out] at h; cases h
      obtain ⟨hP1, hP0⟩ := HP.out.rune hp hcn hx
      obtain ⟨⟨mr, hmr⟩, _⟩ := hP1.took HD.out
      have hxm := HAb.out x (by rw [hmr]; simp)
      have hx97 := hxm.1
      have hx122 := hxm.2
      have hle := hP1.1
      have HP1 := Lib.hid hP1
      have HW := Lib.hid (fun W => prWeight_any (x : Int) W (by omega) (by omega))
      rw [lw_low hx97 hx122] at HW
      obtain ⟨pw, hpw⟩ : ∃ pw, 30000 + 100 * (x - 97) = pw := ⟨_, rfl⟩
      rw [hpw] at HW
      have hfx : f x = (pw, sec, u) := by rw [HFx.out, hpw]
      have hll : lx.length ≤ 3 := by
        have := congrArg List.length hmr
        simp only [List.length_append, List.length_cons, List.length_nil] at this
        omega
      have hxz : (x : Int) ≤ 122 := by omega
      have hxz0 : (97 : Int) ≤ (x : Int) := by omega
      obtain ⟨W, hW⟩ : ∃ W, wr.iterAt w1.heap.size (str t) (pos + n) = W := ⟨_, rfl⟩
      rw [hW] at hnx hit2 hbw2 hO2
      have hbs := hbw2.size
      have hWs : w1.heap.size < W.heap.size := (Array.getElem?_eq_some_iff.1 hit2).1
      have hol : (o ++ lx.map f).length ≤ 1000000000000 - 1 := by rw [List.length_append, List.length_map]; omega
      have HE : Hid (o ++ (lx ++ [x]).map f = (o ++ lx.map f) ++ [(pw, sec, u)]) := Lib.hid (by rw [List.map_append, List.map_cons, List.map_nil, hfx, List.append_assoc])
      obtain ⟨oo, hoo⟩ : ∃ oo, o ++ lx.map f = oo := ⟨_, rfl⟩
      rw [hoo] at hO2 hol HE
      clear hcn hP1 hx hW hmr hpw hfx hxm hoo hO hx97 hx122
      go_wp2_with fail
      refine (HW.out _).mono ?_
      rintro e w3 ⟨rfl, rfl⟩
      go_wp2_with fail
      refine (HO2.out _).mono ?_
      rintro e w4 ⟨rfl, rfl⟩
      have hO3 := hO2
      unfold OwnEls at hO3
      go_wp2_with (at_builtin; refine append_struct_g (val := ev) 66 71 (.agg #[.int .i64 0, .int .i64 0, .int .i64 0]) 24 Tryz.underlying66 info_pel rfl (by decide) (by decide) ev_len ev_one _ rfl (.tmp 26) (.tmp 36) rfl base _ oo rfl hO3 (pw, sec, u) #[.int .i64 (pw : Int), .int .i64 (sec : Int), .int .i64 (u : Int)] (by simp [ev]) _ rfl rfl hol (by omega) ?_; intro v7 w7 hown7 hg7)
      have hit7 := iter_apart hit2 hO3 hg7
      have hb7 := below_own hO3 (by omega) hg7
      go_wp2
      go_roundw
      case rel => exact ⟨pos + n, lx ++ [x], by rw [HE.out]; exact hown7, hit7, HP1, hbw2.trans hb7⟩
      case measure =>
        rw [iterPos_of hit7, iterPos_of hit]
        omega
    · have HE : Hid (R = o ++ lx.map f) := Lib.hid (by
        have h := HP.out.done hp
        rw [HD.out] at h
        rw [← HR.out, Option.some.inj h])
      have hnx : ∀ ty, (Instr.next (.pointer (some ⟨w1.heap.size, 0, none⟩)) true ty).run Tryz.prog wr = _ := fun ty => Lib.run_next_end_at wr w1.heap.size (str t) pos ty hit hp
      go_wp2
      go_ret
      rw [HE.out]
      exact ⟨_, rfl, hO, hB1.trans hb⟩

set_option maxRecDepth 100000 in
set_option maxHeartbeats 6400000 in
theorem prElem_any (base : Nat) (v : Value) (o : List El) (c : Nat) (w : World) (hS : Spans w) (hown : OwnEls w base v o) (hbase : base ≤ w.heap.size) (ho : o.length ≤ 1000000000) (hq : Asked c) :
    Calls Tryz.prog 73 #[v, .int .i64 (c : Int), .int .i64 (lowN c : Int)] w (EndApp base w (o ++ singleL c)) := by
  have HC := Lib.hid (prClass_any (c : Int) w hS)
  have hk : clsR (c : Int) = (scN c, kN c) := by rw [clsF_eq]; rfl
  rw [hk] at HC
  unfold two at HC
  have HS := Lib.hid hS
  have ok := ok_col hq.has hq.whole
  have hc16 : c < 65536 := (ok_of_has hq.has).1
  have HQ := Lib.hid hq
  have hdig := ok.dig
  have hmark := ok.mark
  have hkind : kN c = 1 ∨ kN c = 2 ∨ kN c = 3 ∨ kN c = 4 ∨ kN c = 5 := kind_one hq.has
  have HWt := Lib.hid (fun h => wt_single (c := c) hq.has hq.whole h)
  have HO := Lib.hid hown
  have hcap := cap_if c
  obtain ⟨R, hR⟩ : ∃ R, singleL c = R := ⟨_, rfl⟩
  have HR := Lib.hid hR
  rw [hR]
  rw [single_open] at hR
  obtain ⟨k, hk2⟩ : ∃ k, kN c = k := ⟨_, rfl⟩
  obtain ⟨s, hs⟩ : ∃ s, scN c = s := ⟨_, rfl⟩
  have HK := Lib.hid hk2
  have HSc := Lib.hid hs
  rw [hk2] at hdig hmark hkind
  rw [hk2, hs] at HC
  rw [hk2] at hR
  obtain ⟨l, hl⟩ : ∃ l, lowN c = l := ⟨_, rfl⟩
  have HLo := Lib.hid hl
  rw [hl] at hcap ⊢
  clear hk hk2 hs hl ok hq hS hown
  by_cases h0 : k = 4
  · subst h0
    have HE : Hid (R = [(100, 1, 1)]) := Lib.hid (by rw [← hR, if_pos rfl])
    clear hR hdig hmark hkind hcap
    go_enter Tryz.func73, Tryz.ntmps73
    go_wp2_with fail
    refine HC.out.mono ?_
    rintro e w1 ⟨rfl, k1⟩
    have hown1 := own_keep_below HO.out k1
    have hb1 : base ≤ w1.heap.size := Nat.le_trans hbase k1.size
    have hB1 : Below base w w1 := k1.mono hbase
    go_wp2_with (at_builtin; refine append_struct_g (val := ev) 66 71 (.agg #[.int .i64 0, .int .i64 0, .int .i64 0]) 24 Tryz.underlying66 info_pel rfl (by decide) (by decide) ev_len ev_one _ rfl (.tmp 17) (.tmp 19) rfl base _ o rfl hown1 (100, 1, 1) #[.int .i64 100, .int .i64 1, .int .i64 1] (by simp [ev]) _ rfl rfl (by omega) (by omega) ?_; intro v7 w7 hown7 hg7)
    go_wp2
    go_ret
    rw [HE.out]
    exact ⟨_, rfl, hown7, hB1.trans (below_own hown1 hb1 hg7)⟩
  have t0 : ((k : Int) == 4) = false := eqb_false (by omega)
  by_cases h1 : k = 5
  · subst h1
    have HE : Hid (R = [(100 * c, 1, 1)]) := Lib.hid (by rw [← hR, if_neg h0, if_pos rfl])
    have s1 : IntKind.i64.wrap (100 * (c : Int)) = 100 * (c : Int) := wraps_i64 _ (by omega) (by omega)
    clear hR hdig hmark hkind hcap
    go_enter Tryz.func73, Tryz.ntmps73
    go_wp2_with fail
    refine HC.out.mono ?_
    rintro e w1 ⟨rfl, k1⟩
    have hown1 := own_keep_below HO.out k1
    have hb1 : base ≤ w1.heap.size := Nat.le_trans hbase k1.size
    have hB1 : Below base w w1 := k1.mono hbase
    go_wp2_with (at_builtin; refine append_struct_g (val := ev) 66 71 (.agg #[.int .i64 0, .int .i64 0, .int .i64 0]) 24 Tryz.underlying66 info_pel rfl (by decide) (by decide) ev_len ev_one _ rfl (.tmp 24) (.tmp 28) rfl base _ o rfl hown1 (100 * c, 1, 1) #[.int .i64 (100 * (c : Int)), .int .i64 1, .int .i64 1] (by simp [ev] <;> omega) _ rfl rfl (by omega) (by omega) ?_; intro v7 w7 hown7 hg7)
    go_wp2
    go_ret
    rw [HE.out]
    exact ⟨_, rfl, hown7, hB1.trans (below_own hown1 hb1 hg7)⟩
  have t1 : ((k : Int) == 5) = false := eqb_false (by omega)
  by_cases h2 : k = 3
  · subst h2
    have HE : Hid (R = [(20000 + 100 * (c - 48), 1, 1)]) := Lib.hid (by rw [← hR, if_neg h0, if_neg h1, if_pos rfl])
    have hd48 := hdig rfl
    have s1 : IntKind.i64.wrap ((c : Int) - 48) = (c : Int) - 48 := wraps_i64 _ (by omega) (by omega)
    have s2 : IntKind.i64.wrap (100 * ((c : Int) - 48)) = 100 * ((c : Int) - 48) := wraps_i64 _ (by omega) (by omega)
    have s3 : IntKind.i64.wrap (20000 + 100 * ((c : Int) - 48)) = 20000 + 100 * ((c : Int) - 48) := wraps_i64 _ (by omega) (by omega)
    clear hR hdig hmark hkind hcap
    go_enter Tryz.func73, Tryz.ntmps73
    go_wp2_with fail
    refine HC.out.mono ?_
    rintro e w1 ⟨rfl, k1⟩
    have hown1 := own_keep_below HO.out k1
    have hb1 : base ≤ w1.heap.size := Nat.le_trans hbase k1.size
    have hB1 : Below base w w1 := k1.mono hbase
    go_wp2_with (at_builtin; refine append_struct_g (val := ev) 66 71 (.agg #[.int .i64 0, .int .i64 0, .int .i64 0]) 24 Tryz.underlying66 info_pel rfl (by decide) (by decide) ev_len ev_one _ rfl (.tmp 33) (.tmp 39) rfl base _ o rfl hown1 (20000 + 100 * (c - 48), 1, 1) #[.int .i64 (20000 + 100 * ((c : Int) - 48)), .int .i64 1, .int .i64 1] (by simp [ev] <;> omega) _ rfl rfl (by omega) (by omega) ?_; intro v7 w7 hown7 hg7)
    go_wp2
    go_ret
    rw [HE.out]
    exact ⟨_, rfl, hown7, hB1.trans (below_own hown1 hb1 hg7)⟩
  have t2 : ((k : Int) == 3) = false := eqb_false (by omega)
  by_cases h3 : k = 2
  · subst h3
    have HE : Hid (R = [(0, 10 + (c - 768), 1)]) := Lib.hid (by rw [← hR, if_neg h0, if_neg h1, if_neg h2, if_pos rfl])
    have hd768 := hmark rfl
    have s1 : IntKind.i64.wrap (10 + (c : Int)) = 10 + (c : Int) := wraps_i64 _ (by omega) (by omega)
    have s2 : IntKind.i64.wrap (10 + (c : Int) - 768) = 10 + (c : Int) - 768 := wraps_i64 _ (by omega) (by omega)
    clear hR hdig hmark hkind hcap
    go_enter Tryz.func73, Tryz.ntmps73
    go_wp2_with fail
    refine HC.out.mono ?_
    rintro e w1 ⟨rfl, k1⟩
    have hown1 := own_keep_below HO.out k1
    have hb1 : base ≤ w1.heap.size := Nat.le_trans hbase k1.size
    have hB1 : Below base w w1 := k1.mono hbase
    go_wp2_with (at_builtin; refine append_struct_g (val := ev) 66 71 (.agg #[.int .i64 0, .int .i64 0, .int .i64 0]) 24 Tryz.underlying66 info_pel rfl (by decide) (by decide) ev_len ev_one _ rfl (.tmp 44) (.tmp 49) rfl base _ o rfl hown1 (0, 10 + (c - 768), 1) #[.int .i64 0, .int .i64 (10 + (c : Int) - 768), .int .i64 1] (by simp [ev] <;> omega) _ rfl rfl (by omega) (by omega) ?_; intro v7 w7 hown7 hg7)
    go_wp2
    go_ret
    rw [HE.out]
    exact ⟨_, rfl, hown7, hB1.trans (below_own hown1 hb1 hg7)⟩
  have t3 : ((k : Int) == 2) = false := eqb_false (by omega)
  obtain rfl : k = 1 := by omega
  obtain ⟨hl97, hl5, hc5, hcase⟩ := HWt.out HK.out
  rw [HLo.out] at hl97 hl5 hcase
  have HLat := Lib.hid (fun (W : World) (hW : Below w.heap.size w W) (h1 : scN c = 1) => prLatin_any base v o c W (HS.out.below hW) (own_keep_below HO.out hW) (Nat.le_trans hbase hW.size) ho HQ.out HK.out h1)
  rw [HLo.out, HR.out] at HLat
  by_cases h5 : s = 1
  · subst h5
    clear hR hdig hmark hkind hcap hcase
    go_enter Tryz.func73, Tryz.ntmps73
    go_wp2_with fail
    refine HC.out.mono ?_
    rintro e w1 ⟨rfl, k1⟩
    have hown1 := own_keep_below HO.out k1
    have hb1 : base ≤ w1.heap.size := Nat.le_trans hbase k1.size
    have hB1 : Below base w w1 := k1.mono hbase
    go_wp2_with fail
    refine (HLat.out _ k1 HSc.out).mono ?_
    rintro e w2 ⟨v2, rfl, hO2, hB2⟩
    go_wp2
    go_ret
    exact ⟨_, rfl, hO2, hB1.trans hB2⟩
  · have t5 : ((s : Int) == 1) = false := eqb_false (by omega)
    have HE : Hid (R = [(lwN l, 1, capN c)]) := Lib.hid (by
      rcases hcase with ⟨h1, _⟩ | ⟨_, h2⟩
      · rw [HSc.out] at h1; exact absurd h1 h5
      · rw [← HR.out]; exact h2)
    have HW := Lib.hid (fun W => prWeight_any (l : Int) W (by omega) (by omega))
    rw [lw_eq hl97] at HW
    obtain ⟨cq, hcq⟩ : ∃ cq, ((c : Int) == (l : Int)) = cq := ⟨_, rfl⟩
    rw [hcq] at hcap
    have HO2 := Lib.hid (fun W => prOneIf_any cq W)
    rw [hcap] at HO2
    obtain ⟨u, hu⟩ : ∃ u, capN c = u := ⟨_, rfl⟩
    rw [hu] at HO2 HE
    obtain ⟨pw, hpw⟩ : ∃ pw, lwN l = pw := ⟨_, rfl⟩
    rw [hpw] at HW HE
    clear hR hdig hmark hkind hcap hcase hu hpw
    go_enter Tryz.func73, Tryz.ntmps73
    go_wp2_with fail
    refine HC.out.mono ?_
    rintro e w1 ⟨rfl, k1⟩
    have hown1 := own_keep_below HO.out k1
    have hb1 : base ≤ w1.heap.size := Nat.le_trans hbase k1.size
    have hB1 : Below base w w1 := k1.mono hbase
    go_wp2_with fail
    refine (HW.out _).mono ?_
    rintro e w3 ⟨rfl, rfl⟩
    go_wp2_with fail
    refine (HO2.out _).mono ?_
    rintro e w4 ⟨rfl, rfl⟩
    go_wp2_with (at_builtin; refine append_struct_g (val := ev) 66 71 (.agg #[.int .i64 0, .int .i64 0, .int .i64 0]) 24 Tryz.underlying66 info_pel rfl (by decide) (by decide) ev_len ev_one _ rfl (.tmp 58) (.tmp 66) rfl base _ o rfl hown1 (pw, 1, u) #[.int .i64 (pw : Int), .int .i64 1, .int .i64 (u : Int)] (by simp [ev]) _ rfl rfl (by omega) (by omega) ?_; intro v7 w7 hown7 hg7)
    go_wp2
    go_ret
    rw [HE.out]
    exact ⟨_, rfl, hown7, hB1.trans (below_own hown1 hb1 hg7)⟩

end Go.Proofs.YtbnchnbblchmnaaGreatDoor
