/-
  Collation with a tailoring, in plain mathematics: the letters of a tailoring, the bounds of the weights.
  Collation by bytes: tailorings, the primary weights, the key, the comparison, the sorting.
  What the document promises of collation, by bytes: levels, beginnings, letters.
-/
import Derived.Test.YtbnchnbblchmnaaGreatDoorPkBE
namespace Go.Proofs.YtbnchnbblchmnaaGreatDoor

theorem eqB_self : ∀ l : List Nat, eqB l l = true
  | [] => rfl
  | a :: l => by
    show (Nat.beq a a && eqB l l) = true
    rw [beq_true, eqB_self l]; rfl
theorem pass_iff {l y : List Nat} : passB l y = true ↔ (l.take y.length).map lowN = y := ⟨fun h => eqB_eq h, fun h => by unfold passB; rw [h]; exact eqB_self y⟩

/-! The longest Text. -/
/-- What is the best of the letters looked at so far, k of them. -/
def BestTo (t : List LetL) (l : List Nat) (o : Option (Nat × Nat)) : Prop :=
  match o with
  | none => ∀ y ∈ t, passB l y.1 = true → y.1.length = 0
  | some b => ∃ x, t[b.1]? = some x ∧ x.1.length = b.2 ∧ 0 < b.2 ∧ passB l x.1 = true ∧ ∀ y ∈ t, passB l y.1 = true → y.1.length ≤ b.2
theorem bestTo_step {t : List LetL} {l : List Nat} {o : Option (Nat × Nat)} (h : BestTo t l o) (x : LetL) : BestTo (t ++ [x]) l (stepC l o (x, t.length)) := by
  unfold stepC
  by_cases hx : passB l x.1 = true ∧ lenB o < x.1.length
  · rw [if_pos hx]
    refine ⟨x, by simp, rfl, by show 0 < x.1.length; omega, hx.1, fun y hy hp => ?_⟩
    show y.1.length ≤ x.1.length
    rcases List.mem_append.1 hy with hy | hy
    · cases o with
      | none => have := h y hy hp; omega
      | some b =>
        obtain ⟨z, _, _, _, _, h5⟩ := h
        have h6 := h5 y hy hp
        have h7 : b.2 < x.1.length := hx.2
        omega
    · rw [List.mem_singleton.1 hy]; exact Nat.le_refl _
  · rw [if_neg hx]
    cases o with
    | none =>
      intro y hy hp
      rcases List.mem_append.1 hy with hy | hy
      · exact h y hy hp
      · rw [List.mem_singleton.1 hy] at hp ⊢
        have : ¬ 0 < x.1.length := fun h0 => hx ⟨hp, h0⟩
        omega
    | some b =>
      obtain ⟨z, h1, h2, h3, h4, h5⟩ := h
      refine ⟨z, by rw [List.getElem?_append_left (List.getElem?_eq_some_iff.1 h1).1]; exact h1, h2, h3, h4, fun y hy hp => ?_⟩
      rcases List.mem_append.1 hy with hy | hy
      · exact h5 y hy hp
      · rw [List.mem_singleton.1 hy] at hp ⊢
        have : ¬ b.2 < x.1.length := fun h0 => hx ⟨hp, h0⟩
        omega
theorem bestTo_fold (l : List Nat) : ∀ (u t : List LetL) (o : Option (Nat × Nat)), BestTo t l o → BestTo (t ++ u) l ((u.zipIdx t.length).foldl (stepC l) o)
  | [], t, o, h => by rw [List.append_nil]; exact h
  | x :: u, t, o, h => by
    have h1 := bestTo_fold l u (t ++ [x]) _ (bestTo_step h x)
    rw [List.append_assoc, List.length_append, List.length_singleton] at h1
    exact h1
theorem bestTo_all (t : List LetL) (l : List Nat) : BestTo t l (bestC t l) := by
  have h := bestTo_fold l t [] none (fun y hy => by simp at hy)
  exact h
theorem best_is_none {t : List LetL} {l : List Nat} (h : ∀ y ∈ t, passB l y.1 = true → y.1.length = 0) : bestC t l = none := by
  have hb := bestTo_all t l
  cases ho : bestC t l with
  | none => rfl
  | some b =>
    rw [ho] at hb
    obtain ⟨x, h1, h2, h3, h4, _⟩ := hb
    have := h x (List.mem_of_getElem? h1) h4
    omega
theorem best_is {t : List LetL} {l : List Nat} {k : Nat} {x : LetL} (hx : t[k]? = some x) (hp : passB l x.1 = true) (h0 : 0 < x.1.length) (h : ∀ (i : Nat) (y : LetL), t[i]? = some y → passB l y.1 = true → i = k ∨ y.1.length < x.1.length) : bestC t l = some (k, x.1.length) := by
  have hb := bestTo_all t l
  cases ho : bestC t l with
  | none =>
    rw [ho] at hb
    have := hb x (List.mem_of_getElem? hx) hp
    omega
  | some b =>
    rw [ho] at hb
    obtain ⟨y, h1, h2, h3, h4, h5⟩ := hb
    have h6 := h5 x (List.mem_of_getElem? hx) hp
    rcases h b.1 y h1 h4 with h7 | h7
    · obtain ⟨b1, b2⟩ := b
      simp only at h1 h2 h7 ⊢
      subst h7
      rw [h1] at hx
      rw [← h2, Option.some.inj hx]
    · omega
theorem best_some {t : List LetL} {l : List Nat} {b : Nat × Nat} (h : bestC t l = some b) : ∃ x, t[b.1]? = some x ∧ x.1.length = b.2 ∧ 0 < b.2 ∧ passB l x.1 = true ∧ b.2 ≤ l.length := by
  have hb := bestTo_all t l
  rw [h] at hb
  obtain ⟨x, h1, h2, h3, h4, _⟩ := hb
  refine ⟨x, h1, h2, h3, h4, ?_⟩
  have h5 := congrArg List.length (pass_iff.1 h4)
  rw [List.length_map, List.length_take] at h5
  omega

/-- A valid tailoring, by its characters. -/
structure LetOk (t : List LetL) : Prop where
  size : ∀ x ∈ t, 0 < x.1.length ∧ x.1.length ≤ 4
  dec : ∀ x ∈ t, Dec x.1 ∧ foldL x.1 = x.1
  head : ∀ x ∈ t, ∃ c r, x.1 = c :: r ∧ kN c = 1
  after : ∀ x ∈ t, GoodE x.2 ∧ kN x.2 = 1
  dist : ∀ (i j : Nat) (x y : LetL), t[i]? = some x → t[j]? = some y → x.1 = y.1 → i = j
  few : t.length ≤ 40
theorem fold_own : ∀ {l : List Nat}, (∀ c ∈ l, hasN c = true ∧ wholeR c = [c]) → foldL l = l → ∀ c ∈ l, lowN c = c := by
  intro l hl h c hc
  have hlen : ∀ l : List Nat, l.length ≤ (foldL l).length := by
    intro l
    induction l with
    | nil => exact Nat.zero_le _
    | cons x l ih =>
      have e : foldL (x :: l) = low1 x ++ foldL l := by unfold foldL; rw [List.flatMap_cons]
      rw [e, List.length_append]
      have : 1 ≤ (low1 x).length := by rcases low1_head x with k | ⟨_, k⟩ <;> rw [k] <;> simp
      simp only [List.length_cons]
      omega
  have key : ∀ l : List Nat, foldL l = l → ∀ c ∈ l, lowN c = c := by
    intro l
    induction l with
    | nil => intro _ c hc; simp at hc
    | cons x l ih =>
      intro h c hc
      have e : foldL (x :: l) = low1 x ++ foldL l := by unfold foldL; rw [List.flatMap_cons]
      rw [e] at h
      rcases low1_head x with k | ⟨k0, k⟩
      · rw [k] at h
        injection h with h1 h2
        rcases List.mem_cons.1 hc with rfl | hc
        · exact h1
        · exact ih h2 c hc
      · rw [k] at h
        have := congrArg List.length h
        have h2 := hlen l
        simp at this
        omega
  exact key l h c hc
theorem map_low {l : List Nat} (h : ∀ c ∈ l, lowN c = c) : l.map lowN = l := by
  conv => rhs; rw [← List.map_id l]
  exact List.map_congr_left h
theorem LetOk.low {t : List LetL} (h : LetOk t) {x : LetL} (hx : x ∈ t) : ∀ c ∈ x.1, lowN c = c :=
  fold_own (fun c hc => ⟨(h.dec x hx).1.1 c hc, (h.dec x hx).1.2.1 c hc⟩) (h.dec x hx).2
theorem enc_longer (a : List Nat) {z : List Nat} (hz : z ≠ []) : (encL a).length < (encL (a ++ z)).length := by
  cases z with
  | nil => exact absurd rfl hz
  | cons c z =>
    have e : encL (a ++ c :: z) = encL a ++ (encC c ++ encL z) := by rw [encL_app]; rfl
    rw [e, List.length_append, List.length_append]
    have := (encC_len c).1
    omega
/-- The Text of a letter, a blank behind it. -/
theorem best_letter {t : List LetL} (ht : LetOk t) {k : Nat} {x : LetL} (hx : t[k]? = some x) (hlong : ∀ y ∈ t, (encL y.1).length ≤ (encL x.1).length) (r : List Nat) : bestC t (x.1 ++ 32 :: r) = some (k, x.1.length) := by
  have hxm := List.mem_of_getElem? hx
  have hlx := ht.low hxm
  refine best_is hx (pass_iff.2 (by rw [List.take_left]; exact map_low hlx)) (ht.size x hxm).1 fun i y hy hp => ?_
  have hym := List.mem_of_getElem? hy
  have h1 := pass_iff.1 hp
  rcases Nat.lt_trichotomy y.1.length x.1.length with h2 | h2 | h2
  · exact .inr h2
  · left
    rw [h2, List.take_left, map_low hlx] at h1
    exact ht.dist i k y x hy hx h1.symm
  · exfalso
    have e : y.1 = x.1 ++ ((32 :: r).take (y.1.length - x.1.length)).map lowN := by
      rw [List.take_append, List.take_of_length_le (by omega), List.map_append, map_low hlx] at h1
      exact h1.symm
    have hne : ((32 :: r).take (y.1.length - x.1.length)).map lowN ≠ [] := by
      obtain ⟨n, hn⟩ : ∃ n, y.1.length - x.1.length = n + 1 := ⟨y.1.length - x.1.length - 1, by omega⟩
      rw [hn]; simp
    have h3 := enc_longer x.1 hne
    rw [← e] at h3
    have := hlong y hym
    omega
theorem len_one : (charL.all fun c => !(Nat.beq (kN c) 1 && is1 (seaN c) c) || (Nat.beq (singleL c).length 1)) = true := by kernel_rfl
theorem good_sea {e : Nat} (h : GoodE e) : seaN e = [e] := by
  unfold seaN searchL
  have h1 : dcF [e] = [e] := by
    refine dcF_plain ⟨fun y hy => ?_, trivial⟩
    rw [List.mem_singleton.1 hy]
    exact h.whole
  have h2 : foldL [e] = [e] := by unfold foldL; rw [List.flatMap_cons, h.low]; rfl
  rw [h1, h2, List.flatMap_cons, tok_good h]
  show sq (e :: []) = [e]
  rw [sq_cons h.nsp]
  rfl
theorem good_one {e : Nat} (h : GoodE e) (hk : kN e = 1) : ∃ s u, singleL e = [(primOf e, s, u)] ∧ 0 < primOf e := by
  have h1 := List.all_eq_true.1 len_one e ((char_mem e).2 h.has)
  rw [hk, is1_of (good_sea h)] at h1
  simp only [beq_true, Bool.and_self, Bool.not_true, Bool.false_or, Nat.beq_eq] at h1
  obtain ⟨x, hx⟩ := List.length_eq_one_iff.1 h1
  obtain ⟨p, s, u⟩ := x
  refine ⟨s, u, by unfold primOf; rw [hx], ?_⟩
  rcases (ok_col h.has h.whole).pos with h2 | h2
  · rw [hk] at h2; cases h2
  · have := h2 (p, s, u) (by rw [hx]; simp)
    unfold primOf
    rw [hx]
    exact this
theorem low_good {e : Nat} (h : GoodE e) : lowN e = e := good_lower h
theorem pass_short {l y : List Nat} (h : passB l y = true) : y.length ≤ l.length := by
  have h1 := congrArg List.length (pass_iff.1 h)
  rw [List.length_map, List.length_take] at h1
  omega
/-- The After of a letter, alone or with a digit behind it. -/
theorem after_els {t : List LetL} (ht : LetOk t) {a : Nat} (ha : GoodE a) (h1 : ∀ y ∈ t, y.1 ≠ [a]) (h2 : ∀ y ∈ t, y.1 ≠ [a, 57]) :
    elemsL t [a] = singleL a ∧ elemsL t [a, 57] = singleL a ++ singleL 57 := by
  have low := low_good ha
  have low9 : lowN 57 = 57 := by decide +kernel
  have b1 : bestC t [a] = none := best_is_none fun y hy hp => by
    have h3 := pass_short hp
    have h4 := pass_iff.1 hp
    match hl : y.1 with
    | [] => rfl
    | [c] =>
      rw [hl] at h4
      exfalso
      have : [lowN a] = [c] := h4
      rw [low] at this
      exact h1 y hy (by rw [hl, this])
    | c :: d :: r => rw [hl] at h3; simp at h3
  have b2 : bestC t [a, 57] = none := best_is_none fun y hy hp => by
    have h3 := pass_short hp
    have h4 := pass_iff.1 hp
    match hl : y.1 with
    | [] => rfl
    | [c] =>
      rw [hl] at h4
      exfalso
      have : [lowN a] = [c] := h4
      rw [low] at this
      exact h1 y hy (by rw [hl, this])
    | [c, d] =>
      rw [hl] at h4
      exfalso
      have : [lowN a, lowN 57] = [c, d] := h4
      rw [low, low9] at this
      exact h2 y hy (by rw [hl, this])
    | c :: d :: e :: r => rw [hl] at h3; simp at h3
  have b3 : bestC t [57] = none := best_is_none fun y hy hp => by
    have h3 := pass_short hp
    have h4 := pass_iff.1 hp
    obtain ⟨c, r, hc, hkc⟩ := ht.head y hy
    exfalso
    rw [hc] at h3 h4
    cases r with
    | nil =>
      have : [lowN 57] = [c] := h4
      rw [low9] at this
      injection this with h5 _
      subst h5
      have : kN 57 ≠ 1 := by decide +kernel
      exact this hkc
    | cons d r => simp at h3
  constructor
  · show (match bestC t [a] with | none => singleL a ++ elemsF 0 t [] | some b => _) = _
    rw [b1]
    exact List.append_nil _
  · show (match bestC t [a, 57] with | none => singleL a ++ elemsF 1 t [57] | some b => _) = _
    rw [b2]
    show singleL a ++ (match bestC t [57] with | none => singleL 57 ++ elemsF 0 t [] | some b => _) = _
    rw [b3]
    show singleL a ++ (singleL 57 ++ []) = _
    rw [List.append_nil]
/-- P8.5: a string that begins with a letter of a tailoring. -/
theorem letter_els {t : List LetL} (ht : LetOk t) {k : Nat} {x : LetL} (hx : t[k]? = some x) (hlong : ∀ y ∈ t, (encL y.1).length ≤ (encL x.1).length) (r : List Nat) :
    ∃ e l, elemsL t (x.1 ++ 32 :: r) = e :: l ∧ e.1 = primOf x.2 + k + 1 := by
  obtain ⟨c, z, hc, _⟩ := ht.head x (List.mem_of_getElem? hx)
  have hb := best_letter ht hx hlong r
  rw [hc] at hb ⊢
  refine ⟨tailEl t (c :: (z ++ 32 :: r)) (k, (c :: z).length), elemsF (z ++ 32 :: r).length t ((c :: (z ++ 32 :: r)).drop (c :: z).length), ?_, ?_⟩
  · show (match bestC t (c :: (z ++ 32 :: r)) with | none => singleL c ++ _ | some b => tailEl t (c :: (z ++ 32 :: r)) b :: elemsF _ t ((c :: (z ++ 32 :: r)).drop b.2)) = _
    rw [show bestC t (c :: (z ++ 32 :: r)) = some (k, (c :: z).length) from hb]
    rfl
  · show (match t[k]? with | some x => primOf x.2 | none => 0) + k + 1 = _
    rw [hx]
theorem letters_order {t : List LetL} (ht : LetOk t) {k : Nat} {x : LetL} (hx : t[k]? = some x) (hlong : ∀ y ∈ t, (encL y.1).length ≤ (encL x.1).length) (h1 : ∀ y ∈ t, y.1 ≠ [x.2]) (h2 : ∀ y ∈ t, y.1 ≠ [x.2, 57]) (r : List Nat) (u v w : List UInt8) :
    (∃ p, primL (elemsL t (x.1 ++ 32 :: r)) = (primOf x.2 + k + 1) :: p) ∧ primL (elemsL t [x.2]) = [primOf x.2] ∧ cmpE (elemsL t [x.2]) (elemsL t (x.1 ++ 32 :: r)) u v = -1 ∧ cmpE (elemsL t [x.2, 57]) (elemsL t (x.1 ++ 32 :: r)) w v = -1 := by
  obtain ⟨ha, hk⟩ := ht.after x (List.mem_of_getElem? hx)
  obtain ⟨s, q, hs, hp⟩ := good_one ha hk
  obtain ⟨e1, e2⟩ := after_els ht ha h1 h2
  obtain ⟨e, l, hel, he⟩ := letter_els ht hx hlong r
  have hpr : ∃ p, primL (elemsL t (x.1 ++ 32 :: r)) = (primOf x.2 + k + 1) :: p := by
    rw [hel]
    refine ⟨primL l, ?_⟩
    unfold primL
    rw [List.map_cons, List.filter_cons_of_pos (by rw [he, beq_false (by omega)]; rfl), he]
  have hpa : primL (elemsL t [x.2]) = [primOf x.2] := by
    rw [e1, hs]
    unfold primL
    rw [List.map_cons, List.filter_cons_of_pos (by rw [beq_false (show (primOf x.2, s, q).1 ≠ 0 by show primOf x.2 ≠ 0; omega)]; rfl)]
    rfl
  obtain ⟨p, hpp⟩ := hpr
  refine ⟨⟨p, hpp⟩, hpa, ?_, ?_⟩
  · unfold cmpE
    rw [hpp, hpa, ordL_cons, if_pos (by omega)]
    rfl
  · unfold cmpE
    have hp9 : ∃ z, primL (elemsL t [x.2, 57]) = primOf x.2 :: z := by
      rw [e2, prim_app, ← e1, hpa]
      exact ⟨_, rfl⟩
    obtain ⟨z, hz⟩ := hp9
    rw [hpp, hz, ordL_cons, if_pos (by omega)]
    rfl
/-- The bounds of all weights. -/
theorem cap_bound (c : Nat) : 1 ≤ capN c ∧ capN c ≤ 2 := by unfold capN; split <;> omega
theorem cap_fold (l : List Nat) : ∀ m, 1 ≤ m ∧ m ≤ 2 → 1 ≤ l.foldl (fun m c => max m (capN c)) m ∧ l.foldl (fun m c => max m (capN c)) m ≤ 2 := by
  induction l with
  | nil => intro m h; exact h
  | cons c l ih => intro m h; have := cap_bound c; exact ih _ ⟨Nat.le_trans h.1 (Nat.le_max_left _ _), Nat.max_le.2 ⟨h.2, this.2⟩⟩
theorem prim_bound {c : Nat} (hc : hasN c = true) (hw : wholeR c = [c]) : primOf c ≤ 10000000 := by
  unfold primOf
  cases h : singleL c with
  | nil => exact Nat.zero_le _
  | cons e l => exact ((ok_col hc hw).el e (by rw [h]; simp)).1
theorem elems_ok {t : List LetL} (ht : LetOk t) : ∀ (f : Nat) (l : List Nat), (∀ c ∈ l, hasN c = true ∧ wholeR c = [c]) → ∀ e ∈ elemsF f t l, e.1 ≤ 10000041 ∧ 1 ≤ e.2.1 ∧ e.2.1 ≤ 255 ∧ 1 ≤ e.2.2 ∧ e.2.2 ≤ 2
  | 0, _, _, e, he => by simp [elemsF] at he
  | f + 1, [], _, e, he => by simp [elemsF] at he
  | f + 1, c :: l, hl, e, he => by
    rw [elemsF] at he
    cases hb : bestC t (c :: l) with
    | none =>
      rw [hb] at he
      rcases List.mem_append.1 he with he | he
      · have := (ok_col (hl c (by simp)).1 (hl c (by simp)).2).el e he
        omega
      · exact elems_ok ht f l (fun x hx => hl x (List.mem_cons_of_mem _ hx)) e he
    | some b =>
      rw [hb] at he
      rcases List.mem_cons.1 he with rfl | he
      · obtain ⟨x, hx, _⟩ := best_some hb
        have hxm := List.mem_of_getElem? hx
        have h1 := prim_bound (ht.after x hxm).1.has (ht.after x hxm).1.whole
        have h2 := (List.getElem?_eq_some_iff.1 hx).1
        have h3 := ht.few
        have h4 := cap_fold ((c :: l).take b.2) 1 (by omega)
        unfold tailEl
        rw [hx]
        refine ⟨?_, ?_, ?_, h4.1, h4.2⟩
        · show primOf x.2 + b.1 + 1 ≤ _
          omega
        · show 1 ≤ 1
          omega
        · show 1 ≤ 255
          omega
      · exact elems_ok ht f _ (fun x hx => hl x (List.mem_of_mem_drop hx)) e he

end Go.Proofs.YtbnchnbblchmnaaGreatDoor

namespace Go.Proofs.YtbnchnbblchmnaaGreatDoor

abbrev RuleL := List UInt8 × List UInt8
/-- No two rules have the same From. -/
def distB : List RuleL → Bool
  | [] => true
  | x :: t => (t.all fun y => decide (y.1 ≠ x.1)) && distB t
theorem dist_of : ∀ {t : List RuleL}, distB t = true → ∀ (i j : Nat) (x y : RuleL), t[i]? = some x → t[j]? = some y → x.1 = y.1 → i = j
  | [], _, i, _, _, _, h, _, _ => by simp at h
  | z :: t, h, i, j, x, y, hi, hj, hxy => by
    rw [distB, Bool.and_eq_true, List.all_eq_true] at h
    have hne : ∀ y ∈ t, y.1 ≠ z.1 := fun y hy => of_decide_eq_true (h.1 y hy)
    cases i with
    | zero =>
      simp at hi
      subst hi
      cases j with
      | zero => rfl
      | succ j =>
        rw [List.getElem?_cons_succ] at hj
        exact absurd hxy.symm (hne y (List.mem_of_getElem? hj))
    | succ i =>
      rw [List.getElem?_cons_succ] at hi
      cases j with
      | zero =>
        simp at hj
        subst hj
        exact absurd hxy (hne x (List.mem_of_getElem? hi))
      | succ j =>
        rw [List.getElem?_cons_succ] at hj
        rw [dist_of h.2 i j x y hi hj hxy]
def isTok (s : List UInt8) : Bool := decide (s ≠ []) && decide (nSearch s = s)
def headB (l : List Nat) : Bool := match l with | c :: _ => Nat.beq (kN c) 1 | [] => false
/-- The Text of a letter; its After. -/
def textB (s : List UInt8) : Bool := match decR s with | some l => Nat.ble l.length 4 && headB l && decide (nD s = s) && decide (nFold s = s) | none => false
def afterB (s : List UInt8) : Bool := match decR s with | some l => Nat.beq l.length 1 && headB l && isTok s | none => false
def letB (x : RuleL) : Bool := textB x.1 && afterB x.2
def preT (t : List RuleL) : Bool := t.all letB && distB t
def validT (t : List RuleL) : Bool := preT t && decide (t.length ≤ 40)
def letL (x : RuleL) : LetL := (nL x.1, (nL x.2).headD 0)
theorem text_facts {s : List UInt8} (h : textB s = true) : ∃ c l, decR s = some (c :: l) ∧ nL s = c :: l ∧ (c :: l).length ≤ 4 ∧ kN c = 1 ∧ Dec (c :: l) ∧ foldL (c :: l) = c :: l ∧ encL (c :: l) = s := by
  unfold textB at h
  cases hd : decR s with
  | none => rw [hd] at h; cases h
  | some l =>
    rw [hd] at h
    simp only [Bool.and_eq_true, decide_eq_true_eq] at h
    obtain ⟨⟨⟨h1, h2⟩, h3⟩, h4⟩ := h
    have hn : nL s = l := by unfold nL; rw [hd]; rfl
    obtain ⟨he, _⟩ := enc_dec hd
    cases l with
    | nil => cases h2
    | cons c l =>
      have hdc : dcF (c :: l) = c :: l := by
        have h5 := nL_nD s
        rw [h3, hn] at h5
        exact h5.symm
      have hD : Dec (c :: l) := by
        have := dec_dc s
        rw [hn, hdc] at this
        exact this
      have hf : foldL (c :: l) = c :: l := by
        have h5 := nL_nFold s
        rw [h4, hn] at h5
        unfold nFL at h5
        rw [hn, hdc] at h5
        exact h5.symm
      exact ⟨c, l, rfl, hn, by rw [Nat.ble_eq] at h1; exact h1, of_beq h2, hD, hf, he⟩
theorem after_facts {s : List UInt8} (h : afterB s = true) : ∃ c, decR s = some [c] ∧ nL s = [c] ∧ kN c = 1 ∧ GoodE c ∧ encL [c] = s := by
  unfold afterB at h
  cases hd : decR s with
  | none => rw [hd] at h; cases h
  | some l =>
    rw [hd] at h
    unfold isTok at h
    simp only [Bool.and_eq_true, decide_eq_true_eq] at h
    obtain ⟨⟨h1, h2⟩, _, h4⟩ := h
    have hn : nL s = l := by unfold nL; rw [hd]; rfl
    obtain ⟨he, _⟩ := enc_dec hd
    match l, of_beq h1, h2, hn, he with
    | [c], _, h2, hn, he =>
      have h5 := nL_nSearch s
      rw [h4, hn] at h5
      have hk := of_beq h2
      have hm : c ∈ nSL s := by rw [← h5]; simp
      rcases search_mem (dec_dc s) hm with k | k
      · subst k
        have : kN 32 ≠ 1 := by decide +kernel
        exact absurd hk this
      · exact ⟨c, rfl, hn, hk, k, he⟩
theorem valid_let {t : List RuleL} (h : validT t = true) : LetOk (t.map letL) := by
  unfold validT preT at h
  simp only [Bool.and_eq_true, decide_eq_true_eq, List.all_eq_true] at h
  obtain ⟨⟨h1, h2⟩, h3⟩ := h
  have hx : ∀ x ∈ t, textB x.1 = true ∧ afterB x.2 = true := fun x hx => by
    have := h1 x hx
    unfold letB at this
    rwa [Bool.and_eq_true] at this
  refine ⟨fun y hy => ?_, fun y hy => ?_, fun y hy => ?_, fun y hy => ?_, fun i j y z hi hj hyz => ?_, by rw [List.length_map]; exact h3⟩
  · obtain ⟨x, hxm, rfl⟩ := List.mem_map.1 hy
    obtain ⟨c, l, _, k2, k3, _⟩ := text_facts (hx x hxm).1
    show 0 < (nL x.1).length ∧ (nL x.1).length ≤ 4
    rw [k2]
    exact ⟨by simp, k3⟩
  · obtain ⟨x, hxm, rfl⟩ := List.mem_map.1 hy
    obtain ⟨c, l, _, k2, _, _, k5, k6, _⟩ := text_facts (hx x hxm).1
    show Dec (nL x.1) ∧ foldL (nL x.1) = nL x.1
    rw [k2]
    exact ⟨k5, k6⟩
  · obtain ⟨x, hxm, rfl⟩ := List.mem_map.1 hy
    obtain ⟨c, l, _, k2, _, k4, _⟩ := text_facts (hx x hxm).1
    exact ⟨c, l, k2, k4⟩
  · obtain ⟨x, hxm, rfl⟩ := List.mem_map.1 hy
    obtain ⟨c, _, k2, k3, k4, _⟩ := after_facts (hx x hxm).2
    show GoodE ((nL x.2).headD 0) ∧ kN ((nL x.2).headD 0) = 1
    rw [k2]
    exact ⟨k4, k3⟩
  · rw [List.getElem?_map] at hi hj
    obtain ⟨x, hxi, rfl⟩ := Option.map_eq_some_iff.1 hi
    obtain ⟨x', hxj, rfl⟩ := Option.map_eq_some_iff.1 hj
    obtain ⟨c, l, _, k2, _, _, _, _, k7⟩ := text_facts (hx x (List.mem_of_getElem? hxi)).1
    obtain ⟨c', l', _, k2', _, _, _, _, k7'⟩ := text_facts (hx x' (List.mem_of_getElem? hxj)).1
    refine dist_of h2 i j x x' hxi hxj ?_
    rw [← k7, ← k7', ← k2, ← k2']
    exact congrArg encL hyz

/-! The functions. -/
def goodT (t : List RuleL) (s : List UInt8) : Bool := (decR s).isSome && validT t
def elsT (t : List RuleL) (s : List UInt8) : List El := elemsL (t.map letL) (dcF (nL s))
def nPrim (t : List RuleL) (s : List UInt8) : List Nat := if goodT t s = true then primL (elsT t s) else []
def nKey (t : List RuleL) (s : List UInt8) : List UInt8 := if goodT t s = true then (keyN (elsT t s) (nD s)).map UInt8.ofNat else []
def nCmp (t : List RuleL) (a b : List UInt8) : Int := if goodT t a = true ∧ goodT t b = true then cmpE (elsT t a) (elsT t b) (nD a) (nD b) else 0
theorem dc_facts (s : List UInt8) : ∀ c ∈ dcF (nL s), hasN c = true ∧ wholeR c = [c] := fun c hc => ⟨(dec_dc s).1 c hc, (dec_dc s).2.1 c hc⟩
theorem els_ok {t : List RuleL} (h : validT t = true) (s : List UInt8) : ∀ e ∈ elsT t s, e.1 ≤ 10000041 ∧ 1 ≤ e.2.1 ∧ e.2.1 ≤ 255 ∧ 1 ≤ e.2.2 ∧ e.2.2 ≤ 2 := elems_ok (valid_let h) _ _ (dc_facts s)
theorem els_pos {t : List RuleL} (h : validT t = true) (s : List UInt8) : ∀ e ∈ elsT t s, 0 < e.2.1 ∧ 0 < e.2.2 := fun e he => by have := els_ok h s e he; omega
theorem nCmp_self (t : List RuleL) (a : List UInt8) : nCmp t a a = 0 := by
  unfold nCmp
  split
  · exact cmp_self _ _
  · rfl
theorem nCmp_neg (t : List RuleL) (a b : List UInt8) : nCmp t b a = -(nCmp t a b) := by
  unfold nCmp
  by_cases h : goodT t a = true ∧ goodT t b = true
  · rw [if_pos h, if_pos ⟨h.2, h.1⟩]; exact cmp_neg _ _ _ _
  · rw [if_neg h, if_neg (fun h2 => h ⟨h2.2, h2.1⟩)]; rfl
theorem nCmp_vals (t : List RuleL) (a b : List UInt8) : nCmp t a b = -1 ∨ nCmp t a b = 0 ∨ nCmp t a b = 1 := by
  unfold nCmp
  split
  · rename_i h
    have hv : validT t = true := by have := h.1; unfold goodT at this; rw [Bool.and_eq_true] at this; exact this.2
    exact cmp_vals (els_pos hv a) (els_pos hv b) _ _
  · exact .inr (.inl rfl)
theorem good_parts {t : List RuleL} {s : List UInt8} (h : goodT t s = true) : (decR s).isSome = true ∧ validT t = true := by
  unfold goodT at h
  rwa [Bool.and_eq_true] at h
/-- 0 just for equal strings. -/
theorem nCmp_zero {t : List RuleL} {a b : List UInt8} (ha : goodT t a = true) (hb : goodT t b = true) : nCmp t a b = 0 ↔ nD a = nD b := by
  unfold nCmp
  rw [if_pos ⟨ha, hb⟩]
  have key : ∀ {x y : List UInt8}, nD x = nD y → dcF (nL x) = dcF (nL y) := fun {x y} h => by
    have := congrArg nL h
    rwa [nL_nD, nL_nD] at this
  have hz := cmp_zero (t := t.map letL) (d := dcF (nL a)) (e := dcF (nL b)) (fun h => key h)
  exact hz.trans ⟨fun h => by unfold nD; rw [h], fun h => key h⟩
/-- Transitive. -/
theorem nCmp_trans {t : List RuleL} {a b c : List UInt8} (ha : goodT t a = true) (hb : goodT t b = true) (hc : goodT t c = true) : (0 < nCmp t a b ∨ 0 < nCmp t b c ∨ nCmp t a c ≤ 0) ∧ (0 ≤ nCmp t a b ∨ 0 ≤ nCmp t b c ∨ nCmp t a c < 0) := by
  have hv := (good_parts ha).2
  have tr : nCmp t a b = -1 → nCmp t b c = -1 → nCmp t a c = -1 := by
    unfold nCmp
    rw [if_pos ⟨ha, hb⟩, if_pos ⟨hb, hc⟩, if_pos ⟨ha, hc⟩]
    exact cmp_trans (els_pos hv a) (els_pos hv b) (els_pos hv c)
  have same1 : nCmp t a b = 0 → nCmp t a c = nCmp t b c := fun h => by
    have h1 := (nCmp_zero ha hb).1 h
    have h2 : dcF (nL a) = dcF (nL b) := by have := congrArg nL h1; rwa [nL_nD, nL_nD] at this
    unfold nCmp elsT
    rw [if_pos ⟨ha, hc⟩, if_pos ⟨hb, hc⟩, h2, h1]
  have same2 : nCmp t b c = 0 → nCmp t a c = nCmp t a b := fun h => by
    have h1 := (nCmp_zero hb hc).1 h
    have h2 : dcF (nL b) = dcF (nL c) := by have := congrArg nL h1; rwa [nL_nD, nL_nD] at this
    unfold nCmp elsT
    rw [if_pos ⟨ha, hc⟩, if_pos ⟨ha, hb⟩, h2, h1]
  rcases nCmp_vals t a b with h1 | h1 | h1
  · rcases nCmp_vals t b c with h2 | h2 | h2
    · have := tr h1 h2; omega
    · have := same2 h2; omega
    · omega
  · have := same1 h1
    rcases nCmp_vals t b c with h2 | h2 | h2 <;> omega
  · omega
/-- The order of the keys, byte by byte. -/
theorem ofNat_key {l : List Nat} (h : ∀ x ∈ l, x < 256) : (l.map UInt8.ofNat).map (fun x => x.toNat) = l := by
  rw [List.map_map]
  conv => rhs; rw [← List.map_id l]
  apply List.map_congr_left
  intro x hx
  show (UInt8.ofNat x).toNat = x
  rw [UInt8.toNat_ofNat']
  exact Nat.mod_eq_of_lt (h x hx)
theorem key_bytes {t : List RuleL} (h : validT t = true) (s : List UInt8) : ∀ x ∈ keyN (elsT t s) (nD s), x < 256 := by
  intro x hx
  have hok := els_ok h s
  unfold keyN at hx
  simp only [List.mem_append, List.mem_cons] at hx
  rcases hx with hx | hx | hx | hx | hx | hx | hx
  · obtain ⟨p, hp, hx⟩ := List.mem_flatMap.1 hx
    have hp2 : ∃ e ∈ elsT t s, e.1 = p := List.mem_map.1 (List.mem_filter.1 hp).1
    obtain ⟨e, he, rfl⟩ := hp2
    have := hok e he
    simp only [three, List.mem_cons, List.not_mem_nil, or_false] at hx
    omega
  · simp only [three, List.mem_cons, List.not_mem_nil, or_false] at hx
    omega
  · obtain ⟨e, he, rfl⟩ := List.mem_map.1 hx
    have := hok e he
    omega
  · omega
  · obtain ⟨e, he, rfl⟩ := List.mem_map.1 hx
    have := hok e he
    omega
  · omega
  · obtain ⟨b, _, rfl⟩ := List.mem_map.1 hx
    exact b.toNat_lt
theorem nKey_order {t : List RuleL} {a b : List UInt8} (ha : goodT t a = true) (hb : goodT t b = true) : ordB (nKey t a) (nKey t b) = nCmp t a b := by
  have hv := (good_parts ha).2
  unfold nKey nCmp ordB
  rw [if_pos ha, if_pos hb, if_pos ⟨ha, hb⟩, ofNat_key (key_bytes hv a), ofNat_key (key_bytes hv b)]
  exact key_order (els_pos hv a) (els_pos hv b) _ _

end Go.Proofs.YtbnchnbblchmnaaGreatDoor

namespace Go.Proofs.YtbnchnbblchmnaaGreatDoor

theorem good_root {s : List UInt8} (h : (decR s).isSome = true) : goodT [] s = true := by unfold goodT; rw [h]; rfl
theorem dec_enc_some {l : List Nat} (h : ∀ c ∈ l, hasN c = true) : (decR (encL l)).isSome = true := by rw [dec_enc l fun c hc => ok_of_has (h c hc)]; rfl
theorem nL_encL {l : List Nat} (h : ∀ c ∈ l, hasN c = true) : nL (encL l) = l := nL_enc fun c hc => ok_of_has (h c hc)
theorem els_root_of {s : List UInt8} {d : List Nat} (h : nL s = d) (hd : Dec d) : elsT [] s = elemsL [] d ∧ nD s = encL d := by
  unfold elsT nD
  rw [h, dc_dec hd]
  exact ⟨rfl, rfl⟩
theorem dc_no {l : List Nat} (h : ∀ c ∈ l, hasN c = true) (hno : ∀ c ∈ l, c ≠ 223 ∧ c ≠ 962) : ∀ c ∈ dcF l, c ≠ 223 ∧ c ≠ 962 := by
  intro c hc
  obtain ⟨x, hx, hy⟩ := mem_dcF.1 hc
  exact whole_no (h x hx) (hno x hx).1 (hno x hx).2 hy
theorem col_levels {l : List Nat} (hl : ∀ c ∈ l, hasN c = true) (hno : ∀ c ∈ l, c ≠ 223 ∧ c ≠ 962) :
    nPrim [] (nFold (encL l)) = nPrim [] (encL l) ∧ nPrim [] (nStrip (encL l)) = nPrim [] (encL l) ∧ nCmp [] (nFold (encL l)) (encL l) ≤ 0 ∧ nCmp [] (nStrip (encL l)) (encL l) ≤ 0 := by
  have hs := good_root (dec_enc_some hl)
  have hn := nL_encL hl
  have hD : Dec (dcF l) := by have := dec_dc (encL l); rwa [hn] at this
  have hf : goodT [] (nFold (encL l)) = true := good_root (dec_enc_some (nFL_dec _).1)
  have hst : nL (nStrip (encL l)) = (dcF l).filter fun c => !isM c := by rw [nL_strip, hn]
  have hu : goodT [] (nStrip (encL l)) = true := good_root (by
    show (decR (encL ((dcF (nL (encL l))).filter fun c => !isM c))).isSome = true
    rw [hn]
    exact dec_enc_some (strip_dec hD).1)
  have e1 : elsT [] (encL l) = elemsL [] (dcF l) ∧ nD (encL l) = encL (dcF l) := by unfold elsT nD; rw [hn]; exact ⟨rfl, rfl⟩
  have e2 := els_root_of (nL_nFold (encL l)) (nFL_dec _)
  have e3 := els_root_of hst (strip_dec hD)
  have hfl : nFL (encL l) = foldL (dcF l) := by unfold nFL; rw [hn]
  rw [hfl] at e2
  have hall : ∀ c ∈ dcF l, hasN c = true ∧ wholeR c = [c] ∧ c ≠ 223 ∧ c ≠ 962 := fun c hc => ⟨hD.1 c hc, hD.2.1 c hc, dc_no hl hno c hc⟩
  obtain ⟨a1, a2⟩ := fold_levels hall
  obtain ⟨b1, b2⟩ := strip_levels fun c hc => ⟨(hall c hc).1, (hall c hc).2.1⟩
  unfold nPrim nCmp
  rw [if_pos hs, if_pos hf, if_pos hu, if_pos ⟨hf, hs⟩, if_pos ⟨hu, hs⟩, e1.1, e1.2, e2.1, e2.2, e3.1, e3.2]
  exact ⟨a1, b1, a2, b2⟩
theorem dc_head {c : Nat} (r : List Nat) (h : isM c = false) : ∃ b z, dcF (c :: r) = b :: z ∧ kN b ≠ 2 := by
  obtain ⟨b, ms, hw⟩ : ∃ b ms, wholeR c = b :: ms := by
    cases hw : wholeR c with
    | nil => exact absurd hw (whole_ne c)
    | cons b ms => exact ⟨b, ms, rfl⟩
  have hb : clM b = 0 := whole_head (isM_zero.1 h) (by rw [hw]; rfl)
  refine ⟨b, (sortB clM [] (ms ++ r.flatMap wholeR)).reverse, ?_, fun hk => ?_⟩
  · unfold dcF
    rw [List.flatMap_cons, hw]
    exact sort_first hb _
  · have := isM_kind.2 hk
    rw [isM_zero.2 hb] at this
    cases this
theorem col_begin {l : List Nat} (hl : ∀ c ∈ l, hasN c = true) {k c : Nat} (hk : l[k]? = some c) (hm : kN c ≠ 2) : nCmp [] (encL (l.take k)) (encL l) = -1 := by
  have ht : ∀ x ∈ l.take k, hasN x = true := fun x hx => hl x (List.mem_of_mem_take hx)
  have hs := good_root (dec_enc_some hl)
  have hp := good_root (dec_enc_some ht)
  have hM : isM c = false := by
    cases h : isM c with
    | false => rfl
    | true => exact absurd (isM_kind.1 h) hm
  obtain ⟨hkl, hkc⟩ := List.getElem?_eq_some_iff.1 hk
  have hd : l.drop k = c :: l.drop (k + 1) := by
    have := List.drop_eq_getElem_cons hkl
    rwa [hkc] at this
  have hj : dcF l = dcF (l.take k) ++ dcF (l.drop k) := by
    conv => lhs; rw [← List.take_append_drop k l]
    refine dcF_join _ _ fun x hx => ?_
    rw [hd] at hx
    rw [← Option.some.inj hx]
    exact isM_zero.1 hM
  have hD : Dec (dcF l) := by have := dec_dc (encL l); rwa [nL_encL hl] at this
  obtain ⟨b, z, hbz, hkb⟩ := dc_head (l.drop (k + 1)) hM
  unfold nCmp elsT nD
  rw [if_pos ⟨hp, hs⟩, nL_encL hl, nL_encL ht, hj]
  refine begin_less (fun x hx => ?_) ⟨b, by rw [hd, hbz]; rfl, hkb⟩ _ _
  have hxm : x ∈ dcF l := by rw [hj]; exact List.mem_append_right _ hx
  exact ⟨hD.1 x hxm, hD.2.1 x hxm⟩
theorem col_letters {t : List RuleL} (hv : validT t = true) {k : Nat} {x : RuleL} (hx : t[k]? = some x) {r : List UInt8} (hr : (decR r).isSome = true) (hlong : ∀ y ∈ t, y.1.length ≤ x.1.length) (h1 : ∀ y ∈ t, y.1 ≠ x.2) (h2 : ∀ y ∈ t, y.1 ≠ x.2 ++ [57]) :
    ∃ q p, nPrim t (x.1 ++ 32 :: r) = (q + k + 1) :: p ∧ nPrim t x.2 = [q] ∧ nCmp t x.2 (x.1 ++ 32 :: r) = -1 ∧ nCmp t (x.2 ++ [57]) (x.1 ++ 32 :: r) = -1 := by
  have ht := valid_let hv
  have hparts : ∀ y ∈ t, textB y.1 = true ∧ afterB y.2 = true := fun y hy => by
    unfold validT preT at hv
    simp only [Bool.and_eq_true, List.all_eq_true] at hv
    have := hv.1.1 y hy
    unfold letB at this
    rwa [Bool.and_eq_true] at this
  have hxm := List.mem_of_getElem? hx
  obtain ⟨c, z, c1, c2, c3, c4, c5, c6, c7⟩ := text_facts (hparts x hxm).1
  obtain ⟨a, a1, a2, a3, a4, a5⟩ := after_facts (hparts x hxm).2
  have hxl : (t.map letL)[k]? = some (letL x) := by rw [List.getElem?_map, hx]; rfl
  have hlx : letL x = (c :: z, a) := by unfold letL; rw [c2, a2]; rfl
  have henc : ∀ y ∈ t, encL (nL y.1) = y.1 := fun y hy => by
    obtain ⟨_, _, _, k2, _, _, _, _, k7⟩ := text_facts (hparts y hy).1
    rw [k2]; exact k7
  have hd1 : (decR x.1).isSome = true := by rw [c1]; rfl
  have hd2 : (decR x.2).isSome = true := by rw [a1]; rfl
  have h57 : decR [57] = some [57] := by kernel_rfl
  have hd3 : (decR (x.2 ++ [57])).isSome = true := by rw [dec_app a1, h57]; rfl
  have hd4 : (decR (x.1 ++ 32 :: r)).isSome = true := by
    obtain ⟨lr, hlr⟩ := Option.isSome_iff_exists.1 hr
    have e : x.1 ++ 32 :: r = x.1 ++ ([32] ++ r) := rfl
    rw [e, dec_app c1, dec_app dec_blank, hlr]
    rfl
  have g1 : goodT t (x.1 ++ 32 :: r) = true := by unfold goodT; rw [hd4, hv]; rfl
  have g2 : goodT t x.2 = true := by unfold goodT; rw [hd2, hv]; rfl
  have g3 : goodT t (x.2 ++ [57]) = true := by unfold goodT; rw [hd3, hv]; rfl
  have e1 : elsT t (x.1 ++ 32 :: r) = elemsL (t.map letL) ((letL x).1 ++ 32 :: dcF (nL r)) := by
    unfold elsT
    rw [nL_blank hd1 hr, dc_blank, c2, dc_dec c5, hlx]
  have hDa : Dec [a] := ⟨fun y hy => by rw [List.mem_singleton.1 hy]; exact a4.has, fun y hy => by rw [List.mem_singleton.1 hy]; exact a4.whole, trivial⟩
  have e2 : elsT t x.2 = elemsL (t.map letL) [(letL x).2] := by
    unfold elsT
    rw [a2, dc_dec hDa, hlx]
  have hcl : clM 57 = 0 ∧ hasN 57 = true ∧ wholeR 57 = [57] := by decide +kernel
  have hDb : Dec [a, 57] := by
    refine ⟨fun y hy => ?_, fun y hy => ?_, srt_base _ fun y hy => ?_⟩
    · rcases List.mem_cons.1 hy with rfl | hy
      · exact a4.has
      · rw [List.mem_singleton.1 hy]; exact hcl.2.1
    · rcases List.mem_cons.1 hy with rfl | hy
      · exact a4.whole
      · rw [List.mem_singleton.1 hy]; exact hcl.2.2
    · rcases List.mem_cons.1 (List.mem_reverse.1 hy) with rfl | hy
      · exact a4.cls
      · rw [List.mem_singleton.1 hy]; exact hcl.1
  have hnb : nL (x.2 ++ [57]) = [a, 57] := by
    rw [nL_app hd2 (by rw [h57]; rfl), a2]
    have : nL [57] = [57] := by unfold nL; rw [h57]; rfl
    rw [this]; rfl
  have e3 : elsT t (x.2 ++ [57]) = elemsL (t.map letL) [(letL x).2, 57] := by
    unfold elsT
    rw [hnb, dc_dec hDb, hlx]
  have hl1 : ∀ y ∈ t.map letL, (encL y.1).length ≤ (encL (letL x).1).length := fun y hy => by
    obtain ⟨u, hu, rfl⟩ := List.mem_map.1 hy
    show (encL (nL u.1)).length ≤ (encL (nL x.1)).length
    rw [henc u hu, henc x hxm]
    exact hlong u hu
  have hl2 : ∀ y ∈ t.map letL, y.1 ≠ [(letL x).2] := fun y hy => by
    obtain ⟨u, hu, rfl⟩ := List.mem_map.1 hy
    intro he
    refine h1 u hu ?_
    rw [← henc u hu, show nL u.1 = [(letL x).2] from he, hlx]
    exact a5
  have h57e : encL [57] = [57] := by kernel_rfl
  have hl3 : ∀ y ∈ t.map letL, y.1 ≠ [(letL x).2, 57] := fun y hy => by
    obtain ⟨u, hu, rfl⟩ := List.mem_map.1 hy
    intro he
    refine h2 u hu ?_
    rw [← henc u hu, show nL u.1 = [(letL x).2, 57] from he, hlx]
    show encL ([a] ++ [57]) = _
    rw [encL_app, a5, h57e]
  obtain ⟨⟨p, p1⟩, p2, p3, p4⟩ := letters_order ht hxl hl1 hl2 hl3 (dcF (nL r)) (nD x.2) (nD (x.1 ++ 32 :: r)) (nD (x.2 ++ [57]))
  refine ⟨primOf (letL x).2, p, ?_, ?_, ?_, ?_⟩
  · unfold nPrim; rw [if_pos g1, e1]; exact p1
  · unfold nPrim; rw [if_pos g2, e2]; exact p2
  · unfold nCmp; rw [if_pos ⟨g2, g1⟩, e1, e2]; exact p3
  · unfold nCmp; rw [if_pos ⟨g3, g1⟩, e1, e3]; exact p4

end Go.Proofs.YtbnchnbblchmnaaGreatDoor
