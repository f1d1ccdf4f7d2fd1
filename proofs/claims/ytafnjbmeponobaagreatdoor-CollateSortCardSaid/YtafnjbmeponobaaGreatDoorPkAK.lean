/-
  Collation in plain mathematics: the elements of a string, the weights, the comparison, the key.
  What the document promises of collation, in plain mathematics: small letters, marks, beginnings.
  Collation with a tailoring, in plain mathematics: the letters of a tailoring, the bounds of the weights.
-/
import Derived.Test.YtafnjbmeponobaaGreatDoorPkAJ
namespace Go.Proofs.YtafnjbmeponobaaGreatDoor

/-- Primary, secondary, tertiary. -/
abbrev El := Nat × Nat × Nat
def scN (c : Nat) : Nat := (clsF c).1
def capN (c : Nat) : Nat := if Nat.beq (lowN c) c = true then 1 else 2
/-- The characters of the search form of a character. -/
def seaN (c : Nat) : List Nat := searchL (foldL (dcF [c]))
def latL (c : Nat) : List El := (seaN c).map fun x => (30000 + 100 * (x - 97), (if is1 (seaN c) (lowN c) = true then 1 else 2), capN c)
def singleL (c : Nat) : List El :=
  if Nat.beq (kN c) 4 = true then [(100, 1, 1)]
  else if Nat.beq (kN c) 5 = true then [(100 * c, 1, 1)]
  else if Nat.beq (kN c) 3 = true then [(20000 + 100 * (c - 48), 1, 1)]
  else if Nat.beq (kN c) 2 = true then [(0, 10 + (c - 768), 1)]
  else if Nat.beq (scN c) 2 = true then [(50000 + 100 * (lowN c - 945), 1, capN c)]
  else if (Nat.beq (scN c) 3 && Nat.ble (lowN c) 1103) = true then [(60000 + 200 * (lowN c - 1072), 1, capN c)]
  else if Nat.beq (lowN c) 1108 = true then [(61100, 1, capN c)]
  else if Nat.beq (lowN c) 1110 = true then [(61700, 1, capN c)]
  else if Nat.beq (lowN c) 1169 = true then [(60700, 1, capN c)]
  else latL c
/-- What holds of each character of a decomposed form. -/
def okEl (e : El) : Bool := Nat.ble e.1 10000000 && Nat.ble 1 e.2.1 && Nat.ble e.2.1 255 && Nat.ble 1 e.2.2 && Nat.ble e.2.2 2
def okCol (c : Nat) : Bool := !(is1 (wholeR c) c) || ((singleL c).all okEl && Nat.ble 1 (singleL c).length && Nat.ble (singleL c).length 3 &&
  (!(Nat.beq (kN c) 3) || Nat.ble 48 c) && (!(Nat.beq (kN c) 2) || Nat.ble 768 c) && (!(Nat.beq (kN c) 1 && Nat.beq (scN c) 2) || Nat.ble 945 (lowN c)) &&
  (!(Nat.beq (kN c) 1 && Nat.beq (scN c) 3 && Nat.ble (lowN c) 1103) || Nat.ble 1072 (lowN c)) && ((seaN c).all fun x => Nat.ble 32 x) &&
  (Nat.beq (kN c) 2 || (singleL c).all fun e => Nat.ble 1 e.1) && (!(Nat.beq (kN c) 2) || (singleL c).all fun e => Nat.ble 10 e.2.1))
theorem chars_col : (charL.all okCol) = true := by kernel_rfl
/-- Which characters are plain letters in their search forms. -/
def okLat (c : Nat) : Bool := !(is1 (wholeR c) c && Nat.beq (kN c) 1 && Nat.beq (scN c) 1) || ((seaN c).all fun x => Nat.ble 97 x && Nat.ble x 122)
theorem chars_lat : (charL.all okLat) = true := by kernel_rfl

/-! A tailoring: the characters of each Text, the character of its After. -/
abbrev LetL := List Nat × Nat
def passB (l text : List Nat) : Bool := eqB ((l.take text.length).map lowN) text
/-- The longest Text that the list goes on with: its number, its length. -/
def lenB : Option (Nat × Nat) → Nat
  | none => 0
  | some b => b.2
def stepC (l : List Nat) (o : Option (Nat × Nat)) (x : LetL × Nat) : Option (Nat × Nat) :=
  if passB l x.1.1 = true ∧ lenB o < x.1.1.length then some (x.2, x.1.1.length) else o
def bestC (t : List LetL) (l : List Nat) : Option (Nat × Nat) := t.zipIdx.foldl (stepC l) none
def primOf (c : Nat) : Nat := match singleL c with | e :: _ => e.1 | [] => 0
def tailEl (t : List LetL) (l : List Nat) (b : Nat × Nat) : El :=
  ((match t[b.1]? with | some x => primOf x.2 | none => 0) + b.1 + 1, 1, (l.take b.2).foldl (fun m c => max m (capN c)) 1)
def elemsF : Nat → List LetL → List Nat → List El
  | 0, _, _ => []
  | _ + 1, _, [] => []
  | f + 1, t, c :: l => match bestC t (c :: l) with
    | none => singleL c ++ elemsF f t l
    | some b => tailEl t (c :: l) b :: elemsF f t ((c :: l).drop b.2)
def elemsL (t : List LetL) (l : List Nat) : List El := elemsF l.length t l
theorem best_root (l : List Nat) : bestC [] l = none := rfl
/-- In the root, an element's are those of the characters. -/
theorem elems_root : ∀ l : List Nat, elemsL [] l = l.flatMap singleL
  | [] => rfl
  | c :: l => by
    show singleL c ++ elemsF l.length [] l = _
    rw [List.flatMap_cons, ← elems_root l]
    rfl

/-! The lists of weights, the comparison, the key. -/
def primL (e : List El) : List Nat := (e.map fun x => x.1).filter fun p => !Nat.beq p 0
def secL (e : List El) : List Nat := e.map fun x => x.2.1
def terL (e : List El) : List Nat := e.map fun x => x.2.2
def ordB (a b : List UInt8) : Int := ordL (a.map fun x => x.toNat) (b.map fun x => x.toNat)
def cmpE (x y : List El) (a b : List UInt8) : Int := thenI (ordL (primL x) (primL y)) (thenI (ordL (secL x) (secL y)) (thenI (ordL (terL x) (terL y)) (ordB a b)))
def keyN (x : List El) (a : List UInt8) : List Nat := (primL x).flatMap three ++ (three 0 ++ (secL x ++ 0 :: (terL x ++ 0 :: a.map fun x => x.toNat)))
theorem prim_pos {e : List El} : ∀ p ∈ primL e, 0 < p := by
  intro p hp
  have := (List.mem_filter.1 hp).2
  cases p with
  | zero => simp at this
  | succ p => omega
/-- The order of the keys is that of the comparison. -/
theorem key_order {x y : List El} (hx : ∀ e ∈ x, 0 < e.2.1 ∧ 0 < e.2.2) (hy : ∀ e ∈ y, 0 < e.2.1 ∧ 0 < e.2.2) (a b : List UInt8) : ordL (keyN x a) (keyN y b) = cmpE x y a b := by
  unfold keyN cmpE
  rw [three_end _ _ prim_pos prim_pos, ordL_end (z := 0), ordL_end (z := 0)]
  · rfl
  · intro p hp
    obtain ⟨e, he, rfl⟩ := List.mem_map.1 hp
    exact (hx e he).2
  · intro p hp
    obtain ⟨e, he, rfl⟩ := List.mem_map.1 hp
    exact (hy e he).2
  · intro p hp
    obtain ⟨e, he, rfl⟩ := List.mem_map.1 hp
    exact (hx e he).1
  · intro p hp
    obtain ⟨e, he, rfl⟩ := List.mem_map.1 hp
    exact (hy e he).1
theorem cmp_self (x : List El) (a : List UInt8) : cmpE x x a a = 0 := by
  unfold cmpE ordB thenI
  rw [ordL_self, ordL_self, ordL_self, ordL_self]
  rfl
theorem cmp_neg (x y : List El) (a b : List UInt8) : cmpE y x b a = -(cmpE x y a b) := by
  unfold cmpE ordB
  rw [ordL_neg (primL x), ordL_neg (secL x), ordL_neg (terL x), ordL_neg (a.map _), thenI_neg, thenI_neg, thenI_neg]
theorem ordB_zero {a b : List UInt8} : ordB a b = 0 ↔ a = b := by
  unfold ordB
  rw [ordL_zero]
  constructor
  · intro h
    have key : ∀ (a b : List UInt8), a.map (fun x => x.toNat) = b.map (fun x => x.toNat) → a = b := by
      intro a
      induction a with
      | nil => intro b h; cases b with | nil => rfl | cons y b => simp at h
      | cons x a ih =>
        intro b h
        cases b with
        | nil => simp at h
        | cons y b =>
          simp only [List.map_cons, List.cons.injEq] at h
          rw [UInt8.toNat_inj.1 h.1, ih b h.2]
    exact key a b h
  · rintro rfl; rfl
theorem thenI_zero {a b : Int} : thenI a b = 0 ↔ a = 0 ∧ b = 0 := by
  unfold thenI
  by_cases h : a = 0
  · rw [if_pos h]; exact ⟨fun h2 => ⟨h, h2⟩, fun h2 => h2.2⟩
  · rw [if_neg h]; exact ⟨fun h2 => absurd h2 h, fun h2 => absurd h2.1 h⟩
/-- The comparison is 0 just for equal decomposed forms. -/
theorem cmp_zero {t : List LetL} {d e : List Nat} (hd : encL d = encL e → d = e) : cmpE (elemsL t d) (elemsL t e) (encL d) (encL e) = 0 ↔ d = e := by
  constructor
  · intro h
    unfold cmpE at h
    exact hd (ordB_zero.1 (thenI_zero.1 (thenI_zero.1 (thenI_zero.1 h).2).2).2)
  · rintro rfl
    exact cmp_self _ _
/-- Transitive, by the keys. -/
theorem cmp_trans {x y z : List El} (hx : ∀ e ∈ x, 0 < e.2.1 ∧ 0 < e.2.2) (hy : ∀ e ∈ y, 0 < e.2.1 ∧ 0 < e.2.2) (hz : ∀ e ∈ z, 0 < e.2.1 ∧ 0 < e.2.2) {a b c : List UInt8} (h1 : cmpE x y a b = -1) (h2 : cmpE y z b c = -1) : cmpE x z a c = -1 := by
  rw [← key_order hx hy] at h1
  rw [← key_order hy hz] at h2
  rw [← key_order hx hz]
  exact ordL_trans h1 h2
theorem cmp_vals {x y : List El} (hx : ∀ e ∈ x, 0 < e.2.1 ∧ 0 < e.2.2) (hy : ∀ e ∈ y, 0 < e.2.1 ∧ 0 < e.2.2) (a b : List UInt8) : cmpE x y a b = -1 ∨ cmpE x y a b = 0 ∨ cmpE x y a b = 1 := by
  rw [← key_order hx hy]
  exact ordL_vals _ _

end Go.Proofs.YtafnjbmeponobaaGreatDoor

namespace Go.Proofs.YtafnjbmeponobaaGreatDoor

theorem prim_app (a b : List El) : primL (a ++ b) = primL a ++ primL b := by unfold primL; rw [List.map_append, List.filter_append]
theorem sec_app (a b : List El) : secL (a ++ b) = secL a ++ secL b := List.map_append
theorem ter_app (a b : List El) : terL (a ++ b) = terL a ++ terL b := List.map_append
theorem beq_of {a b : Nat} (h : a = b) : Nat.beq a b = true := by rw [Nat.beq_eq]; exact h
theorem of_beq {a b : Nat} (h : Nat.beq a b = true) : a = b := by rw [Nat.beq_eq] at h; exact h
theorem ble_of {a b : Nat} (h : a ≤ b) : Nat.ble a b = true := by rw [Nat.ble_eq]; exact h
structure OkC (c : Nat) : Prop where
  el : ∀ e ∈ singleL c, e.1 ≤ 10000000 ∧ 1 ≤ e.2.1 ∧ e.2.1 ≤ 255 ∧ 1 ≤ e.2.2 ∧ e.2.2 ≤ 2
  some : 1 ≤ (singleL c).length
  few : (singleL c).length ≤ 3
  dig : kN c = 3 → 48 ≤ c
  mark : kN c = 2 → 768 ≤ c
  gr : kN c = 1 → scN c = 2 → 945 ≤ lowN c
  cy : kN c = 1 → scN c = 3 → lowN c ≤ 1103 → 1072 ≤ lowN c
  pos : kN c = 2 ∨ ∀ e ∈ singleL c, 1 ≤ e.1
  ten : kN c = 2 → ∀ e ∈ singleL c, 10 ≤ e.2.1
theorem ok_col {c : Nat} (hc : hasN c = true) (hw : wholeR c = [c]) : OkC c := by
  have h := List.all_eq_true.1 chars_col c ((char_mem c).2 hc)
  unfold okCol at h
  rw [is1_of hw, Bool.not_true, Bool.false_or] at h
  simp only [Bool.and_eq_true, Bool.or_eq_true, Bool.not_eq_true', List.all_eq_true, Nat.ble_eq, okEl] at h
  obtain ⟨⟨⟨⟨⟨⟨⟨⟨⟨h1, h2⟩, h3⟩, h4⟩, h5⟩, h6⟩, h7⟩, h8⟩, h9⟩, h10⟩ := h
  have ne : ∀ {a b : Nat}, a = b → Nat.beq a b = true := fun e => beq_of e
  refine ⟨fun e he => by have := h1 e he; simp only [and_assoc] at this; exact this, h2, h3, fun e => ?_, fun e => ?_, fun e e2 => ?_, fun e e2 e3 => ?_, ?_, fun e => ?_⟩
  · rcases h4 with h | h
    · rw [ne e] at h; cases h
    · exact h
  · rcases h5 with h | h
    · rw [ne e] at h; cases h
    · exact h
  · rcases h6 with h | h
    · rw [ne e, ne e2] at h; cases h
    · exact h
  · rcases h7 with h | h
    · rw [ne e, ne e2, ble_of e3] at h; cases h
    · exact h
  · rcases h9 with h | h
    · exact .inl (of_beq h)
    · exact .inr h
  · rcases h10 with h | h
    · rw [ne e] at h; cases h
    · exact h

/-! Small letters. -/
def elB (x y : El) : Bool := Nat.beq x.1 y.1 && (Nat.beq x.2.1 y.2.1 && Nat.beq x.2.2 y.2.2)
def elsB : List El → List El → Bool
  | [], [] => true
  | x :: l, y :: m => elB x y && elsB l m
  | _, _ => false
theorem els_eq : ∀ {l m : List El}, elsB l m = true → l = m
  | [], [], _ => rfl
  | [], _ :: _, h => by cases h
  | _ :: _, [], h => by cases h
  | x :: l, y :: m, h => by
    simp only [elsB, elB, Bool.and_eq_true, Nat.beq_eq] at h
    obtain ⟨⟨h1, h2, h3⟩, h4⟩ := h
    rw [els_eq h4]
    obtain ⟨x1, x2, x3⟩ := x
    obtain ⟨y1, y2, y3⟩ := y
    simp only at h1 h2 h3
    rw [h1, h2, h3]
def smallEl (e : El) : El := (e.1, e.2.1, 1)
def foldB (c : Nat) : Bool := Nat.beq c 223 || Nat.beq c 962 || !(is1 (wholeR c) c) || (elsB (singleL (lowN c)) ((singleL c).map smallEl) && (!((singleL c).all fun e => Nat.beq e.2.2 1) || Nat.beq (lowN c) c))
theorem chars_fold : (charL.all foldB) = true := by kernel_rfl
theorem fold_single {c : Nat} (hc : hasN c = true) (hw : wholeR c = [c]) (h1 : c ≠ 223) (h2 : c ≠ 962) : singleL (lowN c) = (singleL c).map smallEl ∧ ((∀ e ∈ singleL c, e.2.2 = 1) → lowN c = c) := by
  have h := List.all_eq_true.1 chars_fold c ((char_mem c).2 hc)
  unfold foldB at h
  rw [is1_of hw, beq_false h1, beq_false h2] at h
  simp only [Bool.not_true, Bool.false_or, Bool.and_eq_true, Bool.or_eq_true, Bool.not_eq_true', Nat.beq_eq] at h
  refine ⟨els_eq h.1, fun hall => ?_⟩
  rcases h.2 with h2 | h2
  · rw [List.all_eq_true.2 (fun e he => beq_of (hall e he))] at h2; cases h2
  · exact h2
def noB (c : Nat) : Bool := (Nat.beq c 223 || !((wholeR c).any fun y => Nat.beq y 223)) && (Nat.beq c 962 || !((wholeR c).any fun y => Nat.beq y 962))
theorem chars_no : (charL.all noB) = true := by kernel_rfl
theorem whole_no {c y : Nat} (hc : hasN c = true) (h1 : c ≠ 223) (h2 : c ≠ 962) (hy : y ∈ wholeR c) : y ≠ 223 ∧ y ≠ 962 := by
  have h := List.all_eq_true.1 chars_no c ((char_mem c).2 hc)
  unfold noB at h
  rw [beq_false h1, beq_false h2] at h
  simp only [Bool.false_or, Bool.and_eq_true, Bool.not_eq_true', List.any_eq_false, Nat.beq_eq] at h
  exact ⟨h.1 y hy, h.2 y hy⟩
/-- A list whose characters bear small letters of the same weights. -/
theorem fold_els : ∀ {d : List Nat}, (∀ c ∈ d, hasN c = true ∧ wholeR c = [c] ∧ c ≠ 223 ∧ c ≠ 962) → foldL d = d.map lowN ∧ (foldL d).flatMap singleL = (d.flatMap singleL).map smallEl ∧ ((∀ e ∈ d.flatMap singleL, e.2.2 = 1) → foldL d = d)
  | [], _ => ⟨rfl, rfl, fun _ => rfl⟩
  | c :: d, h => by
    obtain ⟨h1, h2, h3, h4⟩ := h c (by simp)
    obtain ⟨i1, i2, i3⟩ := fold_els fun x hx => h x (List.mem_cons_of_mem _ hx)
    obtain ⟨k1, k2⟩ := fold_single h1 h2 h3 h4
    have e : foldL (c :: d) = lowN c :: foldL d := by
      unfold foldL
      rw [List.flatMap_cons]
      unfold low1
      rw [beq_false h3]
      rfl
    refine ⟨by rw [e, i1]; rfl, by rw [e, List.flatMap_cons, List.flatMap_cons, List.map_append, i2, k1], fun hall => ?_⟩
    rw [e, i3 (fun x hx => hall x (by rw [List.flatMap_cons]; exact List.mem_append_right _ hx)), k2 (fun x hx => hall x (by rw [List.flatMap_cons]; exact List.mem_append_left _ hx))]
theorem ord_small : ∀ l : List El, (∀ e ∈ l, 1 ≤ e.2.2) → ordL (terL (l.map smallEl)) (terL l) = -1 ∨ ∀ e ∈ l, e.2.2 = 1
  | [], _ => .inr (by simp)
  | e :: l, h => by
    have h1 := h e (by simp)
    show ordL (1 :: terL (l.map smallEl)) (e.2.2 :: terL l) = -1 ∨ _
    rw [ordL_cons]
    by_cases k : 1 < e.2.2
    · rw [if_pos k]; exact .inl rfl
    · rw [if_neg k, if_neg (by omega)]
      rcases ord_small l (fun x hx => h x (List.mem_cons_of_mem _ hx)) with i | i
      · exact .inl i
      · right
        intro x hx
        rcases List.mem_cons.1 hx with rfl | hx
        · omega
        · exact i x hx
/-- The folded form has the same primary weights and does not come behind. -/
theorem fold_levels {d : List Nat} (h : ∀ c ∈ d, hasN c = true ∧ wholeR c = [c] ∧ c ≠ 223 ∧ c ≠ 962) :
    primL (elemsL [] (foldL d)) = primL (elemsL [] d) ∧ cmpE (elemsL [] (foldL d)) (elemsL [] d) (encL (foldL d)) (encL d) ≤ 0 := by
  obtain ⟨_, h2, h3⟩ := fold_els h
  rw [elems_root, elems_root, h2]
  have hp : primL ((d.flatMap singleL).map smallEl) = primL (d.flatMap singleL) := by unfold primL smallEl; rw [List.map_map]; rfl
  have hs : secL ((d.flatMap singleL).map smallEl) = secL (d.flatMap singleL) := by unfold secL smallEl; rw [List.map_map]; rfl
  refine ⟨hp, ?_⟩
  unfold cmpE
  rw [hp, hs, ordL_self, ordL_self]
  have ht : ∀ e ∈ d.flatMap singleL, 1 ≤ e.2.2 := fun e he => by
    obtain ⟨c, hc, hec⟩ := List.mem_flatMap.1 he
    exact ((ok_col (h c hc).1 (h c hc).2.1).el e hec).2.2.2.1
  rcases ord_small _ ht with k | k
  · rw [k]; simp [thenI]
  · have e : (d.flatMap singleL).map smallEl = d.flatMap singleL := by
      conv => rhs; rw [← List.map_id (d.flatMap singleL)]
      apply List.map_congr_left
      intro x hx
      obtain ⟨a, b, c⟩ := x
      have := k _ hx
      simp only at this
      subst this
      rfl
    rw [e, h3 k, ordL_self]
    unfold ordB
    rw [ordL_self]
    decide

/-! Marks. -/
theorem mark_single {c : Nat} (h : kN c = 2) : ∃ s, singleL c = [(0, s, 1)] ∧ 10 ≤ s := by
  refine ⟨10 + (c - 768), ?_, by omega⟩
  unfold singleL
  rw [h]
  rfl
theorem low_sec : (charL.all fun c => Nat.beq (kN c) 2 || !(is1 (wholeR c) c) || (singleL c).all fun e => Nat.ble e.2.1 2) = true := by kernel_rfl
theorem base_sec {c : Nat} (hc : hasN c = true) (hw : wholeR c = [c]) (hk : kN c ≠ 2) : ∀ e ∈ singleL c, e.2.1 ≤ 2 := by
  have h := List.all_eq_true.1 low_sec c ((char_mem c).2 hc)
  rw [is1_of hw, beq_false hk] at h
  simp only [Bool.not_true, Bool.false_or, List.all_eq_true, Nat.ble_eq] at h
  exact h
theorem isM_kind {c : Nat} : isM c = true ↔ kN c = 2 := by
  constructor
  · intro h
    refine Decidable.byContradiction fun hk => ?_
    have : isMarkA c = false := by
      cases hm : isMarkA c with
      | false => rfl
      | true => exact absurd (mark_kind hm) hk
    rw [isM_zero.2 (clM_zero this)] at h
    cases h
  · intro h
    exact isM_pos.2 (mark_pos (kind_mark h))
/-- Without the marks: the same primary weights; ahead, or there are none. -/
theorem strip_sec : ∀ {d : List Nat}, (∀ c ∈ d, hasN c = true ∧ wholeR c = [c]) → primL ((d.filter fun c => !isM c).flatMap singleL) = primL (d.flatMap singleL) ∧
    (ordL (secL ((d.filter fun c => !isM c).flatMap singleL)) (secL (d.flatMap singleL)) = -1 ∨ (d.filter fun c => !isM c) = d)
  | [], _ => ⟨rfl, .inr rfl⟩
  | c :: d, h => by
    obtain ⟨h1, h2⟩ := h c (by simp)
    have hr := fun x hx => h x (List.mem_cons_of_mem _ hx)
    obtain ⟨i1, i2⟩ := strip_sec hr
    rw [List.flatMap_cons]
    cases hm : isM c with
    | false =>
      rw [List.filter_cons_of_pos (by rw [hm]; rfl), List.flatMap_cons, prim_app, prim_app, sec_app, sec_app, i1, ordL_app]
      refine ⟨rfl, ?_⟩
      rcases i2 with i2 | i2
      · exact .inl i2
      · exact .inr (by rw [i2])
    | true =>
      rw [List.filter_cons_of_neg (by rw [hm]; simp)]
      obtain ⟨s, hs, hs10⟩ := mark_single (isM_kind.1 hm)
      rw [hs, prim_app, sec_app, i1]
      refine ⟨rfl, .inl ?_⟩
      show ordL (secL ((d.filter fun c => !isM c).flatMap singleL)) (s :: secL (d.flatMap singleL)) = -1
      cases hf : (d.filter fun c => !isM c) with
      | nil => rfl
      | cons b r =>
        have hb : b ∈ d.filter fun c => !isM c := by rw [hf]; simp
        have hbd := (List.mem_filter.1 hb).1
        have hbm : isM b = false := by have := (List.mem_filter.1 hb).2; simpa using this
        have hk : kN b ≠ 2 := fun e => by rw [isM_kind.2 e] at hbm; cases hbm
        have hso := (ok_col (hr b hbd).1 (hr b hbd).2).some
        have hsl := base_sec (hr b hbd).1 (hr b hbd).2 hk
        rw [List.flatMap_cons]
        cases hsb : singleL b with
        | nil => rw [hsb] at hso; simp at hso
        | cons e el =>
          have := hsl e (by rw [hsb]; simp)
          show ordL (e.2.1 :: _) (s :: _) = -1
          rw [ordL_cons, if_pos (by omega)]
theorem strip_levels {d : List Nat} (h : ∀ c ∈ d, hasN c = true ∧ wholeR c = [c]) :
    primL (elemsL [] (d.filter fun c => !isM c)) = primL (elemsL [] d) ∧ cmpE (elemsL [] (d.filter fun c => !isM c)) (elemsL [] d) (encL (d.filter fun c => !isM c)) (encL d) ≤ 0 := by
  obtain ⟨h1, h2⟩ := strip_sec h
  rw [elems_root, elems_root]
  refine ⟨h1, ?_⟩
  rcases h2 with h2 | h2
  · unfold cmpE
    rw [h1, ordL_self, h2]
    simp [thenI]
  · rw [h2, cmp_self]
    decide
theorem srt_base : ∀ R : List Nat, (∀ c ∈ R, clM c = 0) → Srt clM R
  | [], _ => trivial
  | [_], _ => trivial
  | y :: x :: r, h => ⟨fun h0 => by rw [h y (by simp)] at h0; omega, srt_base (x :: r) fun c hc => h c (List.mem_cons_of_mem _ hc)⟩
theorem strip_dec {d : List Nat} (h : Dec d) : Dec (d.filter fun c => !isM c) := by
  refine ⟨fun c hc => h.1 c (List.mem_filter.1 hc).1, fun y hy => h.2.1 y (List.mem_filter.1 hy).1, srt_base _ fun c hc => ?_⟩
  have := (List.mem_filter.1 (List.mem_reverse.1 hc)).2
  exact isM_zero.1 (by simpa using this)

/-! Beginnings. -/
theorem begin_less {a b : List Nat} (hb : ∀ c ∈ b, hasN c = true ∧ wholeR c = [c]) (h : ∃ c, b.head? = some c ∧ kN c ≠ 2) (u v : List UInt8) : cmpE (elemsL [] a) (elemsL [] (a ++ b)) u v = -1 := by
  obtain ⟨c, hc, hk⟩ := h
  cases b with
  | nil => cases hc
  | cons x b =>
    injection hc with hc
    subst hc
    obtain ⟨h1, h2⟩ := hb x (by simp)
    have ok := ok_col h1 h2
    rw [elems_root, elems_root, List.flatMap_append, List.flatMap_cons]
    unfold cmpE
    rw [prim_app, prim_app, ordL_longer]
    · rfl
    · cases hs : singleL x with
      | nil => have := ok.some; rw [hs] at this; simp at this
      | cons e l =>
        rcases ok.pos with h3 | h3
        · exact absurd h3 hk
        · have h4 := h3 e (by rw [hs]; simp)
          intro h5
          have : e.1 ∈ primL (e :: l) := by
            unfold primL
            refine List.mem_filter.2 ⟨by simp, ?_⟩
            rw [beq_false (by omega)]
            rfl
          rw [(List.append_eq_nil_iff.1 h5).1] at this
          simp at this

end Go.Proofs.YtafnjbmeponobaaGreatDoor

namespace Go.Proofs.YtafnjbmeponobaaGreatDoor

theorem eqB_self : ∀ l : List Nat, eqB l l = true
  | [] => rfl
  | a :: l => by
    show (Nat.beq a a && eqB l l) = true
    rw [beq_true, eqB_self l]; rfl
theorem pass_iff {l y : List Nat} : passB l y = true ↔ (l.take y.length).map lowN = y := ⟨fun h => eqB_eq h, fun h => by unfold passB; rw [h]; exact eqB_self y⟩

/-! The longest Text. -/
/-- What is the best of the letters looked at so far, k of them. -/
def BestTo (t : List LetL) (l : List Nat) (o : Option (Nat × Nat)) : Prop :=
  match o with
  | none => ∀ y ∈ t, passB l y.1 = true → y.1.length = 0
  | some b => ∃ x, t[b.1]? = some x ∧ x.1.length = b.2 ∧ 0 < b.2 ∧ passB l x.1 = true ∧ ∀ y ∈ t, passB l y.1 = true → y.1.length ≤ b.2
theorem bestTo_step {t : List LetL} {l : List Nat} {o : Option (Nat × Nat)} (h : BestTo t l o) (x : LetL) : BestTo (t ++ [x]) l (stepC l o (x, t.length)) := by
  unfold stepC
  by_cases hx : passB l x.1 = true ∧ lenB o < x.1.length
  · rw [if_pos hx]
    refine ⟨x, by simp, rfl, by show 0 < x.1.length; omega, hx.1, fun y hy hp => ?_⟩
    show y.1.length ≤ x.1.length
    rcases List.mem_append.1 hy with hy | hy
    · cases o with
      | none => have := h y hy hp; omega
      | some b =>
        obtain ⟨z, _, _, _, _, h5⟩ := h
        have h6 := h5 y hy hp
        have h7 : b.2 < x.1.length := hx.2
        omega
    · rw [List.mem_singleton.1 hy]; exact Nat.le_refl _
  · rw [if_neg hx]
    cases o with
    | none =>
      intro y hy hp
      rcases List.mem_append.1 hy with hy | hy
      · exact h y hy hp
      · rw [List.mem_singleton.1 hy] at hp ⊢
        have : ¬ 0 < x.1.length := fun h0 => hx ⟨hp, h0⟩
        omega
    | some b =>
      obtain ⟨z, h1, h2, h3, h4, h5⟩ := h
      refine ⟨z, by rw [List.getElem?_append_left (List.getElem?_eq_some_iff.1 h1).1]; exact h1, h2, h3, h4, fun y hy hp => ?_⟩
      rcases List.mem_append.1 hy with hy | hy
      · exact h5 y hy hp
      · rw [List.mem_singleton.1 hy] at hp ⊢
        have : ¬ b.2 < x.1.length := fun h0 => hx ⟨hp, h0⟩
        omega
theorem bestTo_fold (l : List Nat) : ∀ (u t : List LetL) (o : Option (Nat × Nat)), BestTo t l o → BestTo (t ++ u) l ((u.zipIdx t.length).foldl (stepC l) o)
  | [], t, o, h => by rw [List.append_nil]; exact h
  | x :: u, t, o, h => by
    have h1 := bestTo_fold l u (t ++ [x]) _ (bestTo_step h x)
    rw [List.append_assoc, List.length_append, List.length_singleton] at h1
    exact h1
theorem bestTo_all (t : List LetL) (l : List Nat) : BestTo t l (bestC t l) := by
  have h := bestTo_fold l t [] none (fun y hy => by simp at hy)
  exact h
theorem best_is_none {t : List LetL} {l : List Nat} (h : ∀ y ∈ t, passB l y.1 = true → y.1.length = 0) : bestC t l = none := by
  have hb := bestTo_all t l
  cases ho : bestC t l with
  | none => rfl
  | some b =>
    rw [ho] at hb
    obtain ⟨x, h1, h2, h3, h4, _⟩ := hb
    have := h x (List.mem_of_getElem? h1) h4
    omega
theorem best_is {t : List LetL} {l : List Nat} {k : Nat} {x : LetL} (hx : t[k]? = some x) (hp : passB l x.1 = true) (h0 : 0 < x.1.length) (h : ∀ (i : Nat) (y : LetL), t[i]? = some y → passB l y.1 = true → i = k ∨ y.1.length < x.1.length) : bestC t l = some (k, x.1.length) := by
  have hb := bestTo_all t l
  cases ho : bestC t l with
  | none =>
    rw [ho] at hb
    have := hb x (List.mem_of_getElem? hx) hp
    omega
  | some b =>
    rw [ho] at hb
    obtain ⟨y, h1, h2, h3, h4, h5⟩ := hb
    have h6 := h5 x (List.mem_of_getElem? hx) hp
    rcases h b.1 y h1 h4 with h7 | h7
    · obtain ⟨b1, b2⟩ := b
      simp only at h1 h2 h7 ⊢
      subst h7
      rw [h1] at hx
      rw [← h2, Option.some.inj hx]
    · omega
theorem best_some {t : List LetL} {l : List Nat} {b : Nat × Nat} (h : bestC t l = some b) : ∃ x, t[b.1]? = some x ∧ x.1.length = b.2 ∧ 0 < b.2 ∧ passB l x.1 = true ∧ b.2 ≤ l.length := by
  have hb := bestTo_all t l
  rw [h] at hb
  obtain ⟨x, h1, h2, h3, h4, _⟩ := hb
  refine ⟨x, h1, h2, h3, h4, ?_⟩
  have h5 := congrArg List.length (pass_iff.1 h4)
  rw [List.length_map, List.length_take] at h5
  omega

/-- A valid tailoring, by its characters. -/
structure LetOk (t : List LetL) : Prop where
  size : ∀ x ∈ t, 0 < x.1.length ∧ x.1.length ≤ 4
  dec : ∀ x ∈ t, Dec x.1 ∧ foldL x.1 = x.1
  head : ∀ x ∈ t, ∃ c r, x.1 = c :: r ∧ kN c = 1
  after : ∀ x ∈ t, GoodE x.2 ∧ kN x.2 = 1
  dist : ∀ (i j : Nat) (x y : LetL), t[i]? = some x → t[j]? = some y → x.1 = y.1 → i = j
  few : t.length ≤ 40
theorem fold_own : ∀ {l : List Nat}, (∀ c ∈ l, hasN c = true ∧ wholeR c = [c]) → foldL l = l → ∀ c ∈ l, lowN c = c := by
  intro l hl h c hc
  have hlen : ∀ l : List Nat, l.length ≤ (foldL l).length := by
    intro l
    induction l with
    | nil => exact Nat.zero_le _
    | cons x l ih =>
      have e : foldL (x :: l) = low1 x ++ foldL l := by unfold foldL; rw [List.flatMap_cons]
      rw [e, List.length_append]
      have : 1 ≤ (low1 x).length := by rcases low1_head x with k | ⟨_, k⟩ <;> rw [k] <;> simp
      simp only [List.length_cons]
      omega
  have key : ∀ l : List Nat, foldL l = l → ∀ c ∈ l, lowN c = c := by
    intro l
    induction l with
    | nil => intro _ c hc; simp at hc
    | cons x l ih =>
      intro h c hc
      have e : foldL (x :: l) = low1 x ++ foldL l := by unfold foldL; rw [List.flatMap_cons]
      rw [e] at h
      rcases low1_head x with k | ⟨k0, k⟩
      · rw [k] at h
        injection h with h1 h2
        rcases List.mem_cons.1 hc with rfl | hc
        · exact h1
        · exact ih h2 c hc
      · rw [k] at h
        have := congrArg List.length h
        have h2 := hlen l
        simp at this
        omega
  exact key l h c hc
theorem map_low {l : List Nat} (h : ∀ c ∈ l, lowN c = c) : l.map lowN = l := by
  conv => rhs; rw [← List.map_id l]
  exact List.map_congr_left h
theorem LetOk.low {t : List LetL} (h : LetOk t) {x : LetL} (hx : x ∈ t) : ∀ c ∈ x.1, lowN c = c :=
  fold_own (fun c hc => ⟨(h.dec x hx).1.1 c hc, (h.dec x hx).1.2.1 c hc⟩) (h.dec x hx).2
theorem enc_longer (a : List Nat) {z : List Nat} (hz : z ≠ []) : (encL a).length < (encL (a ++ z)).length := by
  cases z with
  | nil => exact absurd rfl hz
  | cons c z =>
    have e : encL (a ++ c :: z) = encL a ++ (encC c ++ encL z) := by rw [encL_app]; rfl
    rw [e, List.length_append, List.length_append]
    have := (encC_len c).1
    omega
/-- The Text of a letter, a blank behind it. -/
theorem best_letter {t : List LetL} (ht : LetOk t) {k : Nat} {x : LetL} (hx : t[k]? = some x) (hlong : ∀ y ∈ t, (encL y.1).length ≤ (encL x.1).length) (r : List Nat) : bestC t (x.1 ++ 32 :: r) = some (k, x.1.length) := by
  have hxm := List.mem_of_getElem? hx
  have hlx := ht.low hxm
  refine best_is hx (pass_iff.2 (by rw [List.take_left]; exact map_low hlx)) (ht.size x hxm).1 fun i y hy hp => ?_
  have hym := List.mem_of_getElem? hy
  have h1 := pass_iff.1 hp
  rcases Nat.lt_trichotomy y.1.length x.1.length with h2 | h2 | h2
  · exact .inr h2
  · left
    rw [h2, List.take_left, map_low hlx] at h1
    exact ht.dist i k y x hy hx h1.symm
  · exfalso
    have e : y.1 = x.1 ++ ((32 :: r).take (y.1.length - x.1.length)).map lowN := by
      rw [List.take_append, List.take_of_length_le (by omega), List.map_append, map_low hlx] at h1
      exact h1.symm
    have hne : ((32 :: r).take (y.1.length - x.1.length)).map lowN ≠ [] := by
      obtain ⟨n, hn⟩ : ∃ n, y.1.length - x.1.length = n + 1 := ⟨y.1.length - x.1.length - 1, by omega⟩
      rw [hn]; simp
    have h3 := enc_longer x.1 hne
    rw [← e] at h3
    have := hlong y hym
    omega
theorem len_one : (charL.all fun c => !(Nat.beq (kN c) 1 && is1 (seaN c) c) || (Nat.beq (singleL c).length 1)) = true := by kernel_rfl
theorem good_sea {e : Nat} (h : GoodE e) : seaN e = [e] := by
  unfold seaN searchL
  have h1 : dcF [e] = [e] := by
    refine dcF_plain ⟨fun y hy => ?_, trivial⟩
    rw [List.mem_singleton.1 hy]
    exact h.whole
  have h2 : foldL [e] = [e] := by unfold foldL; rw [List.flatMap_cons, h.low]; rfl
  rw [h1, h2, List.flatMap_cons, tok_good h]
  show sq (e :: []) = [e]
  rw [sq_cons h.nsp]
  rfl
theorem good_one {e : Nat} (h : GoodE e) (hk : kN e = 1) : ∃ s u, singleL e = [(primOf e, s, u)] ∧ 0 < primOf e := by
  have h1 := List.all_eq_true.1 len_one e ((char_mem e).2 h.has)
  rw [hk, is1_of (good_sea h)] at h1
  simp only [beq_true, Bool.and_self, Bool.not_true, Bool.false_or, Nat.beq_eq] at h1
  obtain ⟨x, hx⟩ := List.length_eq_one_iff.1 h1
  obtain ⟨p, s, u⟩ := x
  refine ⟨s, u, by unfold primOf; rw [hx], ?_⟩
  rcases (ok_col h.has h.whole).pos with h2 | h2
  · rw [hk] at h2; cases h2
  · have := h2 (p, s, u) (by rw [hx]; simp)
    unfold primOf
    rw [hx]
    exact this
theorem low_good {e : Nat} (h : GoodE e) : lowN e = e := good_lower h
theorem pass_short {l y : List Nat} (h : passB l y = true) : y.length ≤ l.length := by
  have h1 := congrArg List.length (pass_iff.1 h)
  rw [List.length_map, List.length_take] at h1
  omega
/-- The After of a letter, alone or with a digit behind it. -/
theorem after_els {t : List LetL} (ht : LetOk t) {a : Nat} (ha : GoodE a) (h1 : ∀ y ∈ t, y.1 ≠ [a]) (h2 : ∀ y ∈ t, y.1 ≠ [a, 57]) :
    elemsL t [a] = singleL a ∧ elemsL t [a, 57] = singleL a ++ singleL 57 := by
  have low := low_good ha
  have low9 : lowN 57 = 57 := by decide +kernel
  have b1 : bestC t [a] = none := best_is_none fun y hy hp => by
    have h3 := pass_short hp
    have h4 := pass_iff.1 hp
    match hl : y.1 with
    | [] => rfl
    | [c] =>
      rw [hl] at h4
      exfalso
      have : [lowN a] = [c] := h4
      rw [low] at this
      exact h1 y hy (by rw [hl, this])
    | c :: d :: r => rw [hl] at h3; simp at h3
  have b2 : bestC t [a, 57] = none := best_is_none fun y hy hp => by
    have h3 := pass_short hp
    have h4 := pass_iff.1 hp
    match hl : y.1 with
    | [] => rfl
    | [c] =>
      rw [hl] at h4
      exfalso
      have : [lowN a] = [c] := h4
      rw [low] at this
      exact h1 y hy (by rw [hl, this])
    | [c, d] =>
      rw [hl] at h4
      exfalso
      have : [lowN a, lowN 57] = [c, d] := h4
      rw [low, low9] at this
      exact h2 y hy (by rw [hl, this])
    | c :: d :: e :: r => rw [hl] at h3; simp at h3
  have b3 : bestC t [57] = none := best_is_none fun y hy hp => by
    have h3 := pass_short hp
    have h4 := pass_iff.1 hp
    obtain ⟨c, r, hc, hkc⟩ := ht.head y hy
    exfalso
    rw [hc] at h3 h4
    cases r with
    | nil =>
      have : [lowN 57] = [c] := h4
      rw [low9] at this
      injection this with h5 _
      subst h5
      have : kN 57 ≠ 1 := by decide +kernel
      exact this hkc
    | cons d r => simp at h3
  constructor
  · show (match bestC t [a] with | none => singleL a ++ elemsF 0 t [] | some b => _) = _
    rw [b1]
    exact List.append_nil _
  · show (match bestC t [a, 57] with | none => singleL a ++ elemsF 1 t [57] | some b => _) = _
    rw [b2]
    show singleL a ++ (match bestC t [57] with | none => singleL 57 ++ elemsF 0 t [] | some b => _) = _
    rw [b3]
    show singleL a ++ (singleL 57 ++ []) = _
    rw [List.append_nil]
/-- P8.5: a string that begins with a letter of a tailoring. -/
theorem letter_els {t : List LetL} (ht : LetOk t) {k : Nat} {x : LetL} (hx : t[k]? = some x) (hlong : ∀ y ∈ t, (encL y.1).length ≤ (encL x.1).length) (r : List Nat) :
    ∃ e l, elemsL t (x.1 ++ 32 :: r) = e :: l ∧ e.1 = primOf x.2 + k + 1 := by
  obtain ⟨c, z, hc, _⟩ := ht.head x (List.mem_of_getElem? hx)
  have hb := best_letter ht hx hlong r
  rw [hc] at hb ⊢
  refine ⟨tailEl t (c :: (z ++ 32 :: r)) (k, (c :: z).length), elemsF (z ++ 32 :: r).length t ((c :: (z ++ 32 :: r)).drop (c :: z).length), ?_, ?_⟩
  · show (match bestC t (c :: (z ++ 32 :: r)) with | none => singleL c ++ _ | some b => tailEl t (c :: (z ++ 32 :: r)) b :: elemsF _ t ((c :: (z ++ 32 :: r)).drop b.2)) = _
    rw [show bestC t (c :: (z ++ 32 :: r)) = some (k, (c :: z).length) from hb]
    rfl
  · show (match t[k]? with | some x => primOf x.2 | none => 0) + k + 1 = _
    rw [hx]
theorem letters_order {t : List LetL} (ht : LetOk t) {k : Nat} {x : LetL} (hx : t[k]? = some x) (hlong : ∀ y ∈ t, (encL y.1).length ≤ (encL x.1).length) (h1 : ∀ y ∈ t, y.1 ≠ [x.2]) (h2 : ∀ y ∈ t, y.1 ≠ [x.2, 57]) (r : List Nat) (u v w : List UInt8) :
    (∃ p, primL (elemsL t (x.1 ++ 32 :: r)) = (primOf x.2 + k + 1) :: p) ∧ primL (elemsL t [x.2]) = [primOf x.2] ∧ cmpE (elemsL t [x.2]) (elemsL t (x.1 ++ 32 :: r)) u v = -1 ∧ cmpE (elemsL t [x.2, 57]) (elemsL t (x.1 ++ 32 :: r)) w v = -1 := by
  obtain ⟨ha, hk⟩ := ht.after x (List.mem_of_getElem? hx)
  obtain ⟨s, q, hs, hp⟩ := good_one ha hk
  obtain ⟨e1, e2⟩ := after_els ht ha h1 h2
  obtain ⟨e, l, hel, he⟩ := letter_els ht hx hlong r
  have hpr : ∃ p, primL (elemsL t (x.1 ++ 32 :: r)) = (primOf x.2 + k + 1) :: p := by
    rw [hel]
    refine ⟨primL l, ?_⟩
    unfold primL
    rw [List.map_cons, List.filter_cons_of_pos (by rw [he, beq_false (by omega)]; rfl), he]
  have hpa : primL (elemsL t [x.2]) = [primOf x.2] := by
    rw [e1, hs]
    unfold primL
    rw [List.map_cons, List.filter_cons_of_pos (by rw [beq_false (show (primOf x.2, s, q).1 ≠ 0 by show primOf x.2 ≠ 0; omega)]; rfl)]
    rfl
  obtain ⟨p, hpp⟩ := hpr
  refine ⟨⟨p, hpp⟩, hpa, ?_, ?_⟩
  · unfold cmpE
    rw [hpp, hpa, ordL_cons, if_pos (by omega)]
    rfl
  · unfold cmpE
    have hp9 : ∃ z, primL (elemsL t [x.2, 57]) = primOf x.2 :: z := by
      rw [e2, prim_app, ← e1, hpa]
      exact ⟨_, rfl⟩
    obtain ⟨z, hz⟩ := hp9
    rw [hpp, hz, ordL_cons, if_pos (by omega)]
    rfl
/-- The bounds of all weights. -/
theorem cap_bound (c : Nat) : 1 ≤ capN c ∧ capN c ≤ 2 := by unfold capN; split <;> omega
theorem cap_fold (l : List Nat) : ∀ m, 1 ≤ m ∧ m ≤ 2 → 1 ≤ l.foldl (fun m c => max m (capN c)) m ∧ l.foldl (fun m c => max m (capN c)) m ≤ 2 := by
  induction l with
  | nil => intro m h; exact h
  | cons c l ih => intro m h; have := cap_bound c; exact ih _ ⟨Nat.le_trans h.1 (Nat.le_max_left _ _), Nat.max_le.2 ⟨h.2, this.2⟩⟩
theorem prim_bound {c : Nat} (hc : hasN c = true) (hw : wholeR c = [c]) : primOf c ≤ 10000000 := by
  unfold primOf
  cases h : singleL c with
  | nil => exact Nat.zero_le _
  | cons e l => exact ((ok_col hc hw).el e (by rw [h]; simp)).1
theorem elems_ok {t : List LetL} (ht : LetOk t) : ∀ (f : Nat) (l : List Nat), (∀ c ∈ l, hasN c = true ∧ wholeR c = [c]) → ∀ e ∈ elemsF f t l, e.1 ≤ 10000041 ∧ 1 ≤ e.2.1 ∧ e.2.1 ≤ 255 ∧ 1 ≤ e.2.2 ∧ e.2.2 ≤ 2
  | 0, _, _, e, he => by simp [elemsF] at he
  | f + 1, [], _, e, he => by simp [elemsF] at he
  | f + 1, c :: l, hl, e, he => by
    rw [elemsF] at he
    cases hb : bestC t (c :: l) with
    | none =>
      rw [hb] at he
      rcases List.mem_append.1 he with he | he
      · have := (ok_col (hl c (by simp)).1 (hl c (by simp)).2).el e he
        omega
      · exact elems_ok ht f l (fun x hx => hl x (List.mem_cons_of_mem _ hx)) e he
    | some b =>
      rw [hb] at he
      rcases List.mem_cons.1 he with rfl | he
      · obtain ⟨x, hx, _⟩ := best_some hb
        have hxm := List.mem_of_getElem? hx
        have h1 := prim_bound (ht.after x hxm).1.has (ht.after x hxm).1.whole
        have h2 := (List.getElem?_eq_some_iff.1 hx).1
        have h3 := ht.few
        have h4 := cap_fold ((c :: l).take b.2) 1 (by omega)
        unfold tailEl
        rw [hx]
        refine ⟨?_, ?_, ?_, h4.1, h4.2⟩
        · show primOf x.2 + b.1 + 1 ≤ _
          omega
        · show 1 ≤ 1
          omega
        · show 1 ≤ 255
          omega
      · exact elems_ok ht f _ (fun x hx => hl x (List.mem_of_mem_drop hx)) e he

end Go.Proofs.YtafnjbmeponobaaGreatDoor
