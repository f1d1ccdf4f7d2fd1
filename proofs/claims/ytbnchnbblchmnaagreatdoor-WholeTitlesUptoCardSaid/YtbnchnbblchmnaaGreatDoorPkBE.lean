/-
  Comparing lists of numbers, and its bytes.
  Collation in plain mathematics: the elements of a string, the weights, the comparison, the key.
  What the document promises of collation, in plain mathematics: small letters, marks, beginnings.
-/
import Derived.ProofKit
import Derived.Test.YtbnchnbblchmnaaGreatDoorPkAJ
namespace Go.Proofs.YtbnchnbblchmnaaGreatDoor

/-- Lists are compared number by number; the beginning of a list is less than it. -/
def ordL : List Nat → List Nat → Int
  | [], [] => 0
  | [], _ :: _ => -1
  | _ :: _, [] => 1
  | a :: l, b :: m => if a < b then -1 else if b < a then 1 else ordL l m
theorem ordL_cons (a b : Nat) (l m : List Nat) : ordL (a :: l) (b :: m) = if a < b then -1 else if b < a then 1 else ordL l m := rfl
theorem ordL_vals (l : List Nat) : ∀ m : List Nat, ordL l m = -1 ∨ ordL l m = 0 ∨ ordL l m = 1 := by
  induction l with
  | nil => intro m; cases m <;> simp [ordL]
  | cons a l ih =>
    intro m
    cases m with
    | nil => simp [ordL]
    | cons b m =>
      rw [ordL]
      split
      · simp
      · split
        · simp
        · exact ih m
theorem ordL_self : ∀ l : List Nat, ordL l l = 0
  | [] => rfl
  | a :: l => by rw [ordL, if_neg (Nat.lt_irrefl a), if_neg (Nat.lt_irrefl a)]; exact ordL_self l
theorem ordL_neg : ∀ l m : List Nat, ordL m l = -(ordL l m)
  | [], [] => rfl
  | [], _ :: _ => rfl
  | _ :: _, [] => rfl
  | a :: l, b :: m => by
    rw [ordL, ordL]
    by_cases h1 : a < b
    · rw [if_neg (by omega), if_pos h1, if_pos h1]; rfl
    · rw [if_neg h1]
      by_cases h2 : b < a
      · rw [if_pos h2, if_pos h2, if_neg h1]
      · rw [if_neg h2, if_neg h2, if_neg h1]; exact ordL_neg l m
theorem ordL_eq : ∀ {l m : List Nat}, ordL l m = 0 → l = m
  | [], [], _ => rfl
  | [], _ :: _, h => by simp [ordL] at h
  | _ :: _, [], h => by simp [ordL] at h
  | a :: l, b :: m, h => by
    rw [ordL] at h
    by_cases h1 : a < b
    · rw [if_pos h1] at h; simp at h
    · rw [if_neg h1] at h
      by_cases h2 : b < a
      · rw [if_pos h2] at h; simp at h
      · rw [if_neg h2] at h
        rw [ordL_eq h, Nat.le_antisymm (Nat.le_of_not_lt h2) (Nat.le_of_not_lt h1)]
theorem ordL_zero {l m : List Nat} : ordL l m = 0 ↔ l = m := ⟨ordL_eq, fun h => h ▸ ordL_self l⟩
theorem ordL_trans : ∀ {l m n : List Nat}, ordL l m = -1 → ordL m n = -1 → ordL l n = -1
  | [], [], _, h, _ => by simp [ordL] at h
  | [], _ :: _, [], _, h => by simp [ordL] at h
  | [], _ :: _, _ :: _, _, _ => rfl
  | _ :: _, [], _, h, _ => by simp [ordL] at h
  | _ :: _, _ :: _, [], _, h => by simp [ordL] at h
  | a :: l, b :: m, c :: n, h1, h2 => by
    rw [ordL] at h1 h2 ⊢
    by_cases k1 : a < b
    · by_cases k2 : b < c
      · rw [if_pos (by omega)]
      · rw [if_neg k2] at h2
        by_cases k3 : c < b
        · rw [if_pos k3] at h2; simp at h2
        · rw [if_pos (by omega)]
    · rw [if_neg k1] at h1
      by_cases k2 : b < a
      · rw [if_pos k2] at h1; simp at h1
      · rw [if_neg k2] at h1
        by_cases k3 : b < c
        · rw [if_pos (by omega)]
        · rw [if_neg k3] at h2
          by_cases k4 : c < b
          · rw [if_pos k4] at h2; simp at h2
          · rw [if_neg k4] at h2
            rw [if_neg (by omega), if_neg (by omega)]
            exact ordL_trans h1 h2
/-- What goes on behind a common beginning. -/
theorem ordL_app (p l m : List Nat) : ordL (p ++ l) (p ++ m) = ordL l m := by
  induction p with
  | nil => rfl
  | cons a p ih => rw [List.cons_append, List.cons_append, ordL, if_neg (Nat.lt_irrefl a), if_neg (Nat.lt_irrefl a)]; exact ih
/-- A list is less than a longer one that begins with it. -/
theorem ordL_longer (l : List Nat) {m : List Nat} (h : m ≠ []) : ordL l (l ++ m) = -1 := by
  have := ordL_app l [] m
  rw [List.append_nil] at this
  rw [this]
  cases m with
  | nil => exact absurd rfl h
  | cons a m => rfl
theorem ordL_first {a b : Nat} (l m : List Nat) (h : a < b) : ordL (a :: l) (b :: m) = -1 := by rw [ordL, if_pos h]
/-- Two numbers, the first one that is not 0. -/
def thenI (a b : Int) : Int := if a = 0 then b else a
theorem thenI_neg (a b : Int) : thenI (-a) (-b) = -(thenI a b) := by
  unfold thenI
  by_cases h : a = 0
  · rw [if_pos h, if_pos (by omega)]
  · rw [if_neg h, if_neg (by omega)]
/-- Lists that end in a number less than all others are compared as the lists, then what lies behind. -/
theorem ordL_end {z : Nat} : ∀ {l m : List Nat} (r s : List Nat), (∀ x ∈ l, z < x) → (∀ x ∈ m, z < x) → ordL (l ++ z :: r) (m ++ z :: s) = thenI (ordL l m) (ordL r s)
  | [], [], r, s, _, _ => by
    show ordL (z :: r) (z :: s) = _
    rw [ordL_cons, if_neg (Nat.lt_irrefl z), if_neg (Nat.lt_irrefl z)]
    rfl
  | [], b :: m, r, s, _, h2 => by
    have := h2 b (by simp)
    show ordL (z :: r) (b :: (m ++ z :: s)) = _
    rw [ordL_cons, if_pos this]
    rfl
  | a :: l, [], r, s, h1, _ => by
    have := h1 a (by simp)
    show ordL (a :: (l ++ z :: r)) (z :: s) = _
    rw [ordL_cons, if_neg (by omega), if_pos this]
    rfl
  | a :: l, b :: m, r, s, h1, h2 => by
    show ordL (a :: (l ++ z :: r)) (b :: (m ++ z :: s)) = _
    rw [ordL, ordL]
    by_cases k1 : a < b
    · rw [if_pos k1, if_pos k1]; rfl
    · rw [if_neg k1, if_neg k1]
      by_cases k2 : b < a
      · rw [if_pos k2, if_pos k2]; rfl
      · rw [if_neg k2, if_neg k2]
        exact ordL_end r s (fun x hx => h1 x (by simp [hx])) (fun x hx => h2 x (by simp [hx]))

/-! Numbers of three bytes. -/
def three (p : Nat) : List Nat := [p / 65536, p / 256 % 256, p % 256]
theorem three_lt {p q : Nat} (r s : List Nat) (h : p < q) : ordL (three p ++ r) (three q ++ s) = -1 := by
  show ordL (p / 65536 :: p / 256 % 256 :: p % 256 :: r) (q / 65536 :: q / 256 % 256 :: q % 256 :: s) = -1
  rw [ordL]
  by_cases h1 : p / 65536 < q / 65536
  · rw [if_pos h1]
  · rw [if_neg h1, if_neg (by omega), ordL]
    by_cases h2 : p / 256 % 256 < q / 256 % 256
    · rw [if_pos h2]
    · rw [if_neg h2, if_neg (by omega), ordL, if_pos (by omega)]
theorem three_gt {p q : Nat} (r s : List Nat) (h : q < p) : ordL (three p ++ r) (three q ++ s) = 1 := by
  rw [ordL_neg, three_lt s r h]
  rfl
/-- Lists of numbers that are not 0, three bytes each, with three bytes 0 behind them, are compared as the lists, then what lies behind. -/
theorem three_end : ∀ {l m : List Nat} (r s : List Nat), (∀ x ∈ l, 0 < x) → (∀ x ∈ m, 0 < x) → ordL (l.flatMap three ++ (three 0 ++ r)) (m.flatMap three ++ (three 0 ++ s)) = thenI (ordL l m) (ordL r s)
  | [], [], r, s, _, _ => by
    show ordL (three 0 ++ r) (three 0 ++ s) = _
    rw [ordL_app]
    rfl
  | [], b :: m, r, s, _, h2 => by
    rw [List.flatMap_cons, List.append_assoc]
    exact three_lt r _ (h2 b (by simp))
  | a :: l, [], r, s, h1, _ => by
    rw [List.flatMap_cons, List.append_assoc]
    exact three_gt _ s (h1 a (by simp))
  | a :: l, b :: m, r, s, h1, h2 => by
    rw [List.flatMap_cons, List.flatMap_cons, List.append_assoc, List.append_assoc]
    rcases Nat.lt_trichotomy a b with h | h | h
    · rw [three_lt _ _ h, ordL, if_pos h]; rfl
    · subst h
      rw [ordL_app, ordL, if_neg (Nat.lt_irrefl a), if_neg (Nat.lt_irrefl a)]
      exact three_end r s (fun x hx => h1 x (by simp [hx])) (fun x hx => h2 x (by simp [hx]))
    · rw [three_gt _ _ h, ordL, if_neg (by omega), if_pos h]; rfl

end Go.Proofs.YtbnchnbblchmnaaGreatDoor

namespace Go.Proofs.YtbnchnbblchmnaaGreatDoor

/-- Primary, secondary, tertiary. -/
abbrev El := Nat × Nat × Nat
def scN (c : Nat) : Nat := (clsF c).1
def capN (c : Nat) : Nat := if Nat.beq (lowN c) c = true then 1 else 2
/-- The characters of the search form of a character. -/
def seaN (c : Nat) : List Nat := searchL (foldL (dcF [c]))
def latL (c : Nat) : List El := (seaN c).map fun x => (30000 + 100 * (x - 97), (if is1 (seaN c) (lowN c) = true then 1 else 2), capN c)
def singleL (c : Nat) : List El :=
  if Nat.beq (kN c) 4 = true then [(100, 1, 1)]
  else if Nat.beq (kN c) 5 = true then [(100 * c, 1, 1)]
  else if Nat.beq (kN c) 3 = true then [(20000 + 100 * (c - 48), 1, 1)]
  else if Nat.beq (kN c) 2 = true then [(0, 10 + (c - 768), 1)]
  else if Nat.beq (scN c) 2 = true then [(50000 + 100 * (lowN c - 945), 1, capN c)]
  else if (Nat.beq (scN c) 3 && Nat.ble (lowN c) 1103) = true then [(60000 + 200 * (lowN c - 1072), 1, capN c)]
  else if Nat.beq (lowN c) 1108 = true then [(61100, 1, capN c)]
  else if Nat.beq (lowN c) 1110 = true then [(61700, 1, capN c)]
  else if Nat.beq (lowN c) 1169 = true then [(60700, 1, capN c)]
  else latL c
/-- What holds of each character of a decomposed form. -/
def okEl (e : El) : Bool := Nat.ble e.1 10000000 && Nat.ble 1 e.2.1 && Nat.ble e.2.1 255 && Nat.ble 1 e.2.2 && Nat.ble e.2.2 2
def okCol (c : Nat) : Bool := !(is1 (wholeR c) c) || ((singleL c).all okEl && Nat.ble 1 (singleL c).length && Nat.ble (singleL c).length 3 &&
  (!(Nat.beq (kN c) 3) || Nat.ble 48 c) && (!(Nat.beq (kN c) 2) || Nat.ble 768 c) && (!(Nat.beq (kN c) 1 && Nat.beq (scN c) 2) || Nat.ble 945 (lowN c)) &&
  (!(Nat.beq (kN c) 1 && Nat.beq (scN c) 3 && Nat.ble (lowN c) 1103) || Nat.ble 1072 (lowN c)) && ((seaN c).all fun x => Nat.ble 32 x) &&
  (Nat.beq (kN c) 2 || (singleL c).all fun e => Nat.ble 1 e.1) && (!(Nat.beq (kN c) 2) || (singleL c).all fun e => Nat.ble 10 e.2.1))
theorem chars_col : (charL.all okCol) = true := by kernel_rfl
/-- Which characters are plain letters in their search forms. -/
def okLat (c : Nat) : Bool := !(is1 (wholeR c) c && Nat.beq (kN c) 1 && Nat.beq (scN c) 1) || ((seaN c).all fun x => Nat.ble 97 x && Nat.ble x 122)
theorem chars_lat : (charL.all okLat) = true := by kernel_rfl

/-! A tailoring: the characters of each Text, the character of its After. -/
abbrev LetL := List Nat × Nat
def passB (l text : List Nat) : Bool := eqB ((l.take text.length).map lowN) text
/-- The longest Text that the list goes on with: its number, its length. -/
def lenB : Option (Nat × Nat) → Nat
  | none => 0
  | some b => b.2
def stepC (l : List Nat) (o : Option (Nat × Nat)) (x : LetL × Nat) : Option (Nat × Nat) :=
  if passB l x.1.1 = true ∧ lenB o < x.1.1.length then some (x.2, x.1.1.length) else o
def bestC (t : List LetL) (l : List Nat) : Option (Nat × Nat) := t.zipIdx.foldl (stepC l) none
def primOf (c : Nat) : Nat := match singleL c with | e :: _ => e.1 | [] => 0
def tailEl (t : List LetL) (l : List Nat) (b : Nat × Nat) : El :=
  ((match t[b.1]? with | some x => primOf x.2 | none => 0) + b.1 + 1, 1, (l.take b.2).foldl (fun m c => max m (capN c)) 1)
def elemsF : Nat → List LetL → List Nat → List El
  | 0, _, _ => []
  | _ + 1, _, [] => []
  | f + 1, t, c :: l => match bestC t (c :: l) with
    | none => singleL c ++ elemsF f t l
    | some b => tailEl t (c :: l) b :: elemsF f t ((c :: l).drop b.2)
def elemsL (t : List LetL) (l : List Nat) : List El := elemsF l.length t l
theorem best_root (l : List Nat) : bestC [] l = none := rfl
/-- In the root, an element's are those of the characters. -/
theorem elems_root : ∀ l : List Nat, elemsL [] l = l.flatMap singleL
  | [] => rfl
  | c :: l => by
    show singleL c ++ elemsF l.length [] l = _
    rw [List.flatMap_cons, ← elems_root l]
    rfl

/-! The lists of weights, the comparison, the key. -/
def primL (e : List El) : List Nat := (e.map fun x => x.1).filter fun p => !Nat.beq p 0
def secL (e : List El) : List Nat := e.map fun x => x.2.1
def terL (e : List El) : List Nat := e.map fun x => x.2.2
def ordB (a b : List UInt8) : Int := ordL (a.map fun x => x.toNat) (b.map fun x => x.toNat)
def cmpE (x y : List El) (a b : List UInt8) : Int := thenI (ordL (primL x) (primL y)) (thenI (ordL (secL x) (secL y)) (thenI (ordL (terL x) (terL y)) (ordB a b)))
def keyN (x : List El) (a : List UInt8) : List Nat := (primL x).flatMap three ++ (three 0 ++ (secL x ++ 0 :: (terL x ++ 0 :: a.map fun x => x.toNat)))
theorem prim_pos {e : List El} : ∀ p ∈ primL e, 0 < p := by
  intro p hp
  have := (List.mem_filter.1 hp).2
  cases p with
  | zero => simp at this
  | succ p => omega
/-- The order of the keys is that of the comparison. -/
theorem key_order {x y : List El} (hx : ∀ e ∈ x, 0 < e.2.1 ∧ 0 < e.2.2) (hy : ∀ e ∈ y, 0 < e.2.1 ∧ 0 < e.2.2) (a b : List UInt8) : ordL (keyN x a) (keyN y b) = cmpE x y a b := by
  unfold keyN cmpE
  rw [three_end _ _ prim_pos prim_pos, ordL_end (z := 0), ordL_end (z := 0)]
  · rfl
  · intro p hp
    obtain ⟨e, he, rfl⟩ := List.mem_map.1 hp
    exact (hx e he).2
  · intro p hp
    obtain ⟨e, he, rfl⟩ := List.mem_map.1 hp
    exact (hy e he).2
  · intro p hp
    obtain ⟨e, he, rfl⟩ := List.mem_map.1 hp
    exact (hx e he).1
  · intro p hp
    obtain ⟨e, he, rfl⟩ := List.mem_map.1 hp
    exact (hy e he).1
theorem cmp_self (x : List El) (a : List UInt8) : cmpE x x a a = 0 := by
  unfold cmpE ordB thenI
  rw [ordL_self, ordL_self, ordL_self, ordL_self]
  rfl
theorem cmp_neg (x y : List El) (a b : List UInt8) : cmpE y x b a = -(cmpE x y a b) := by
  unfold cmpE ordB
  rw [ordL_neg (primL x), ordL_neg (secL x), ordL_neg (terL x), ordL_neg (a.map _), thenI_neg, thenI_neg, thenI_neg]
theorem ordB_zero {a b : List UInt8} : ordB a b = 0 ↔ a = b := by
  unfold ordB
  rw [ordL_zero]
  constructor
  · intro h
    have key : ∀ (a b : List UInt8), a.map (fun x => x.toNat) = b.map (fun x => x.toNat) → a = b := by
      intro a
      induction a with
      | nil => intro b h; cases b with | nil => rfl | cons y b => simp at h
      | cons x a ih =>
        intro b h
        cases b with
        | nil => simp at h
        | cons y b =>
          simp only [List.map_cons, List.cons.injEq] at h
          rw [UInt8.toNat_inj.1 h.1, ih b h.2]
    exact key a b h
  · rintro rfl; rfl
theorem thenI_zero {a b : Int} : thenI a b = 0 ↔ a = 0 ∧ b = 0 := by
  unfold thenI
  by_cases h : a = 0
  · rw [if_pos h]; exact ⟨fun h2 => ⟨h, h2⟩, fun h2 => h2.2⟩
  · rw [if_neg h]; exact ⟨fun h2 => absurd h2 h, fun h2 => absurd h2.1 h⟩
/-- The comparison is 0 just for equal decomposed forms. -/
theorem cmp_zero {t : List LetL} {d e : List Nat} (hd : encL d = encL e → d = e) : cmpE (elemsL t d) (elemsL t e) (encL d) (encL e) = 0 ↔ d = e := by
  constructor
  · intro h
    unfold cmpE at h
    exact hd (ordB_zero.1 (thenI_zero.1 (thenI_zero.1 (thenI_zero.1 h).2).2).2)
  · rintro rfl
    exact cmp_self _ _
/-- Transitive, by the keys. -/
theorem cmp_trans {x y z : List El} (hx : ∀ e ∈ x, 0 < e.2.1 ∧ 0 < e.2.2) (hy : ∀ e ∈ y, 0 < e.2.1 ∧ 0 < e.2.2) (hz : ∀ e ∈ z, 0 < e.2.1 ∧ 0 < e.2.2) {a b c : List UInt8} (h1 : cmpE x y a b = -1) (h2 : cmpE y z b c = -1) : cmpE x z a c = -1 := by
  rw [← key_order hx hy] at h1
  rw [← key_order hy hz] at h2
  rw [← key_order hx hz]
  exact ordL_trans h1 h2
theorem cmp_vals {x y : List El} (hx : ∀ e ∈ x, 0 < e.2.1 ∧ 0 < e.2.2) (hy : ∀ e ∈ y, 0 < e.2.1 ∧ 0 < e.2.2) (a b : List UInt8) : cmpE x y a b = -1 ∨ cmpE x y a b = 0 ∨ cmpE x y a b = 1 := by
  rw [← key_order hx hy]
  exact ordL_vals _ _

end Go.Proofs.YtbnchnbblchmnaaGreatDoor

namespace Go.Proofs.YtbnchnbblchmnaaGreatDoor

theorem prim_app (a b : List El) : primL (a ++ b) = primL a ++ primL b := by unfold primL; rw [List.map_append, List.filter_append]
theorem sec_app (a b : List El) : secL (a ++ b) = secL a ++ secL b := List.map_append
theorem ter_app (a b : List El) : terL (a ++ b) = terL a ++ terL b := List.map_append
theorem beq_of {a b : Nat} (h : a = b) : Nat.beq a b = true := by rw [Nat.beq_eq]; exact h
theorem of_beq {a b : Nat} (h : Nat.beq a b = true) : a = b := by rw [Nat.beq_eq] at h; exact h
theorem ble_of {a b : Nat} (h : a ≤ b) : Nat.ble a b = true := by rw [Nat.ble_eq]; exact h
structure OkC (c : Nat) : Prop where
  el : ∀ e ∈ singleL c, e.1 ≤ 10000000 ∧ 1 ≤ e.2.1 ∧ e.2.1 ≤ 255 ∧ 1 ≤ e.2.2 ∧ e.2.2 ≤ 2
  some : 1 ≤ (singleL c).length
  few : (singleL c).length ≤ 3
  dig : kN c = 3 → 48 ≤ c
  mark : kN c = 2 → 768 ≤ c
  gr : kN c = 1 → scN c = 2 → 945 ≤ lowN c
  cy : kN c = 1 → scN c = 3 → lowN c ≤ 1103 → 1072 ≤ lowN c
  pos : kN c = 2 ∨ ∀ e ∈ singleL c, 1 ≤ e.1
  ten : kN c = 2 → ∀ e ∈ singleL c, 10 ≤ e.2.1
theorem ok_col {c : Nat} (hc : hasN c = true) (hw : wholeR c = [c]) : OkC c := by
  have h := List.all_eq_true.1 chars_col c ((char_mem c).2 hc)
  unfold okCol at h
  rw [is1_of hw, Bool.not_true, Bool.false_or] at h
  simp only [Bool.and_eq_true, Bool.or_eq_true, Bool.not_eq_true', List.all_eq_true, Nat.ble_eq, okEl] at h
  obtain ⟨⟨⟨⟨⟨⟨⟨⟨⟨h1, h2⟩, h3⟩, h4⟩, h5⟩, h6⟩, h7⟩, h8⟩, h9⟩, h10⟩ := h
  have ne : ∀ {a b : Nat}, a = b → Nat.beq a b = true := fun e => beq_of e
  refine ⟨fun e he => by have := h1 e he; simp only [and_assoc] at this; exact this, h2, h3, fun e => ?_, fun e => ?_, fun e e2 => ?_, fun e e2 e3 => ?_, ?_, fun e => ?_⟩
  · rcases h4 with h | h
    · rw [ne e] at h; cases h
    · exact h
  · rcases h5 with h | h
    · rw [ne e] at h; cases h
    · exact h
  · rcases h6 with h | h
    · rw [ne e, ne e2] at h; cases h
    · exact h
  · rcases h7 with h | h
    · rw [ne e, ne e2, ble_of e3] at h; cases h
    · exact h
  · rcases h9 with h | h
    · exact .inl (of_beq h)
    · exact .inr h
  · rcases h10 with h | h
    · rw [ne e] at h; cases h
    · exact h

/-! Small letters. -/
def elB (x y : El) : Bool := Nat.beq x.1 y.1 && (Nat.beq x.2.1 y.2.1 && Nat.beq x.2.2 y.2.2)
def elsB : List El → List El → Bool
  | [], [] => true
  | x :: l, y :: m => elB x y && elsB l m
  | _, _ => false
theorem els_eq : ∀ {l m : List El}, elsB l m = true → l = m
  | [], [], _ => rfl
  | [], _ :: _, h => by cases h
  | _ :: _, [], h => by cases h
  | x :: l, y :: m, h => by
    simp only [elsB, elB, Bool.and_eq_true, Nat.beq_eq] at h
    obtain ⟨⟨h1, h2, h3⟩, h4⟩ := h
    rw [els_eq h4]
    obtain ⟨x1, x2, x3⟩ := x
    obtain ⟨y1, y2, y3⟩ := y
    simp only at h1 h2 h3
    rw [h1, h2, h3]
def smallEl (e : El) : El := (e.1, e.2.1, 1)
def foldB (c : Nat) : Bool := Nat.beq c 223 || Nat.beq c 962 || !(is1 (wholeR c) c) || (elsB (singleL (lowN c)) ((singleL c).map smallEl) && (!((singleL c).all fun e => Nat.beq e.2.2 1) || Nat.beq (lowN c) c))
theorem chars_fold : (charL.all foldB) = true := by kernel_rfl
theorem fold_single {c : Nat} (hc : hasN c = true) (hw : wholeR c = [c]) (h1 : c ≠ 223) (h2 : c ≠ 962) : singleL (lowN c) = (singleL c).map smallEl ∧ ((∀ e ∈ singleL c, e.2.2 = 1) → lowN c = c) := by
  have h := List.all_eq_true.1 chars_fold c ((char_mem c).2 hc)
  unfold foldB at h
  rw [is1_of hw, beq_false h1, beq_false h2] at h
  simp only [Bool.not_true, Bool.false_or, Bool.and_eq_true, Bool.or_eq_true, Bool.not_eq_true', Nat.beq_eq] at h
  refine ⟨els_eq h.1, fun hall => ?_⟩
  rcases h.2 with h2 | h2
  · rw [List.all_eq_true.2 (fun e he => beq_of (hall e he))] at h2; cases h2
  · exact h2
def noB (c : Nat) : Bool := (Nat.beq c 223 || !((wholeR c).any fun y => Nat.beq y 223)) && (Nat.beq c 962 || !((wholeR c).any fun y => Nat.beq y 962))
theorem chars_no : (charL.all noB) = true := by kernel_rfl
theorem whole_no {c y : Nat} (hc : hasN c = true) (h1 : c ≠ 223) (h2 : c ≠ 962) (hy : y ∈ wholeR c) : y ≠ 223 ∧ y ≠ 962 := by
  have h := List.all_eq_true.1 chars_no c ((char_mem c).2 hc)
  unfold noB at h
  rw [beq_false h1, beq_false h2] at h
  simp only [Bool.false_or, Bool.and_eq_true, Bool.not_eq_true', List.any_eq_false, Nat.beq_eq] at h
  exact ⟨h.1 y hy, h.2 y hy⟩
/-- A list whose characters bear small letters of the same weights. -/
theorem fold_els : ∀ {d : List Nat}, (∀ c ∈ d, hasN c = true ∧ wholeR c = [c] ∧ c ≠ 223 ∧ c ≠ 962) → foldL d = d.map lowN ∧ (foldL d).flatMap singleL = (d.flatMap singleL).map smallEl ∧ ((∀ e ∈ d.flatMap singleL, e.2.2 = 1) → foldL d = d)
  | [], _ => ⟨rfl, rfl, fun _ => rfl⟩
  | c :: d, h => by
    obtain ⟨h1, h2, h3, h4⟩ := h c (by simp)
    obtain ⟨i1, i2, i3⟩ := fold_els fun x hx => h x (List.mem_cons_of_mem _ hx)
    obtain ⟨k1, k2⟩ := fold_single h1 h2 h3 h4
    have e : foldL (c :: d) = lowN c :: foldL d := by
      unfold foldL
      rw [List.flatMap_cons]
      unfold low1
      rw [beq_false h3]
      rfl
    refine ⟨by rw [e, i1]; rfl, by rw [e, List.flatMap_cons, List.flatMap_cons, List.map_append, i2, k1], fun hall => ?_⟩
    rw [e, i3 (fun x hx => hall x (by rw [List.flatMap_cons]; exact List.mem_append_right _ hx)), k2 (fun x hx => hall x (by rw [List.flatMap_cons]; exact List.mem_append_left _ hx))]
theorem ord_small : ∀ l : List El, (∀ e ∈ l, 1 ≤ e.2.2) → ordL (terL (l.map smallEl)) (terL l) = -1 ∨ ∀ e ∈ l, e.2.2 = 1
  | [], _ => .inr (by simp)
  | e :: l, h => by
    have h1 := h e (by simp)
    show ordL (1 :: terL (l.map smallEl)) (e.2.2 :: terL l) = -1 ∨ _
    rw [ordL_cons]
    by_cases k : 1 < e.2.2
    · rw [if_pos k]; exact .inl rfl
    · rw [if_neg k, if_neg (by omega)]
      rcases ord_small l (fun x hx => h x (List.mem_cons_of_mem _ hx)) with i | i
      · exact .inl i
      · right
        intro x hx
        rcases List.mem_cons.1 hx with rfl | hx
        · omega
        · exact i x hx
/-- The folded form has the same primary weights and does not come behind. -/
theorem fold_levels {d : List Nat} (h : ∀ c ∈ d, hasN c = true ∧ wholeR c = [c] ∧ c ≠ 223 ∧ c ≠ 962) :
    primL (elemsL [] (foldL d)) = primL (elemsL [] d) ∧ cmpE (elemsL [] (foldL d)) (elemsL [] d) (encL (foldL d)) (encL d) ≤ 0 := by
  obtain ⟨_, h2, h3⟩ := fold_els h
  rw [elems_root, elems_root, h2]
  have hp : primL ((d.flatMap singleL).map smallEl) = primL (d.flatMap singleL) := by unfold primL smallEl; rw [List.map_map]; rfl
  have hs : secL ((d.flatMap singleL).map smallEl) = secL (d.flatMap singleL) := by unfold secL smallEl; rw [List.map_map]; rfl
  refine ⟨hp, ?_⟩
  unfold cmpE
  rw [hp, hs, ordL_self, ordL_self]
  have ht : ∀ e ∈ d.flatMap singleL, 1 ≤ e.2.2 := fun e he => by
    obtain ⟨c, hc, hec⟩ := List.mem_flatMap.1 he
    exact ((ok_col (h c hc).1 (h c hc).2.1).el e hec).2.2.2.1
  rcases ord_small _ ht with k | k
  · rw [k]; simp [thenI]
  · have e : (d.flatMap singleL).map smallEl = d.flatMap singleL := by
      conv => rhs; rw [← List.map_id (d.flatMap singleL)]
      apply List.map_congr_left
      intro x hx
      obtain ⟨a, b, c⟩ := x
      have := k _ hx
      simp only at this
      subst this
      rfl
    rw [e, h3 k, ordL_self]
    unfold ordB
    rw [ordL_self]
    decide

/-! Marks. -/
theorem mark_single {c : Nat} (h : kN c = 2) : ∃ s, singleL c = [(0, s, 1)] ∧ 10 ≤ s := by
  refine ⟨10 + (c - 768), ?_, by omega⟩
  unfold singleL
  rw [h]
  rfl
theorem low_sec : (charL.all fun c => Nat.beq (kN c) 2 || !(is1 (wholeR c) c) || (singleL c).all fun e => Nat.ble e.2.1 2) = true := by kernel_rfl
theorem base_sec {c : Nat} (hc : hasN c = true) (hw : wholeR c = [c]) (hk : kN c ≠ 2) : ∀ e ∈ singleL c, e.2.1 ≤ 2 := by
  have h := List.all_eq_true.1 low_sec c ((char_mem c).2 hc)
  rw [is1_of hw, beq_false hk] at h
  simp only [Bool.not_true, Bool.false_or, List.all_eq_true, Nat.ble_eq] at h
  exact h
theorem isM_kind {c : Nat} : isM c = true ↔ kN c = 2 := by
  constructor
  · intro h
    refine Decidable.byContradiction fun hk => ?_
    have : isMarkA c = false := by
      cases hm : isMarkA c with
      | false => rfl
      | true => exact absurd (mark_kind hm) hk
    rw [isM_zero.2 (clM_zero this)] at h
    cases h
  · intro h
    exact isM_pos.2 (mark_pos (kind_mark h))
/-- Without the marks: the same primary weights; ahead, or there are none. -/
theorem strip_sec : ∀ {d : List Nat}, (∀ c ∈ d, hasN c = true ∧ wholeR c = [c]) → primL ((d.filter fun c => !isM c).flatMap singleL) = primL (d.flatMap singleL) ∧
    (ordL (secL ((d.filter fun c => !isM c).flatMap singleL)) (secL (d.flatMap singleL)) = -1 ∨ (d.filter fun c => !isM c) = d)
  | [], _ => ⟨rfl, .inr rfl⟩
  | c :: d, h => by
    obtain ⟨h1, h2⟩ := h c (by simp)
    have hr := fun x hx => h x (List.mem_cons_of_mem _ hx)
    obtain ⟨i1, i2⟩ := strip_sec hr
    rw [List.flatMap_cons]
    cases hm : isM c with
    | false =>
      rw [List.filter_cons_of_pos (by rw [hm]; rfl), List.flatMap_cons, prim_app, prim_app, sec_app, sec_app, i1, ordL_app]
      refine ⟨rfl, ?_⟩
      rcases i2 with i2 | i2
      · exact .inl i2
      · exact .inr (by rw [i2])
    | true =>
      rw [List.filter_cons_of_neg (by rw [hm]; simp)]
      obtain ⟨s, hs, hs10⟩ := mark_single (isM_kind.1 hm)
      rw [hs, prim_app, sec_app, i1]
      refine ⟨rfl, .inl ?_⟩
      show ordL (secL ((d.filter fun c => !isM c).flatMap singleL)) (s :: secL (d.flatMap singleL)) = -1
      cases hf : (d.filter fun c => !isM c) with
      | nil => rfl
      | cons b r =>
        have hb : b ∈ d.filter fun c => !isM c := by rw [hf]; simp
        have hbd := (List.mem_filter.1 hb).1
        have hbm : isM b = false := by have := (List.mem_filter.1 hb).2; simpa using this
        have hk : kN b ≠ 2 := fun e => by rw [isM_kind.2 e] at hbm; cases hbm
        have hso := (ok_col (hr b hbd).1 (hr b hbd).2).some
        have hsl := base_sec (hr b hbd).1 (hr b hbd).2 hk
        rw [List.flatMap_cons]
        cases hsb : singleL b with
        | nil => rw [hsb] at hso; simp at hso
        | cons e el =>
          have := hsl e (by rw [hsb]; simp)
          show ordL (e.2.1 :: _) (s :: _) = -1
          rw [ordL_cons, if_pos (by omega)]
theorem strip_levels {d : List Nat} (h : ∀ c ∈ d, hasN c = true ∧ wholeR c = [c]) :
    primL (elemsL [] (d.filter fun c => !isM c)) = primL (elemsL [] d) ∧ cmpE (elemsL [] (d.filter fun c => !isM c)) (elemsL [] d) (encL (d.filter fun c => !isM c)) (encL d) ≤ 0 := by
  obtain ⟨h1, h2⟩ := strip_sec h
  rw [elems_root, elems_root]
  refine ⟨h1, ?_⟩
  rcases h2 with h2 | h2
  · unfold cmpE
    rw [h1, ordL_self, h2]
    simp [thenI]
  · rw [h2, cmp_self]
    decide
theorem srt_base : ∀ R : List Nat, (∀ c ∈ R, clM c = 0) → Srt clM R
  | [], _ => trivial
  | [_], _ => trivial
  | y :: x :: r, h => ⟨fun h0 => by rw [h y (by simp)] at h0; omega, srt_base (x :: r) fun c hc => h c (List.mem_cons_of_mem _ hc)⟩
theorem strip_dec {d : List Nat} (h : Dec d) : Dec (d.filter fun c => !isM c) := by
  refine ⟨fun c hc => h.1 c (List.mem_filter.1 hc).1, fun y hy => h.2.1 y (List.mem_filter.1 hy).1, srt_base _ fun c hc => ?_⟩
  have := (List.mem_filter.1 (List.mem_reverse.1 hc)).2
  exact isM_zero.1 (by simpa using this)

/-! Beginnings. -/
theorem begin_less {a b : List Nat} (hb : ∀ c ∈ b, hasN c = true ∧ wholeR c = [c]) (h : ∃ c, b.head? = some c ∧ kN c ≠ 2) (u v : List UInt8) : cmpE (elemsL [] a) (elemsL [] (a ++ b)) u v = -1 := by
  obtain ⟨c, hc, hk⟩ := h
  cases b with
  | nil => cases hc
  | cons x b =>
    injection hc with hc
    subst hc
    obtain ⟨h1, h2⟩ := hb x (by simp)
    have ok := ok_col h1 h2
    rw [elems_root, elems_root, List.flatMap_append, List.flatMap_cons]
    unfold cmpE
    rw [prim_app, prim_app, ordL_longer]
    · rfl
    · cases hs : singleL x with
      | nil => have := ok.some; rw [hs] at this; simp at this
      | cons e l =>
        rcases ok.pos with h3 | h3
        · exact absurd h3 hk
        · have h4 := h3 e (by rw [hs]; simp)
          intro h5
          have : e.1 ∈ primL (e :: l) := by
            unfold primL
            refine List.mem_filter.2 ⟨by simp, ?_⟩
            rw [beq_false (by omega)]
            rfl
          rw [(List.append_eq_nil_iff.1 h5).1] at this
          simp at this

end Go.Proofs.YtbnchnbblchmnaaGreatDoor
