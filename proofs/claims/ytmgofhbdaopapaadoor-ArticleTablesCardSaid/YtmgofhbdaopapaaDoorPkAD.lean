/-
  The reference's at.
  The reference's in, listed.
  The reference's Class and Has.
  The reference's Decode and Count.
  The reference's bytes.
  The reference's Encode.
  The reference's Script.
  The reference's table of composed letters in memory.
  The reference's pair and composed.
  The reference's composed.
  The reference's class and whole.
  append onto a row of the call's own: where the new row lies. (Other rows of the same kind stay apart from it.)
  The reference's decomposed.
  The reference's decomposed.
-/
import Derived.Test.YtmgofhbdaopapaaDoorPkAB
import Derived.Test.YtmgofhbdaopapaaDoorPkAC
import Derived.Test.YtmgofhbdaopapaaDoorWords
import Derived.BigRegion
import Derived.BigQuiet
import Derived.Deep.RegionWith
namespace Go.Proofs.YtmgofhbdaopapaaDoor
open Go.RowKit

def two (a b : Nat) : Value := .tuple #[.int .i64 (a : Int), .int .i64 (b : Int)]
theorem ret_two {a b : Int} {x y : Nat} (h1 : a = x) (h2 : b = y) : Ending.returned (.tuple #[.int .i64 a, .int .i64 b]) = .returned (two x y) := by rw [h1, h2]; rfl

theorem drop_at {s : List UInt8} {k : Nat} (h : k < (str s).size) : s.drop k = (str s)[k] :: s.drop (k + 1) := List.drop_eq_getElem_cons h
theorem drop_end {s : List UInt8} {k : Nat} (h : ¬ k < (str s).size) : s.drop k = [] := List.drop_of_length_le (Nat.le_of_not_lt h)
theorem at_none_of {s : List UInt8} {k : Nat} (hk : k < (str s).size) (hA : ¬ (str s)[k].toNat < 128) (h2 : ∀ h : k + 1 < (str s).size, is2 (str s)[k].toNat (str s)[k + 1].toNat = false)
    (h3 : ∀ (h : k + 1 < (str s).size) (h' : k + 1 + 1 < (str s).size), is3 (str s)[k].toNat (str s)[k + 1].toNat (str s)[k + 1 + 1].toNat = false) : atR (s.drop k) = (0, 0) := by
  rw [drop_at hk]
  by_cases hk1 : k + 1 < (str s).size
  · rw [drop_at hk1]
    by_cases hk2 : k + 1 + 1 < (str s).size
    · rw [drop_at hk2]; exact at_none3 hA (h2 hk1) (h3 hk1 hk2)
    · rw [drop_end hk2]; exact at_none2 hA (h2 hk1)
  · rw [drop_end hk1]; exact at_none1 hA
theorem is2_false {b c : Nat} (h : ¬ (194 ≤ b ∧ b < 224 ∧ c / 64 = 2)) : is2 b c = false := decide_eq_false h
theorem is3_false {b c d : Nat} (h : ¬ (224 ≤ b ∧ b < 240 ∧ c / 64 = 2 ∧ d / 64 = 2 ∧ 2048 ≤ v3 b c d)) : is3 b c d = false := decide_eq_false h
theorem eqb_true {a b : Int} (h : a = b) : (a == b) = true := by simp [h]
theorem eqb_false {a b : Int} (h : a ≠ b) : (a == b) = false := by simp [h]

end Go.Proofs.YtmgofhbdaopapaaDoor

namespace Go.Proofs.YtmgofhbdaopapaaDoor
open Go.RowKit

theorem encL_app (a b : List Nat) : encL (a ++ b) = encL a ++ encL b := by
  induction a with
  | nil => rfl
  | cons x a ih => rw [List.cons_append, encL, encL, ih, List.append_assoc]
theorem memB_app (a b : List Nat) (c : Int) : memB (a ++ b) c = (memB a c || memB b c) := by unfold memB; rw [List.any_append]
theorem memB_one (x : Nat) (c : Int) : memB [x] c = ((x : Int) == c) := by simp [memB]
theorem drop_enc (a b : List Nat) : (encL (a ++ b)).drop (encL a).length = encL b := by rw [encL_app, List.drop_left]

end Go.Proofs.YtmgofhbdaopapaaDoor

namespace Go.Proofs.YtmgofhbdaopapaaDoor
open Go.RowKit

theorem enc_latin : encL latinL = latinB := by kernel_rfl
theorem enc_greek : encL greekL = greekB := by kernel_rfl
theorem enc_cyr : encL cyrL = cyrB := by kernel_rfl
theorem latin_small : ∀ x ∈ latinL, x < 65536 := of_decide_eq_true (by kernel_rfl)
theorem greek_small : ∀ x ∈ greekL, x < 65536 := of_decide_eq_true (by kernel_rfl)
theorem cyr_small : ∀ x ∈ cyrL, x < 65536 := of_decide_eq_true (by kernel_rfl)
end Go.Proofs.YtmgofhbdaopapaaDoor

namespace Go.Proofs.YtmgofhbdaopapaaDoor
open Go.RowKit

/-- What Decode hands back: a list of its own and true, or nothing and false. -/
def DecEnd (W : World) (r : Option (List Nat)) (e : Ending) (w' : World) : Prop :=
  match r with
  | some l => ∃ v, e = .returned (.tuple #[v, .bool true]) ∧ w'.ownsRow W.heap.size 3 1 v l.length (l.map nv)
  | none => e = .returned (.tuple #[.slice none 0 0, .bool false])
theorem DecEnd.good {W w' : World} {l : List Nat} {v : Value} (h : w'.ownsRow W.heap.size 3 1 v l.length (l.map nv)) : DecEnd W (some l) (.returned (.tuple #[v, .bool true])) w' := ⟨v, rfl, h⟩
theorem DecEnd.bad {W w' : World} : DecEnd W none (.returned (.tuple #[.slice none 0 0, .bool false])) w' := rfl
theorem DecEnd.of {W w' : World} {r r' : Option (List Nat)} {e : Ending} (hr : r = r') (h : DecEnd W r' e w') : DecEnd W r e w' := hr ▸ h

theorem dec_len {s : List UInt8} {l : List Nat} (h : decR s = some l) : l.length ≤ s.length := by
  obtain ⟨h1, h2⟩ := enc_dec h
  rw [← h1]
  clear h h1 h2
  induction l with
  | nil => simp
  | cons x l ih =>
    have := encC_len x
    rw [encL, List.length_append, List.length_cons]
    omega

/-- A place in a string behind the characters l. -/
def Past (s : List UInt8) (k : Nat) (l : List Nat) : Prop := k ≤ s.length ∧ l.length ≤ k ∧ decR s = (decR (s.drop k)).map (l ++ ·)
theorem Past.start (s : List UInt8) : Past s 0 [] := ⟨by omega, by simp, by simp⟩
theorem Past.done {s : List UInt8} {k : Nat} {l : List Nat} (h : Past s k l) (hk : ¬ k < s.length) : decR s = some l := by
  rw [h.2.2, List.drop_of_length_le (by omega), decR_nil]
  simp
theorem Past.next {s : List UInt8} {k c n : Nat} {l : List Nat} (h : Past s k l) (hk : k < s.length) (ha : atR (s.drop k) = (c, n)) (h0 : n ≠ 0) (hc : kindR (c : Int) ≠ 0) : Past s (k + n) (l ++ [c]) := by
  have hne : s.drop k ≠ [] := fun e => by rw [List.drop_eq_nil_iff] at e; omega
  have hl := (atR_len (s.drop k)).1
  rw [ha, List.length_drop] at hl
  refine ⟨by have : n ≤ s.length - k := hl; omega, by rw [List.length_append, List.length_singleton]; have := h.2.1; omega, ?_⟩
  have hs : ¬ ((atR (s.drop k)).2 = 0 ∨ kindR ((atR (s.drop k)).1 : Int) = 0) := by
    rw [ha]
    rintro (e | e)
    · exact h0 e
    · exact hc e
  rw [h.2.2, decR_step hne hs, ha, List.drop_drop]
  cases decR (s.drop (k + n)) <;> simp
theorem Past.bad {s : List UInt8} {k c n : Nat} {l : List Nat} (h : Past s k l) (hk : k < s.length) (ha : atR (s.drop k) = (c, n)) (h0 : n = 0 ∨ kindR (c : Int) = 0) : decR s = none := by
  have hne : s.drop k ≠ [] := fun e => by rw [List.drop_eq_nil_iff] at e; omega
  rw [h.2.2, decR_stop hne (by rw [ha]; exact h0)]
  rfl
theorem has_kind {c : Int} : hasR c = true ↔ kindR c ≠ 0 := by unfold hasR; simp
theorem has_kind_no {c : Int} (h : hasR c = false) : kindR c = 0 := by unfold hasR at h; simpa using h

def countR (s : List UInt8) : Nat := match decR s with | some l => l.length | none => 0
theorem countR_some {s : List UInt8} {l : List Nat} (h : decR s = some l) : countR s = l.length := by unfold countR; rw [h]
theorem countR_none {s : List UInt8} (h : decR s = none) : countR s = 0 := by unfold countR; rw [h]
theorem DecEnd.form {W w' : World} {r : Option (List Nat)} {e : Ending} (h : DecEnd W r e w') : ∃ A n c b, e = .returned (.tuple #[.slice A n c, .bool b]) ∧
    ((b = true ∧ ∃ l, r = some l ∧ n = l.length ∧ Arr nv w' w'.heap.size (.slice A n c) l ∧ w'.ownsRow W.heap.size 3 1 (.slice A n c) l.length (l.map nv)) ∨ (b = false ∧ r = none ∧ A = none ∧ n = 0 ∧ c = 0)) := by
  cases r with
  | none => exact ⟨none, 0, 0, false, h, .inr ⟨rfl, rfl, rfl, rfl, rfl⟩⟩
  | some l =>
    obtain ⟨v, rfl, hown⟩ := h
    have hA := Arr.of_own hown
    obtain ⟨A, c, rfl⟩ := hA.form
    exact ⟨A, l.length, c, true, rfl, .inl ⟨rfl, l, rfl, rfl, hA, hown⟩⟩

end Go.Proofs.YtmgofhbdaopapaaDoor

namespace Go.Proofs.YtmgofhbdaopapaaDoor
open Go.RowKit

def fewB (n : Nat) : Bool := decide (n ≤ 40) || (decide (128 < n) && decide (n ≤ 140))
theorem conv_box (w : World) (bs : List UInt8) (vs : Array Value) (n : Nat) (hn : bs.length = n) (h : vs.toList = bs.map bv) :
    (convert 74 9 (.slice (some ⟨w.heap.size, 0, none⟩) n n)).run Tryd.prog (w.alloc (.cells vs 5)) = .ok (.string (str bs)) (w.alloc (.cells vs 5)) := by
  refine conv_bytes (B := w.heap.size + 1) (bs := bs) ?_ 74 5 9 Tryd.underlying74 Tryd.underlying5 Tryd.underlying9
  refine Arr.of_box (Box.made _ _ _) hn (Nat.le_refl _) ?_
  intro i u hu
  rw [← Array.getElem?_toList, h, List.getElem?_map, hu]
  rfl
theorem bv_of {n : Nat} {i : Int} (h : n < 256) (hi : i = n) : Value.int .u8 i = bv (UInt8.ofNat n) := by
  unfold bv
  rw [byte_of h, hi]
theorem lst1 {α : Type} {a x : α} (h : a = x) : [a] = [x] := by rw [h]
theorem lst2 {α : Type} {a b x y : α} (h : a = x) (h2 : b = y) : [a, b] = [x, y] := by rw [h, h2]
theorem lst3 {α : Type} {a b c x y z : α} (h : a = x) (h2 : b = y) (h3 : c = z) : [a, b, c] = [x, y, z] := by rw [h, h2, h3]
theorem enc_one {c : Nat} (h : c < 128) : encC c = [UInt8.ofNat c] := if_pos h
theorem enc_two {c : Nat} (h : ¬ c < 128) (h2 : c < 2048) : encC c = [UInt8.ofNat (192 + c / 64), UInt8.ofNat (128 + c % 64)] := by
  unfold encC
  rw [if_neg h, if_pos h2]
theorem enc_three {c : Nat} (h2 : ¬ c < 2048) : encC c = [UInt8.ofNat (224 + c / 4096), UInt8.ofNat (128 + c / 64 % 64), UInt8.ofNat (128 + c % 64)] := by
  unfold encC
  rw [if_neg (by omega), if_neg h2]

end Go.Proofs.YtmgofhbdaopapaaDoor

namespace Go.Proofs.YtmgofhbdaopapaaDoor
open Go.RowKit

theorem memB_range {l : List Nat} {c : Int} (hl : ∀ x ∈ l, x < 65536) (h : memB l c = true) : 0 ≤ c ∧ c < 65536 := by
  unfold memB at h
  obtain ⟨d, hd, h⟩ := List.any_eq_true.1 h
  have := hl d hd
  have h2 : (d : Int) = c := by simpa using h
  omega
theorem inB_range {c lo hi : Int} (h : inB c lo hi = true) : lo ≤ c ∧ c ≤ hi := by unfold inB at h; simpa using h
theorem clsN_range {c : Int} (h : (clsN c).2 ≠ 0) : 0 ≤ c ∧ c < 65536 := by
  unfold clsN at h
  split at h
  · rename_i h1; simp at h1; omega
  split at h
  · rename_i h1
    simp only [Bool.or_eq_true, beq_iff_eq] at h1
    rcases h1 with ((h1 | h1) | h1) | h1
    · have := inB_range h1; omega
    all_goals omega
  split at h
  · rename_i h1
    simp only [Bool.or_eq_true, beq_iff_eq] at h1
    rcases h1 with ((((h1 | h1) | h1) | h1) | h1) | h1
    · have := inB_range h1; omega
    · have := inB_range h1; omega
    · omega
    · omega
    · omega
    · exact memB_range latin_small h1
  split at h
  · rename_i h1
    simp only [Bool.or_eq_true, beq_iff_eq] at h1
    rcases h1 with ((((h1 | h1) | h1) | h1) | h1) | h1
    · have := inB_range h1; omega
    · have := inB_range h1; omega
    · have := inB_range h1; omega
    all_goals omega
  split at h
  · rename_i h1
    simp only [Bool.or_eq_true] at h1
    rcases h1 with ((h1 | h1) | h1) | h1
    · have := inB_range h1; omega
    · have := inB_range h1; omega
    · have := inB_range h1; omega
    · exact memB_range greek_small h1
  split at h
  · rename_i h1
    simp only [Bool.or_eq_true] at h1
    rcases h1 with h1 | h1
    · have := inB_range h1; omega
    · exact memB_range cyr_small h1
  split at h
  · rename_i h1
    have := inB_range h1
    omega
  · exact absurd rfl h
theorem has_range {c : Int} (h : hasR c = true) : 0 ≤ c ∧ c < 65536 := by
  unfold hasR kindR clsR at h
  split at h
  · rename_i h1
    have := inB_range h1
    omega
  · exact clsN_range (by simpa using h)

/-- The encoding of a list of numbers. -/
def encI (xs : List Int) : List UInt8 := encL (xs.map Int.toNat)
def encR (xs : List Int) : Option (List UInt8) := if xs.all hasR = true then some (encI xs) else none
def EncEnd (r : Option (List UInt8)) (e : Ending) : Prop :=
  match r with
  | some b => e = .returned (.tuple #[.string (str b), .bool true])
  | none => e = .returned (.tuple #[.string (str []), .bool false])
theorem encI_snoc (xs : List Int) (x : Int) : encI (xs ++ [x]) = encI xs ++ encC x.toNat := by
  unfold encI
  rw [List.map_append, encL_app, List.map_singleton, encL, encL, List.append_nil]
theorem encL_len (l : List Nat) : (encL l).length ≤ 3 * l.length := by
  induction l with
  | nil => simp [encL]
  | cons x l ih =>
    have := encC_len x
    rw [encL, List.length_append, List.length_cons]
    omega
theorem encI_len (xs : List Int) : (encI xs).length ≤ 3 * xs.length := by
  unfold encI
  have := encL_len (xs.map Int.toNat)
  rwa [List.length_map] at this
theorem encR_bad {xs : List Int} {k : Nat} {x : Int} (h : xs[k]? = some x) (hx : hasR x = false) : encR xs = none := by
  unfold encR
  refine if_neg fun h2 => ?_
  have := List.all_eq_true.1 h2 x (List.mem_of_getElem? h)
  rw [hx] at this
  cases this
theorem encR_good {xs : List Int} (h : xs.all hasR = true) : encR xs = some (encI xs) := if_pos h
theorem all_take {xs : List Int} {k : Nat} {x : Int} (h : xs[k]? = some x) (h1 : (xs.take k).all hasR = true) (hx : hasR x = true) : (xs.take (k + 1)).all hasR = true := by
  rw [take_next h, List.all_append, h1]
  simp [hx]

theorem add_str {P : Program} {w : World} (a b : List UInt8) (h : a.length + b.length ≤ 9223372036854775807) : (Op.stringOp .add (str a) (str b)).run P w = .ok (.string (str (a ++ b))) w := by
  rw [run_string_add_sum w (str a) (str b) h, str_append]

end Go.Proofs.YtmgofhbdaopapaaDoor

namespace Go.Proofs.YtmgofhbdaopapaaDoor
open Go.RowKit

theorem ok_has {c : Nat} (h : okC c) : hasR (c : Int) = true := has_kind.2 h.2
theorem encR_nats {l : List Nat} (h : ∀ c ∈ l, okC c) : encR (l.map fun d : Nat => (d : Int)) = some (encL l) := by
  rw [encR_good]
  · unfold encI
    rw [List.map_map]
    congr 2
    conv => rhs; rw [← List.map_id l]
    exact List.map_congr_left fun a _ => rfl
  · rw [List.all_eq_true]
    intro x hx
    obtain ⟨c, hc, rfl⟩ := List.mem_map.1 hx
    exact ok_has (h c hc)

/-! Script. -/
def scrF (o : Nat) : List Nat → Nat
  | [] => o
  | c :: l => if (clsR (c : Int)).1 = 0 then scrF o l else if o ≠ 0 ∧ (clsR (c : Int)).1 ≠ o then 4 else scrF (clsR (c : Int)).1 l
def scriptR (s : List UInt8) : Nat := match decR s with | some l => scrF 0 l | none => 0
theorem scr_none {o c : Nat} {l : List Nat} (h : (clsR (c : Int)).1 = 0) : scrF o (c :: l) = scrF o l := by rw [scrF, if_pos h]
theorem scr_mixed {o c : Nat} {l : List Nat} (h : (clsR (c : Int)).1 ≠ 0) (ho : o ≠ 0) (h2 : (clsR (c : Int)).1 ≠ o) : scrF o (c :: l) = 4 := by rw [scrF, if_neg h, if_pos ⟨ho, h2⟩]
theorem scr_next {o c : Nat} {l : List Nat} (h : (clsR (c : Int)).1 ≠ 0) (h2 : o = 0 ∨ (clsR (c : Int)).1 = o) : scrF o (c :: l) = scrF (clsR (c : Int)).1 l := by
  rw [scrF, if_neg h, if_neg]
  rintro ⟨h3, h4⟩
  rcases h2 with h2 | h2
  · exact h3 h2
  · exact h4 h2

end Go.Proofs.YtmgofhbdaopapaaDoor

namespace Go.Proofs.YtmgofhbdaopapaaDoor
open Go.RowKit

theorem flat3 {α β : Type} (a b c : α → β) : ∀ (l : List α) (i : Nat) (x : α), l[i]? = some x →
    (l.flatMap fun x => [a x, b x, c x])[i * 3]? = some (a x) ∧ (l.flatMap fun x => [a x, b x, c x])[i * 3 + 1]? = some (b x) ∧ (l.flatMap fun x => [a x, b x, c x])[i * 3 + 2]? = some (c x)
  | [], i, x, h => by simp at h
  | y :: l, 0, x, h => by
    simp at h
    subst h
    exact ⟨rfl, rfl, rfl⟩
  | y :: l, i + 1, x, h => by
    have := flat3 a b c l i x (by simpa using h)
    rw [List.flatMap_cons]
    have e : ∀ j, ([a y, b y, c y] ++ l.flatMap fun x => [a x, b x, c x])[(i + 1) * 3 + j]? = (l.flatMap fun x => [a x, b x, c x])[i * 3 + j]? := by
      intro j
      rw [List.getElem?_append_right (by simp; omega)]
      congr 1
      simp
      omega
    have e0 := e 0
    rw [Nat.add_zero, Nat.add_zero] at e0
    rw [e0, e 1, e 2]
    exact this
def rowList : List Value := rowL.flatMap fun r => [Value.int .i64 (r.1 : Int), sv (encL r.2.1), sv (encL r.2.2)]
def rowCells : Array Value := rowList.toArray
theorem row_get (j : Nat) : rowCells[j]? = rowList[j]? := List.getElem?_toArray
def rowAt (i : Nat) : Nat × List Nat × List Nat := rowL.getD i (0, [], [])
theorem row_len : rowL.length = 13 := rfl
theorem rowL_get {i : Nat} (hi : i < 13) : rowL[i]? = some (rowAt i) := by
  unfold rowAt
  rw [List.getD, List.getElem?_eq_getElem (by rw [row_len]; exact hi)]
  rfl
theorem row_ok : (rowL.all fun r => (r.2.1.all hasN && r.2.2.all hasN) && (Nat.beq r.2.1.length r.2.2.length && Nat.ble r.2.1.length 100)) = true := by kernel_rfl
theorem row_facts {i : Nat} (hi : i < 13) : (∀ c ∈ (rowAt i).2.1, okC c) ∧ (∀ c ∈ (rowAt i).2.2, okC c) ∧ (rowAt i).2.1.length = (rowAt i).2.2.length ∧ (rowAt i).2.1.length ≤ 100 := by
  have h := List.all_eq_true.1 row_ok (rowAt i) (List.mem_of_getElem? (rowL_get hi))
  rw [Bool.and_eq_true, Bool.and_eq_true, Bool.and_eq_true, Nat.beq_eq, Nat.ble_eq, List.all_eq_true, List.all_eq_true] at h
  have ok : ∀ c, hasN c = true → okC c := by
    intro c hc
    rw [← hasN_eq] at hc
    have := has_range hc
    exact ⟨by omega, has_kind.1 hc⟩
  exact ⟨fun c hc => ok c (h.1.1 c hc), fun c hc => ok c (h.1.2 c hc), h.2.1, h.2.2⟩

end Go.Proofs.YtmgofhbdaopapaaDoor

namespace Go.Proofs.YtmgofhbdaopapaaDoor
open Go.RowKit

def zrow (r : Nat × List Nat × List Nat) : List (Nat × Nat × Nat) := (r.2.1.zip r.2.2).map fun x => (x.1, x.2, r.1)
theorem pair_split {i : Nat} (hi : i < 13) : pairL = (rowL.take i).flatMap zrow ++ (zrow (rowAt i) ++ (rowL.drop (i + 1)).flatMap zrow) := by
  have h : rowL = rowL.take i ++ (rowAt i :: rowL.drop (i + 1)) := by
    have h1 := List.getElem?_eq_some_iff.1 (rowL_get hi)
    obtain ⟨h2, h3⟩ := h1
    conv => lhs; rw [← List.take_append_drop i rowL, List.drop_eq_getElem_cons h2, h3]
  have e : pairL = rowL.flatMap zrow := rfl
  rw [e]
  conv => lhs; rw [h]
  rw [List.flatMap_append, List.flatMap_cons]
theorem rows_next {i : Nat} (hi : i < 13) : (rowL.take (i + 1)).flatMap zrow = (rowL.take i).flatMap zrow ++ zrow (rowAt i) := by
  rw [take_next (rowL_get hi), List.flatMap_append]
  simp
theorem rows_all : (rowL.take 13).flatMap zrow = pairL := by
  rw [List.take_of_length_le (by rw [row_len]; omega)]
  rfl
theorem find_take {α : Type} (p : α → Bool) (A : List α) (k : Nat) (x : α) (hx : A[k]? = some x) (h : (A.take k).find? p = none) : (p x = true → A.find? p = some x) ∧ (p x = false → (A.take (k + 1)).find? p = none) := by
  have e : A.take (k + 1) = A.take k ++ [x] := take_next hx
  constructor
  · intro hp
    have h2 : A = A.take k ++ (x :: A.drop (k + 1)) := by
      obtain ⟨h3, h4⟩ := List.getElem?_eq_some_iff.1 hx
      conv => lhs; rw [← List.take_append_drop k A, List.drop_eq_getElem_cons h3, h4]
    rw [h2, List.find?_append, h]
    simp [hp]
  · intro hp
    rw [e, List.find?_append, h]
    simp [hp]
theorem zrow_get {r : Nat × List Nat × List Nat} {k x y : Nat} (h1 : r.2.1[k]? = some x) (h2 : r.2.2[k]? = some y) : (zrow r)[k]? = some (x, y, r.1) := by
  unfold zrow
  rw [List.getElem?_map, (List.getElem?_zip_eq_some (z := (x, y))).2 ⟨h1, h2⟩]
  rfl
theorem zrow_len {r : Nat × List Nat × List Nat} (h : r.2.1.length = r.2.2.length) : (zrow r).length = r.2.1.length := by
  unfold zrow
  rw [List.length_map, List.length_zip, h, Nat.min_self]
/-- The search for a letter among the rows ahead, and its end. -/
theorem pairR_none {c : Nat} (h : pairL.find? (fun x => Nat.beq x.1 c) = none) : pairR c = (0, 0) := by unfold pairR; rw [h]
theorem pairR_some {c : Nat} {x : Nat × Nat × Nat} (h : pairL.find? (fun x => Nat.beq x.1 c) = some x) : pairR c = x.2 := by unfold pairR; rw [h]
theorem compR_none {b m : Nat} (h : pairL.find? (fun x => Nat.beq x.2.1 b && Nat.beq x.2.2 m) = none) : compR b m = 0 := by unfold compR; rw [h]
theorem compR_some {b m : Nat} {x : Nat × Nat × Nat} (h : pairL.find? (fun x => Nat.beq x.2.1 b && Nat.beq x.2.2 m) = some x) : compR b m = x.1 := by unfold compR; rw [h]
theorem find_split {p : Nat × Nat × Nat → Bool} {i : Nat} (hi : i < 13) (h : ((rowL.take i).flatMap zrow).find? p = none) {x : Nat × Nat × Nat} (h2 : (zrow (rowAt i)).find? p = some x) : pairL.find? p = some x := by
  rw [pair_split hi, List.find?_append, h, List.find?_append, h2]
  rfl
theorem beq_false {a b : Nat} (h : a ≠ b) : Nat.beq a b = false := by rw [← Bool.not_eq_true, Nat.beq_eq]; exact h
theorem beq_true (a : Nat) : Nat.beq a a = true := by rw [Nat.beq_eq]

theorem dec_letters {i : Nat} (hi : i < 13) : decR (encL (rowAt i).2.1) = some (rowAt i).2.1 ∧ decR (encL (rowAt i).2.2) = some (rowAt i).2.2 :=
  ⟨dec_enc _ (row_facts hi).1, dec_enc _ (row_facts hi).2.1⟩
theorem enc_short {l : List Nat} (h : l.length ≤ 100) : (encL l).length ≤ 300 := by have := encL_len l; omega

end Go.Proofs.YtmgofhbdaopapaaDoor

namespace Go.Proofs.YtmgofhbdaopapaaDoor
open Go.RowKit

theorem zrow_other {r : Nat × List Nat × List Nat} {m : Nat} (c : Nat) (h : ¬ r.1 = m) : (zrow r).find? (fun x => Nat.beq x.2.1 c && Nat.beq x.2.2 m) = none := by
  rw [List.find?_eq_none]
  intro x hx
  unfold zrow at hx
  obtain ⟨p, _, rfl⟩ := List.mem_map.1 hx
  simp only
  rw [beq_false h, Bool.and_false]
  decide

end Go.Proofs.YtmgofhbdaopapaaDoor

namespace Go.Proofs.YtmgofhbdaopapaaDoor
open Go.RowKit

/-- A new slice of the call's own that holds these characters. -/
def NewNats (w : World) (l : List Nat) (e : Ending) (w' : World) : Prop :=
  ∃ (b c : Nat) (cs : Array Value), e = .returned (.slice (some ⟨b, 0, none⟩) l.length c) ∧ w.heap.size ≤ b ∧ Box w' b 3 cs ∧ (∀ (i u : Nat), l[i]? = some u → cs[i]? = some (nv u)) ∧ Below w.heap.size w w'
theorem new_one (w : World) (x : Int) (y : Nat) (h : x = (y : Int)) : NewNats w [y] (.returned (.slice (some ⟨w.heap.size, 0, none⟩) 1 1)) (w.alloc (.cells #[.int .i64 x] 3)) := by
  subst h
  refine ⟨_, 1, _, rfl, Nat.le_refl _, Box.made w 3 #[.int .i64 (y : Int)], fun i u hu => ?_, below_new (Below.refl _ _) _⟩
  cases i with
  | zero => simp at hu; subst hu; rfl
  | succ i => simp at hu
theorem new_two (w : World) (x x' : Int) (y z : Nat) (h : x = (y : Int)) (h' : x' = (z : Int)) : NewNats w [y, z] (.returned (.slice (some ⟨w.heap.size, 0, none⟩) 2 2)) (w.alloc (.cells #[.int .i64 x, .int .i64 x'] 3)) := by
  subst h h'
  refine ⟨_, 2, _, rfl, Nat.le_refl _, Box.made w 3 #[.int .i64 (y : Int), .int .i64 (z : Int)], fun i u hu => ?_, below_new (Below.refl _ _) _⟩
  match i with
  | 0 => simp at hu; subst hu; rfl
  | 1 => simp at hu; subst hu; rfl
  | i + 2 => simp at hu
theorem NewNats.from {w w1 : World} {l : List Nat} {e : Ending} {w' : World} (h : NewNats w1 l e w') (hb : Below w.heap.size w w1) : NewNats w l e w' := by
  obtain ⟨b, c, cs, h1, h2, h3, h4, h5⟩ := h
  exact ⟨b, c, cs, h1, Nat.le_trans hb.size h2, h3, h4, below_next hb h5⟩

end Go.Proofs.YtmgofhbdaopapaaDoor

namespace Go.Proofs.YtmgofhbdaopapaaDoor
open Go.RowKit

section
variable {P : Program} (w : World)
theorem run_append_where (base : Nat) (t ty e : TypeId) (i : TypeInfo) (z : Value) (bytes : Nat) (ht : P.underlying t = some (.slice e)) (hi : P.info? e = some i) (hz : i.zero = some z)
    (hsize : i.size = 1) (hby : i.bytes = bytes) (hzs : z.cells.size = 1)
    (v : Value) (n : Nat) (xs : List Value) (hown : w.ownsRow base e 1 v n xs)
    (a : Addr) (m c : Nat) (news : List Value) (hl : news.length = m) (hm : 0 < m) (hnews : ∀ j u, news[j]? = some u → w.cell? (a.add j) = some u) (h1 : ∀ u ∈ news, u.oneCell' = true)
    (h63 : n + m ≤ maxLen) (hbytes : (n + m) * bytes ≤ 140737488355328) (hbase : base ≤ w.heap.size) :
    ∃ v' w', (Builtin.append_ #[t, t] ty #[v, .slice (some a) m c]).run P w = .ok v' w' ∧ w'.ownsRow base e 1 v' (n + m) (xs ++ news) ∧ w.grownBy w' v.ownBlock ∧
      (∀ g, v'.ownBlock = some g → v.ownBlock = some g ∨ w.heap.size ≤ g) := by
  have hsmall : n + m ≤ 9223372036854775807 := by simp only [maxLen] at h63; omega
  obtain ⟨v', w', hr, h2, h3, _⟩ := run_append_own (P := P) w base t ty e i z 1 bytes ht hi hz hsize hby hzs (by decide) v n xs hown a m c news (by omega) hnews h1 h63 hbytes hbase
  refine ⟨v', w', hr, h2, h3, ?_⟩
  rcases hown.2 with ⟨rfl, rfl⟩ | ⟨g, cap, cur, rfl, hbg, hg, hnc, hcm, hcs, htake⟩
  · have hr2 := run_append_nil (P := P) w t ty e i z ht hi hz a m c news (by rw [hsize]; omega) hnews hm (by omega) (by have hb := hbytes; rw [hby]; simp only [Nat.zero_add] at hb; omega)
    rw [hr] at hr2
    injection hr2 with hv _
    intro k hk
    rw [hv] at hk
    simp only [Value.ownBlock, Option.some.injEq] at hk
    exact .inr (by omega)
  · by_cases hroom : n + m ≤ cap
    · have hr2 := run_append_room (P := P) w t ty e i ht hi g n cap cur hg a m c news (by rw [hsize]; omega) hnews h1 hroom (by rw [hsize]; omega)
      rw [hr] at hr2
      injection hr2 with hv _
      intro k hk
      rw [hv] at hk
      exact .inl hk
    · have holds : ∀ j u, xs[j]? = some u → w.cell? ((⟨g, 0, none⟩ : Addr).add j) = some u := hown.cells (g := g) rfl
      have hxl := hown.1
      have hr2 := run_append_grow (P := P) w t ty e i z ht hi hz ⟨g, 0, none⟩ n cap xs (by rw [hsize]; exact hxl) holds a m c news (by rw [hsize]; omega) hnews (by omega) (by omega) (by rw [hby]; exact growslice_fits (by omega) hbytes)
      rw [hr] at hr2
      injection hr2 with hv _
      intro k hk
      rw [hv] at hk
      simp only [Value.ownBlock, Option.some.injEq] at hk
      exact .inr (by omega)
end

theorem append_one_where {P : Program} {α : Type} {val : α → Value} (t e : TypeId) (z : Value) (bytes : Nat) (ht : P.underlying t = some (.slice e)) (info : (P.info? e).map (fun i => (i.zero, i.size, i.bytes)) = some (some z, 1, bytes))
    (hzs : z.cells.size = 1) (hbytes : bytes ≤ 100) (hval : ∀ x, (val x).oneCell' = true)
    {ops : Array Oper} {rest : List Oper} {o : Oper} {a : Act} {Q : Exit → Act → World → Prop} (w : World) (hgd : o.guard = none) (s x : Operand)
    (ho : o.op = .call { callee := .builtin .append, args := #[s, x], argTypes := #[t, t] })
    (base : Nat) (v : Value) (xs : List α) (hs : a.eval s = v) (hown : w.ownsRow base e 1 v xs.length (xs.map val)) (y : α) (u : Value) (hu : u = val y)
    (hx : a.eval x = .slice (some ⟨w.heap.size, 0, none⟩) 1 1) (hlen : xs.length ≤ 1000000000000 - 1) (hbase : base ≤ w.heap.size)
    (h : ∀ v' w', w'.ownsRow base e 1 v' (xs ++ [y]).length ((xs ++ [y]).map val) → w.grownBy w' v.ownBlock → (∀ g, v'.ownBlock = some g → v.ownBlock = some g ∨ w.heap.size ≤ g) → wpList P ops Q rest (a.put o.dst v') w') : wpList P ops Q (o :: rest) a (w.alloc (.cells #[u] e)) := by
  obtain ⟨i0, hi, hz0, hz1, hz2⟩ := info_parts info
  subst hu
  have hown1 : (w.alloc (.cells #[val y] e)).ownsRow base e 1 v xs.length (xs.map val) := own_keep_below hown ((Below.refl _ _).alloc (Nat.le_refl _) _)
  refine wpList_plain hgd fun K hK => ?_
  have hcell : ∀ j u, [val y][j]? = some u → (w.alloc (.cells #[val y] e)).cell? ((⟨w.heap.size, 0, none⟩ : Addr).add j) = some u := by
    intro j u hu
    cases j with
    | zero => simp at hu; subst hu; rw [plain_add]; exact (Box.made w e #[val y]).cell 0
    | succ j => simp at hu
  obtain ⟨v', w', hr, h2, h3, h4⟩ := run_append_where (P := P) (w.alloc (.cells #[val y] e)) base t o.type e i0 z bytes ht hi hz0 hz1 hz2 hzs v xs.length (xs.map val) hown1 ⟨w.heap.size, 0, none⟩ 1 1 [val y] rfl (by decide) hcell
    (by intro u hu; rw [List.mem_singleton] at hu; subst hu; exact hval y) (by unfold maxLen; omega) (by have := Nat.mul_le_mul (show xs.length + 1 ≤ 1000000000000 by omega) hbytes; omega) (by simp; omega)
  unfold Oper.wp execOp
  simp only [ho, resolve, invoke, builtin, Sem.run_bind, Sem.run_pure, Result.andThen_ok, List.map_toArray, List.map_cons, List.map_nil, hs, hx, hr]
  refine hK _ _ (h v' w' (by rw [List.length_append, List.map_append]; exact h2) (grown_trans (grown_of_below _ ((Below.refl _ _).alloc (Nat.le_refl _) _)) h3) fun g hg => ?_)
  rcases h4 g hg with h5 | h5
  · exact .inl h5
  · simp at h5
    exact .inr (by omega)

end Go.Proofs.YtmgofhbdaopapaaDoor

namespace Go.Proofs.YtmgofhbdaopapaaDoor
open Go.RowKit

/-- append of one integer; the new row is the old one, or a new block. -/
theorem append_int_w {ops : Array Oper} {rest : List Oper} {o : Oper} {a : Act} {Q : Exit → Act → World → Prop} (w : World) (hgd : o.guard = none) (s x : Operand)
    (ho : o.op = .call { callee := .builtin .append, args := #[s, x], argTypes := #[93, 93] })
    (base : Nat) (v : Value) (xs : List Nat) (hs : a.eval s = v) (hown : w.ownsRow base 3 1 v xs.length (xs.map nv)) (y : Nat) (u : Value) (hu : u = nv y)
    (hx : a.eval x = .slice (some ⟨w.heap.size, 0, none⟩) 1 1) (hlen : xs.length ≤ 1000000000000 - 1) (hbase : base ≤ w.heap.size)
    (h : ∀ v' w', w'.ownsRow base 3 1 v' (xs ++ [y]).length ((xs ++ [y]).map nv) → w.grownBy w' v.ownBlock → (∀ g, v'.ownBlock = some g → v.ownBlock = some g ∨ w.heap.size ≤ g) → wpList Tryd.prog ops Q rest (a.put o.dst v') w') : wpList Tryd.prog ops Q (o :: rest) a (w.alloc (.cells #[u] 3)) :=
  append_one_where 93 3 (.int .i64 0) 8 Tryd.underlying93 info_int rfl (by decide) one_nv w hgd s x ho base v xs hs hown y u hu hx hlen hbase h

section
variable {w : World} {B e n : Nat} {v : Value} {xs : List Value}
/-- A row of the call's own with elements, written out. -/
theorem own_open (h : w.ownsRow B e 1 v n xs) (h0 : 0 < n) : ∃ g cap cur, v = .slice (some ⟨g, 0, none⟩) n cap ∧ B ≤ g ∧ Box w g e cur ∧ n ≤ cap ∧ cap ≤ maxLen ∧ cur.size = cap ∧ cur.toList.take n = xs := by
  rcases h.2 with ⟨_, h1⟩ | ⟨g, cap, cur, hv, hb, hg, hc, hm, hsz, htake⟩
  · omega
  · exact ⟨g, cap, cur, hv, hb, hg, hc, hm, by simpa using hsz, by simpa using htake⟩
end
theorem own_shut {w : World} {B g n cap : Nat} {e : TypeId} {cur : Array Value} {xs : List Value} (hl : xs.length = n) (hb : B ≤ g) (hg : Box w g e cur) (hc : n ≤ cap) (hm : cap ≤ maxLen) (hs : cur.size = cap) (ht : cur.toList.take n = xs) :
    w.ownsRow B e 1 (.slice (some ⟨g, 0, none⟩) n cap) n xs :=
  ⟨by simp; omega, .inr ⟨g, cap, cur, rfl, hb, hg, hc, hm, by simp [hs], by simp [ht]⟩⟩
theorem take_cell {cur : Array Value} {n j x : Nat} {xs : List Nat} (ht : cur.toList.take n = xs.map nv) (hx : xs[j]? = some x) : cur[j]? = some (nv x) := by
  have h : (xs.map nv)[j]? = some (nv x) := by rw [List.getElem?_map, hx]; rfl
  rw [← ht, List.getElem?_take] at h
  split at h
  · rw [← Array.getElem?_toList]; exact h
  · cases h
theorem swap_take {cur : Array Value} {n : Nat} {P Q : List Nat} {p c : Nat} (ht : cur.toList.take n = (P ++ p :: c :: Q).map nv) :
    ((cur.setIfInBounds P.length (nv c)).setIfInBounds (P.length + 1) (nv p)).toList.take n = (P ++ c :: p :: Q).map nv := by
  rw [Array.toList_setIfInBounds, Array.toList_setIfInBounds, List.take_set, List.take_set, ht, ← List.map_set, ← List.map_set]
  congr 1
  rw [List.set_append_right _ _ (by omega), List.set_append_right _ _ (by omega)]
  simp
theorem quiet_add {P : Program} {f : FuncId} {args : Array Value} {w : World} {q n : Nat} {v : Value}
    (h : Calls P f args (w.drewN (q + n)) fun e w' => e = .returned v ∧ ∃ m, w' = (w.drewN (q + n)).drewN m) : Calls P f args (w.drewN (q + n)) fun e w' => e = .returned v ∧ ∃ m, w' = w.drewN (q + m) :=
  h.mono fun _ _ ⟨he, m, hm⟩ => ⟨he, n + m, by rw [hm, World.drewN_drewN, Nat.add_assoc]⟩

/-- append of one integer, the new row written out. -/
theorem append_int_open {ops : Array Oper} {rest : List Oper} {o : Oper} {a : Act} {Q : Exit → Act → World → Prop} (w : World) (hgd : o.guard = none) (s x : Operand)
    (ho : o.op = .call { callee := .builtin .append, args := #[s, x], argTypes := #[93, 93] })
    (base : Nat) (v : Value) (xs : List Nat) (M : Nat) (hM : xs.length = M) (hs : a.eval s = v) (hown : w.ownsRow base 3 1 v xs.length (xs.map nv)) (y : Nat) (u : Value) (hu : u = nv y)
    (hx : a.eval x = .slice (some ⟨w.heap.size, 0, none⟩) 1 1) (hlen : M ≤ 1000000000000 - 1) (hbase : base ≤ w.heap.size)
    (h : ∀ (g cap : Nat) (cur : Array Value) (w' : World), base ≤ g → Box w' g 3 cur → M + 1 ≤ cap → cap ≤ maxLen → cur.size = cap → cur.toList.take (M + 1) = (xs ++ [y]).map nv → w.grownBy w' v.ownBlock → (v.ownBlock = some g ∨ w.heap.size ≤ g) →
      wpList Tryd.prog ops Q rest (a.put o.dst (.slice (some ⟨g, 0, none⟩) (M + 1) cap)) w') : wpList Tryd.prog ops Q (o :: rest) a (w.alloc (.cells #[u] 3)) := by
  refine append_int_w w hgd s x ho base v xs hs hown y u hu hx (by omega) hbase ?_
  intro v' w' h1 h2 h3
  have hl : (xs ++ [y]).length = M + 1 := by rw [List.length_append, hM]; rfl
  rw [hl] at h1
  obtain ⟨g, cap, cur, rfl, k1, k2, k3, k4, k5, k6⟩ := own_open h1 (by omega)
  exact h g cap cur w' k1 k2 k3 k4 k5 k6 h2 (h3 g rfl)

end Go.Proofs.YtmgofhbdaopapaaDoor

namespace Go.Proofs.YtmgofhbdaopapaaDoor
open Go.RowKit

theorem ins_pos {c p : Nat} {R : List Nat} (h : 0 < clM c) (h2 : clM c < clM p) : insB clM c (p :: R) = p :: insB clM c R := by rw [insB, if_pos ⟨h, h2⟩]
theorem ins_neg {c p : Nat} {R : List Nat} (h : ¬ (0 < clM c ∧ clM c < clM p)) : insB clM c (p :: R) = c :: p :: R := by rw [insB, if_neg h]
theorem decL_some {s : List UInt8} {l : List Nat} (h : decR s = some l) : (decR s).getD [] = l := by rw [h]; rfl

theorem own_M {w : World} {B g n cap : Nat} {e : TypeId} {cur : Array Value} {xs : List Nat} (hl : xs.length = n) (hb : B ≤ g) (hg : Box w g e cur) (hc : n ≤ cap) (hm : cap ≤ maxLen) (hs : cur.size = cap) (ht : cur.toList.take n = xs.map nv) :
    w.ownsRow B e 1 (.slice (some ⟨g, 0, none⟩) n cap) xs.length (xs.map nv) := by
  rw [hl]
  exact own_shut (by rw [List.length_map]; exact hl) hb hg hc hm hs ht

end Go.Proofs.YtmgofhbdaopapaaDoor
