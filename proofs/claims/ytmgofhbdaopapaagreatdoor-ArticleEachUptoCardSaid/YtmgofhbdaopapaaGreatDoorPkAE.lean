/-
  The reference's Encode.
  The reference's Script.
  The reference's table of composed letters in memory.
  The reference's pair and composed.
  The reference's composed.
-/
import Derived.Test.YtmgofhbdaopapaaGreatDoorPkAD
import Derived.Test.YtmgofhbdaopapaaGreatDoorPkAC
namespace Go.Proofs.YtmgofhbdaopapaaGreatDoor
open Go.RowKit

theorem memB_range {l : List Nat} {c : Int} (hl : ∀ x ∈ l, x < 65536) (h : memB l c = true) : 0 ≤ c ∧ c < 65536 := by
  unfold memB at h
  obtain ⟨d, hd, h⟩ := List.any_eq_true.1 h
  have := hl d hd
  have h2 : (d : Int) = c := by simpa using h
  omega
theorem inB_range {c lo hi : Int} (h : inB c lo hi = true) : lo ≤ c ∧ c ≤ hi := by unfold inB at h; simpa using h
theorem clsN_range {c : Int} (h : (clsN c).2 ≠ 0) : 0 ≤ c ∧ c < 65536 := by
  unfold clsN at h
  split at h
  · rename_i h1; simp at h1; omega
  split at h
  · rename_i h1
    simp only [Bool.or_eq_true, beq_iff_eq] at h1
    rcases h1 with ((h1 | h1) | h1) | h1
    · have := inB_range h1; omega
    all_goals omega
  split at h
  · rename_i h1
    simp only [Bool.or_eq_true, beq_iff_eq] at h1
    rcases h1 with ((((h1 | h1) | h1) | h1) | h1) | h1
    · have := inB_range h1; omega
    · have := inB_range h1; omega
    · omega
    · omega
    · omega
    · exact memB_range latin_small h1
  split at h
  · rename_i h1
    simp only [Bool.or_eq_true, beq_iff_eq] at h1
    rcases h1 with ((((h1 | h1) | h1) | h1) | h1) | h1
    · have := inB_range h1; omega
    · have := inB_range h1; omega
    · have := inB_range h1; omega
    all_goals omega
  split at h
  · rename_i h1
    simp only [Bool.or_eq_true] at h1
    rcases h1 with ((h1 | h1) | h1) | h1
    · have := inB_range h1; omega
    · have := inB_range h1; omega
    · have := inB_range h1; omega
    · exact memB_range greek_small h1
  split at h
  · rename_i h1
    simp only [Bool.or_eq_true] at h1
    rcases h1 with h1 | h1
    · have := inB_range h1; omega
    · exact memB_range cyr_small h1
  split at h
  · rename_i h1
    have := inB_range h1
    omega
  · exact absurd rfl h
theorem has_range {c : Int} (h : hasR c = true) : 0 ≤ c ∧ c < 65536 := by
  unfold hasR kindR clsR at h
  split at h
  · rename_i h1
    have := inB_range h1
    omega
  · exact clsN_range (by simpa using h)

/-- The encoding of a list of numbers. -/
def encI (xs : List Int) : List UInt8 := encL (xs.map Int.toNat)
def encR (xs : List Int) : Option (List UInt8) := if xs.all hasR = true then some (encI xs) else none
def EncEnd (r : Option (List UInt8)) (e : Ending) : Prop :=
  match r with
  | some b => e = .returned (.tuple #[.string (str b), .bool true])
  | none => e = .returned (.tuple #[.string (str []), .bool false])
theorem encI_snoc (xs : List Int) (x : Int) : encI (xs ++ [x]) = encI xs ++ encC x.toNat := by
  unfold encI
  rw [List.map_append, encL_app, List.map_singleton, encL, encL, List.append_nil]
theorem encL_len (l : List Nat) : (encL l).length ≤ 3 * l.length := by
  induction l with
  | nil => simp [encL]
  | cons x l ih =>
    have := encC_len x
    rw [encL, List.length_append, List.length_cons]
    omega
theorem encI_len (xs : List Int) : (encI xs).length ≤ 3 * xs.length := by
  unfold encI
  have := encL_len (xs.map Int.toNat)
  rwa [List.length_map] at this
theorem encR_bad {xs : List Int} {k : Nat} {x : Int} (h : xs[k]? = some x) (hx : hasR x = false) : encR xs = none := by
  unfold encR
  refine if_neg fun h2 => ?_
  have := List.all_eq_true.1 h2 x (List.mem_of_getElem? h)
  rw [hx] at this
  cases this
theorem encR_good {xs : List Int} (h : xs.all hasR = true) : encR xs = some (encI xs) := if_pos h
theorem all_take {xs : List Int} {k : Nat} {x : Int} (h : xs[k]? = some x) (h1 : (xs.take k).all hasR = true) (hx : hasR x = true) : (xs.take (k + 1)).all hasR = true := by
  rw [take_next h, List.all_append, h1]
  simp [hx]

theorem add_str {P : Program} {w : World} (a b : List UInt8) (h : a.length + b.length ≤ 9223372036854775807) : (Op.stringOp .add (str a) (str b)).run P w = .ok (.string (str (a ++ b))) w := by
  rw [run_string_add_sum w (str a) (str b) h, str_append]

set_option maxRecDepth 20000 in
set_option maxHeartbeats 1600000 in
theorem refEncode_any (A : Option Addr) (n c : Nat) (xs : List Int) (w : World) (h : Arr iv w w.heap.size (.slice A n c) xs) (hn : n ≤ 1000000000000000000) :
    Calls Tryz.prog 35 #[.slice A n c] w fun e w' => EncEnd (encR xs) e ∧ Below w.heap.size w w' := by
  have HL := Lib.hid h.len
  obtain ⟨R, hR⟩ : ∃ R, R = encR xs := ⟨_, rfl⟩
  rw [← hR]
  have HR := Lib.hid hR
  clear hR
  go_enter Tryz.func35, Tryz.ntmps35
  go_wp2
  go_loopw [4, 5] (fun v i wr => ∃ (k : Nat) (b : List UInt8), k ≤ n ∧ i = .int .i64 (k : Int) ∧ v = .string (str b) ∧ Hid (b = encI (xs.take k)) ∧ Hid ((xs.take k).all hasR = true) ∧ Below w.heap.size w wr) (fun _ i _ => n - (intOf i).toNat)
  case atStart => exact ⟨0, [], by omega, rfl, rfl, Lib.hid rfl, Lib.hid rfl, Below.refl _ _⟩
  case round =>
    obtain ⟨k, b, hk, rfl, rfl, HB, HA, hbel⟩ := hrel
    by_cases hlt : k < n
    · have i1 : decide ((k : Int) < (n : Int)) = true := by simp; omega
      obtain ⟨b0, o0, rfl, hB0, hc0⟩ := h.some_ (by omega)
      obtain ⟨x, hx⟩ : ∃ a, xs[k]? = some a := ⟨_, List.getElem?_eq_getElem (by have := HL.out; omega)⟩
      have d0 := (hbel.cell (p := ⟨b0, o0 + k, none⟩) hB0).trans (hc0 k x hx)
      simp only [iv] at d0
      have HH := Lib.hid (has_any x)
      cases hc : hasR x with
      | false =>
        have HE : Hid (R = none) := Lib.hid (by rw [HR.out, encR_bad hx hc])
        rw [hc] at HH
        clear hc0 hx hc
        go_wp2_with fail
        refine (HH.out _).mono ?_
        rintro e w1 ⟨rfl, q, rfl⟩
        go_wp2
        go_ret2
        rw [HE.out]
        exact ⟨rfl, below_drewN hbel q⟩
      | true =>
        have hr := has_range hc
        obtain ⟨y, rfl⟩ : ∃ y : Nat, x = (y : Int) := ⟨x.toNat, by omega⟩
        have hy : y < 65536 := by omega
        have HB2 : Hid (b ++ encC y = encI (xs.take (k + 1))) := Lib.hid (by rw [take_next hx, encI_snoc, HB.out]; rfl)
        have HA2 := Lib.hid (all_take hx HA.out hc)
        have hbl : b.length ≤ 3 * n := by
          have h1 := encI_len (xs.take k)
          rw [← HB.out, List.length_take] at h1
          omega
        have hcl := encC_len y
        rw [hc] at HH
        clear hc0 hx hc
        go_wp2_with fail
        refine (HH.out _).mono ?_
        rintro e w1 ⟨rfl, q, rfl⟩
        go_wp2_with fail
        refine (refBytes_any y _ hy).mono ?_
        rintro e w2 ⟨rfl, hb2⟩
        have hadd := add_str (P := Tryz.prog) (w := w2) b (encC y) (by omega)
        go_wp2
        go_roundw
        case rel => exact ⟨k + 1, b ++ encC y, by omega, by go_num, rfl, HB2, HA2, (below_drewN hbel q).trans (hb2.mono hbel.size)⟩
        case measure => simp [intOf]; omega
    · obtain rfl : k = n := by omega
      have hall : xs.all hasR = true := by have := HA.out; rwa [List.take_of_length_le (by have := HL.out; omega)] at this
      have hbe : b = encI xs := by have := HB.out; rwa [List.take_of_length_le (by have := HL.out; omega)] at this
      have HE : Hid (R = some b) := Lib.hid (by rw [HR.out, encR_good hall, hbe])
      clear hall hbe
      go_wp2
      go_ret2
      rw [HE.out]
      exact ⟨rfl, hbel⟩

end Go.Proofs.YtmgofhbdaopapaaGreatDoor

namespace Go.Proofs.YtmgofhbdaopapaaGreatDoor
open Go.RowKit

theorem ok_has {c : Nat} (h : okC c) : hasR (c : Int) = true := has_kind.2 h.2
theorem encR_nats {l : List Nat} (h : ∀ c ∈ l, okC c) : encR (l.map fun d : Nat => (d : Int)) = some (encL l) := by
  rw [encR_good]
  · unfold encI
    rw [List.map_map]
    congr 2
    conv => rhs; rw [← List.map_id l]
    exact List.map_congr_left fun a _ => rfl
  · rw [List.all_eq_true]
    intro x hx
    obtain ⟨c, hc, rfl⟩ := List.mem_map.1 hx
    exact ok_has (h c hc)

/-! Script. -/
def scrF (o : Nat) : List Nat → Nat
  | [] => o
  | c :: l => if (clsR (c : Int)).1 = 0 then scrF o l else if o ≠ 0 ∧ (clsR (c : Int)).1 ≠ o then 4 else scrF (clsR (c : Int)).1 l
def scriptR (s : List UInt8) : Nat := match decR s with | some l => scrF 0 l | none => 0
theorem scr_none {o c : Nat} {l : List Nat} (h : (clsR (c : Int)).1 = 0) : scrF o (c :: l) = scrF o l := by rw [scrF, if_pos h]
theorem scr_mixed {o c : Nat} {l : List Nat} (h : (clsR (c : Int)).1 ≠ 0) (ho : o ≠ 0) (h2 : (clsR (c : Int)).1 ≠ o) : scrF o (c :: l) = 4 := by rw [scrF, if_neg h, if_pos ⟨ho, h2⟩]
theorem scr_next {o c : Nat} {l : List Nat} (h : (clsR (c : Int)).1 ≠ 0) (h2 : o = 0 ∨ (clsR (c : Int)).1 = o) : scrF o (c :: l) = scrF (clsR (c : Int)).1 l := by
  rw [scrF, if_neg h, if_neg]
  rintro ⟨h3, h4⟩
  rcases h2 with h2 | h2
  · exact h3 h2
  · exact h4 h2

end Go.Proofs.YtmgofhbdaopapaaGreatDoor

namespace Go.Proofs.YtmgofhbdaopapaaGreatDoor
open Go.RowKit

theorem flat3 {α β : Type} (a b c : α → β) : ∀ (l : List α) (i : Nat) (x : α), l[i]? = some x →
    (l.flatMap fun x => [a x, b x, c x])[i * 3]? = some (a x) ∧ (l.flatMap fun x => [a x, b x, c x])[i * 3 + 1]? = some (b x) ∧ (l.flatMap fun x => [a x, b x, c x])[i * 3 + 2]? = some (c x)
  | [], i, x, h => by simp at h
  | y :: l, 0, x, h => by
    simp at h
    subst h
    exact ⟨rfl, rfl, rfl⟩
  | y :: l, i + 1, x, h => by
    have := flat3 a b c l i x (by simpa using h)
    rw [List.flatMap_cons]
    have e : ∀ j, ([a y, b y, c y] ++ l.flatMap fun x => [a x, b x, c x])[(i + 1) * 3 + j]? = (l.flatMap fun x => [a x, b x, c x])[i * 3 + j]? := by
      intro j
      rw [List.getElem?_append_right (by simp; omega)]
      congr 1
      simp
      omega
    have e0 := e 0
    rw [Nat.add_zero, Nat.add_zero] at e0
    rw [e0, e 1, e 2]
    exact this
def rowList : List Value := rowL.flatMap fun r => [Value.int .i64 (r.1 : Int), sv (encL r.2.1), sv (encL r.2.2)]
def rowCells : Array Value := rowList.toArray
theorem row_get (j : Nat) : rowCells[j]? = rowList[j]? := List.getElem?_toArray
def rowAt (i : Nat) : Nat × List Nat × List Nat := rowL.getD i (0, [], [])
theorem row_len : rowL.length = 13 := rfl
theorem rowL_get {i : Nat} (hi : i < 13) : rowL[i]? = some (rowAt i) := by
  unfold rowAt
  rw [List.getD, List.getElem?_eq_getElem (by rw [row_len]; exact hi)]
  rfl
theorem row_cells {w : World} {g : Nat} (h : Box w g 156 rowCells) {i : Nat} (hi : i < 13) : w.cell? ⟨g, i * 3, none⟩ = some (.int .i64 ((rowAt i).1 : Int)) ∧ w.cell? ⟨g, i * 3 + 1, none⟩ = some (.string (str (encL (rowAt i).2.1))) ∧
    w.cell? ⟨g, i * 3 + 2, none⟩ = some (.string (str (encL (rowAt i).2.2))) := by
  have := flat3 (fun r : Nat × List Nat × List Nat => Value.int .i64 (r.1 : Int)) (fun r => sv (encL r.2.1)) (fun r => sv (encL r.2.2)) rowL i (rowAt i) (rowL_get hi)
  rw [h.cell, h.cell, h.cell, row_get, row_get, row_get]
  exact this
theorem row_ok : (rowL.all fun r => (r.2.1.all hasN && r.2.2.all hasN) && (Nat.beq r.2.1.length r.2.2.length && Nat.ble r.2.1.length 100)) = true := by kernel_rfl
theorem row_facts {i : Nat} (hi : i < 13) : (∀ c ∈ (rowAt i).2.1, okC c) ∧ (∀ c ∈ (rowAt i).2.2, okC c) ∧ (rowAt i).2.1.length = (rowAt i).2.2.length ∧ (rowAt i).2.1.length ≤ 100 := by
  have h := List.all_eq_true.1 row_ok (rowAt i) (List.mem_of_getElem? (rowL_get hi))
  rw [Bool.and_eq_true, Bool.and_eq_true, Bool.and_eq_true, Nat.beq_eq, Nat.ble_eq, List.all_eq_true, List.all_eq_true] at h
  have ok : ∀ c, hasN c = true → okC c := by
    intro c hc
    rw [← hasN_eq] at hc
    have := has_range hc
    exact ⟨by omega, has_kind.1 hc⟩
  exact ⟨fun c hc => ok c (h.1.1 c hc), fun c hc => ok c (h.1.2 c hc), h.2.1, h.2.2⟩

set_option maxRecDepth 100000 in
set_option maxHeartbeats 3200000 in
theorem rows_any (w : World) :
    Calls Tryz.prog 144 #[] w fun e w' => e = .returned (.slice (some ⟨w.heap.size, 0, none⟩) 13 13) ∧ w' = w.alloc (.cells rowCells 156) := by
  go_enter Tryz.func144, Tryz.ntmps144
  go_wp2
  go_ret
  refine ⟨rfl, ?_⟩
  congr 2

end Go.Proofs.YtmgofhbdaopapaaGreatDoor

namespace Go.Proofs.YtmgofhbdaopapaaGreatDoor
open Go.RowKit

def zrow (r : Nat × List Nat × List Nat) : List (Nat × Nat × Nat) := (r.2.1.zip r.2.2).map fun x => (x.1, x.2, r.1)
theorem pair_split {i : Nat} (hi : i < 13) : pairL = (rowL.take i).flatMap zrow ++ (zrow (rowAt i) ++ (rowL.drop (i + 1)).flatMap zrow) := by
  have h : rowL = rowL.take i ++ (rowAt i :: rowL.drop (i + 1)) := by
    have h1 := List.getElem?_eq_some_iff.1 (rowL_get hi)
    obtain ⟨h2, h3⟩ := h1
    conv => lhs; rw [← List.take_append_drop i rowL, List.drop_eq_getElem_cons h2, h3]
  have e : pairL = rowL.flatMap zrow := rfl
  rw [e]
  conv => lhs; rw [h]
  rw [List.flatMap_append, List.flatMap_cons]
theorem rows_next {i : Nat} (hi : i < 13) : (rowL.take (i + 1)).flatMap zrow = (rowL.take i).flatMap zrow ++ zrow (rowAt i) := by
  rw [take_next (rowL_get hi), List.flatMap_append]
  simp
theorem rows_all : (rowL.take 13).flatMap zrow = pairL := by
  rw [List.take_of_length_le (by rw [row_len]; omega)]
  rfl
theorem find_take {α : Type} (p : α → Bool) (A : List α) (k : Nat) (x : α) (hx : A[k]? = some x) (h : (A.take k).find? p = none) : (p x = true → A.find? p = some x) ∧ (p x = false → (A.take (k + 1)).find? p = none) := by
  have e : A.take (k + 1) = A.take k ++ [x] := take_next hx
  constructor
  · intro hp
    have h2 : A = A.take k ++ (x :: A.drop (k + 1)) := by
      obtain ⟨h3, h4⟩ := List.getElem?_eq_some_iff.1 hx
      conv => lhs; rw [← List.take_append_drop k A, List.drop_eq_getElem_cons h3, h4]
    rw [h2, List.find?_append, h]
    simp [hp]
  · intro hp
    rw [e, List.find?_append, h]
    simp [hp]
theorem zrow_get {r : Nat × List Nat × List Nat} {k x y : Nat} (h1 : r.2.1[k]? = some x) (h2 : r.2.2[k]? = some y) : (zrow r)[k]? = some (x, y, r.1) := by
  unfold zrow
  rw [List.getElem?_map, (List.getElem?_zip_eq_some (z := (x, y))).2 ⟨h1, h2⟩]
  rfl
theorem zrow_len {r : Nat × List Nat × List Nat} (h : r.2.1.length = r.2.2.length) : (zrow r).length = r.2.1.length := by
  unfold zrow
  rw [List.length_map, List.length_zip, h, Nat.min_self]
/-- The search for a letter among the rows ahead, and its end. -/
theorem pairR_none {c : Nat} (h : pairL.find? (fun x => Nat.beq x.1 c) = none) : pairR c = (0, 0) := by unfold pairR; rw [h]
theorem pairR_some {c : Nat} {x : Nat × Nat × Nat} (h : pairL.find? (fun x => Nat.beq x.1 c) = some x) : pairR c = x.2 := by unfold pairR; rw [h]
theorem compR_none {b m : Nat} (h : pairL.find? (fun x => Nat.beq x.2.1 b && Nat.beq x.2.2 m) = none) : compR b m = 0 := by unfold compR; rw [h]
theorem compR_some {b m : Nat} {x : Nat × Nat × Nat} (h : pairL.find? (fun x => Nat.beq x.2.1 b && Nat.beq x.2.2 m) = some x) : compR b m = x.1 := by unfold compR; rw [h]
theorem find_split {p : Nat × Nat × Nat → Bool} {i : Nat} (hi : i < 13) (h : ((rowL.take i).flatMap zrow).find? p = none) {x : Nat × Nat × Nat} (h2 : (zrow (rowAt i)).find? p = some x) : pairL.find? p = some x := by
  rw [pair_split hi, List.find?_append, h, List.find?_append, h2]
  rfl
theorem beq_false {a b : Nat} (h : a ≠ b) : Nat.beq a b = false := by rw [← Bool.not_eq_true, Nat.beq_eq]; exact h
theorem beq_true (a : Nat) : Nat.beq a a = true := by rw [Nat.beq_eq]

theorem dec_letters {i : Nat} (hi : i < 13) : decR (encL (rowAt i).2.1) = some (rowAt i).2.1 ∧ decR (encL (rowAt i).2.2) = some (rowAt i).2.2 :=
  ⟨dec_enc _ (row_facts hi).1, dec_enc _ (row_facts hi).2.1⟩
theorem enc_short {l : List Nat} (h : l.length ≤ 100) : (encL l).length ≤ 300 := by have := encL_len l; omega

/-- What Decode hands back of an encoded string: a list of its own. -/
theorem decode_own (l : List Nat) (N : Nat) (w : World) (h : ∀ c ∈ l, okC c) (hN : l.length = N) (hl : N ≤ 1000000) :
    Calls Tryz.prog 23 #[.string (str (encL l))] w fun e w' => ∃ A c, e = .returned (.tuple #[.slice A N c, .bool true]) ∧ Arr nv w' w'.heap.size (.slice A N c) l ∧ Below w.heap.size w w' := by
  refine (refDecode_any _ w (by have := encL_len l; omega)).mono ?_
  rintro e w' ⟨h1, h2⟩
  rw [dec_enc l h] at h1
  obtain ⟨v, rfl, hown⟩ := h1
  have hA := Arr.of_own hown
  obtain ⟨A, c, rfl⟩ := hA.form
  rw [hN] at hA ⊢
  exact ⟨A, c, rfl, hA, h2⟩

set_option maxRecDepth 100000 in
set_option maxHeartbeats 3200000 in
theorem refPair_any (c : Nat) (w : World) :
    Calls Tryz.prog 133 #[.int .i64 (c : Int)] w fun e w' => e = .returned (two (pairR c).1 (pairR c).2) ∧ Below w.heap.size w w' := by
  obtain ⟨R, hR⟩ : ∃ R, pairR c = R := ⟨_, rfl⟩
  rw [hR]
  have HR := Lib.hid hR
  clear hR
  go_enter Tryz.func133, Tryz.ntmps133
  go_wp2_with fail
  refine (rows_any _).mono ?_
  rintro e w1 ⟨rfl, rfl⟩
  obtain ⟨w1, hw1⟩ : ∃ w1, w1 = w.alloc (.cells rowCells 156) := ⟨_, rfl⟩
  have hbox : Box w1 w.heap.size 156 rowCells := by rw [hw1]; exact Box.made _ _ _
  have hk1 : Below w.heap.size w w1 := by rw [hw1]; exact below_new (Below.refl _ _) _
  have hlt1 : w.heap.size < w1.heap.size := by rw [hw1]; simp
  rw [← hw1]
  clear hw1
  go_wp2
  go_loopw [5] (fun s wr => ∃ i : Nat, i ≤ 13 ∧ s = .int .i64 (i : Int) ∧ Hid (((rowL.take i).flatMap zrow).find? (fun x => Nat.beq x.1 c) = none) ∧ Below w1.heap.size w1 wr) (fun s _ => 13 - (intOf s).toNat)
  case atStart => exact ⟨0, by omega, rfl, Lib.hid rfl, Below.refl _ _⟩
  case round =>
    obtain ⟨i, hi, rfl, HF, hb⟩ := hrel
    by_cases hlt : i < 13
    · have t1 : decide ((i : Int) < ((13 : Nat) : Int)) = true := by simp; omega
      have iz : (i : Int) < ((13 : Nat) : Int) := by omega
      have iz2 : (i : Int) < 13 := by omega
      obtain ⟨hok1, hok2, hl12, hl100⟩ := row_facts hlt
      obtain ⟨c0, c1, c2⟩ := row_cells hbox hlt
      have c0 := (hb.cell (p := ⟨w.heap.size, i * 3, none⟩) hlt1).trans c0
      have c1 := (hb.cell (p := ⟨w.heap.size, i * 3 + 1, none⟩) hlt1).trans c1
      have c2 := (hb.cell (p := ⟨w.heap.size, i * 3 + 2, none⟩) hlt1).trans c2
      have hbs := hb.size
      obtain ⟨r, hr⟩ : ∃ r, rowAt i = r := ⟨_, rfl⟩
      have HNext := Lib.hid (rows_next hlt)
      have HSplit := Lib.hid (fun (p : Nat × Nat × Nat → Bool) (x : Nat × Nat × Nat) h h2 => find_split (p := p) hlt h (x := x) h2)
      rw [hr] at c0 c1 c2 hok1 hok2 hl12 hl100 HNext HSplit
      clear hr
      obtain ⟨mk, ls, bs⟩ := r
      simp only at c0 c1 c2 hok1 hok2 hl12 hl100
      obtain ⟨N, hN⟩ : ∃ N, ls.length = N := ⟨_, rfl⟩
      have hN2 : bs.length = N := by omega
      have hN100 : N ≤ 100 := by omega
      have HD1 := Lib.hid fun W => decode_own ls N W hok1 hN (by omega)
      have HD2 := Lib.hid fun W => decode_own bs N W hok2 hN2 (by omega)
      have HZ : Hid ((zrow (mk, ls, bs)).length = N) := Lib.hid ((zrow_len (r := (mk, ls, bs)) hl12).trans hN)
      have HL1 := Lib.hid hN
      have HL2 := Lib.hid hN2
      clear hN hN2 hok1 hok2 hl12 hl100
      go_wp2_with fail
      refine (HD1.out _).mono ?_
      rintro e w2 ⟨A1, n1, rfl, ha1, k2⟩
      have c0 := (k2.cell (p := ⟨w.heap.size, i * 3, none⟩) (by show w.heap.size < _; omega)).trans c0
      have c2 := (k2.cell (p := ⟨w.heap.size, i * 3 + 2, none⟩) (by show w.heap.size < _; omega)).trans c2
      have k2s := k2.size
      go_wp2_with fail
      refine (HD2.out _).mono ?_
      rintro e w3 ⟨A2, n2, rfl, ha2, k3⟩
      have c0 := (k3.cell (p := ⟨w.heap.size, i * 3, none⟩) (by show w.heap.size < _; omega)).trans c0
      have ha1 := ha1.up k3
      have k3s := k3.size
      go_wp2
      go_loopw [10] (fun s wr => ∃ k : Nat, k ≤ N ∧ s = .int .i64 (k : Int) ∧ Hid (((zrow (mk, ls, bs)).take k).find? (fun x => Nat.beq x.1 c) = none) ∧ wr = w3) (fun s _ => N - (intOf s).toNat)
      case atStart => exact ⟨0, by omega, rfl, Lib.hid rfl, rfl⟩
      case round =>
        obtain ⟨k, hk, rfl, HG, rfl⟩ := hrel
        by_cases hkl : k < N
        · have t2 : decide ((k : Int) < (N : Int)) = true := by simp; omega
          have kz : (k : Int) < (N : Int) := by omega
          obtain ⟨b1, o1, rfl, hB1, hc1⟩ := ha1.some_ (by omega)
          obtain ⟨b2, o2, rfl, hB2, hc2⟩ := ha2.some_ (by omega)
          obtain ⟨x, hx⟩ : ∃ a, ls[k]? = some a := ⟨_, List.getElem?_eq_getElem (by have := HL1.out; omega)⟩
          obtain ⟨y, hy⟩ : ∃ a, bs[k]? = some a := ⟨_, List.getElem?_eq_getElem (by have := HL2.out; omega)⟩
          have d1 := hc1 k x hx
          have d2 := hc2 k y hy
          simp only [nv] at d1 d2
          obtain ⟨f1, f2⟩ := find_take (fun x => Nat.beq x.1 c) (zrow (mk, ls, bs)) k (x, y, mk) (zrow_get hx hy) HG.out
          by_cases hxc : x = c
          · have t3 : ((x : Int) == (c : Int)) = true := by rw [hxc]; simp
            have HE : Hid (R = (y, mk)) := Lib.hid (by rw [← HR.out, pairR_some (HSplit.out _ _ HF.out (f1 (by rw [hxc]; exact beq_true c)))])
            clear hc1 hc2 hx hy f1 f2 hxc
            go_wp2
            go_quiet (fail)
            go_wp2
            go_ret2
            rw [HE.out]
            exact ⟨ret_two rfl rfl, below_drewN (below_next hk1 (below_next hb (below_next k2 k3))) _⟩
          · have t3 : ((x : Int) == (c : Int)) = false := eqb_false (by omega)
            have HG2 := Lib.hid (f2 (beq_false hxc))
            clear hc1 hc2 hx hy f1 f2 hxc
            go_wp2
            go_roundw
            case rel => exact ⟨k + 1, by omega, by go_num, HG2, trivial⟩
            case measure => simp [intOf]; omega
        · obtain rfl : k = N := by omega
          have t2 : decide ((k : Int) < (k : Int)) = false := by simp
          have HF2 : Hid (((rowL.take (i + 1)).flatMap zrow).find? (fun x => Nat.beq x.1 c) = none) := Lib.hid (by
            rw [HNext.out, List.find?_append, HF.out]
            have h := HG.out
            rw [List.take_of_length_le (by rw [HZ.out]; omega)] at h
            rw [h]
            rfl)
          go_wp2
          go_roundw
          case rel => exact ⟨i + 1, by omega, by go_num, HF2, below_next hb (below_next k2 k3)⟩
          case measure => simp [intOf]; omega
    · obtain rfl : i = 13 := by omega
      have HE : Hid (R = (0, 0)) := Lib.hid (by rw [← HR.out, pairR_none (by have h := HF.out; rw [rows_all] at h; exact h)])
      go_wp2
      go_ret2
      rw [HE.out]
      exact ⟨ret_two rfl rfl, below_next hk1 hb⟩

end Go.Proofs.YtmgofhbdaopapaaGreatDoor

namespace Go.Proofs.YtmgofhbdaopapaaGreatDoor
open Go.RowKit

theorem zrow_other {r : Nat × List Nat × List Nat} {m : Nat} (c : Nat) (h : ¬ r.1 = m) : (zrow r).find? (fun x => Nat.beq x.2.1 c && Nat.beq x.2.2 m) = none := by
  rw [List.find?_eq_none]
  intro x hx
  unfold zrow at hx
  obtain ⟨p, _, rfl⟩ := List.mem_map.1 hx
  simp only
  rw [beq_false h, Bool.and_false]
  decide

end Go.Proofs.YtmgofhbdaopapaaGreatDoor
