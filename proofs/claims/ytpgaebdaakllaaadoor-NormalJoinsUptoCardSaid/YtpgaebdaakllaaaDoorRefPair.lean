/-
  The reference's pair and composed.
-/
import Derived.Test.YtpgaebdaakllaaaDoorRefRows
namespace Go.Proofs.YtpgaebdaakllaaaDoor
open Go.RowKit

def zrow (r : Nat × List Nat × List Nat) : List (Nat × Nat × Nat) := (r.2.1.zip r.2.2).map fun x => (x.1, x.2, r.1)
theorem pair_split {i : Nat} (hi : i < 13) : pairL = (rowL.take i).flatMap zrow ++ (zrow (rowAt i) ++ (rowL.drop (i + 1)).flatMap zrow) := by
  have h : rowL = rowL.take i ++ (rowAt i :: rowL.drop (i + 1)) := by
    have h1 := List.getElem?_eq_some_iff.1 (rowL_get hi)
    obtain ⟨h2, h3⟩ := h1
    conv => lhs; rw [← List.take_append_drop i rowL, List.drop_eq_getElem_cons h2, h3]
  have e : pairL = rowL.flatMap zrow := rfl
  rw [e]
  conv => lhs; rw [h]
  rw [List.flatMap_append, List.flatMap_cons]
theorem rows_next {i : Nat} (hi : i < 13) : (rowL.take (i + 1)).flatMap zrow = (rowL.take i).flatMap zrow ++ zrow (rowAt i) := by
  rw [take_next (rowL_get hi), List.flatMap_append]
  simp
theorem rows_all : (rowL.take 13).flatMap zrow = pairL := by
  rw [List.take_of_length_le (by rw [row_len]; omega)]
  rfl
theorem find_take {α : Type} (p : α → Bool) (A : List α) (k : Nat) (x : α) (hx : A[k]? = some x) (h : (A.take k).find? p = none) : (p x = true → A.find? p = some x) ∧ (p x = false → (A.take (k + 1)).find? p = none) := by
  have e : A.take (k + 1) = A.take k ++ [x] := take_next hx
  constructor
  · intro hp
    have h2 : A = A.take k ++ (x :: A.drop (k + 1)) := by
      obtain ⟨h3, h4⟩ := List.getElem?_eq_some_iff.1 hx
      conv => lhs; rw [← List.take_append_drop k A, List.drop_eq_getElem_cons h3, h4]
    rw [h2, List.find?_append, h]
    simp [hp]
  · intro hp
    rw [e, List.find?_append, h]
    simp [hp]
theorem zrow_get {r : Nat × List Nat × List Nat} {k x y : Nat} (h1 : r.2.1[k]? = some x) (h2 : r.2.2[k]? = some y) : (zrow r)[k]? = some (x, y, r.1) := by
  unfold zrow
  rw [List.getElem?_map, (List.getElem?_zip_eq_some (z := (x, y))).2 ⟨h1, h2⟩]
  rfl
theorem zrow_len {r : Nat × List Nat × List Nat} (h : r.2.1.length = r.2.2.length) : (zrow r).length = r.2.1.length := by
  unfold zrow
  rw [List.length_map, List.length_zip, h, Nat.min_self]
/-- The search for a letter among the rows ahead, and its end. -/
theorem pairR_none {c : Nat} (h : pairL.find? (fun x => Nat.beq x.1 c) = none) : pairR c = (0, 0) := by unfold pairR; rw [h]
theorem pairR_some {c : Nat} {x : Nat × Nat × Nat} (h : pairL.find? (fun x => Nat.beq x.1 c) = some x) : pairR c = x.2 := by unfold pairR; rw [h]
theorem compR_none {b m : Nat} (h : pairL.find? (fun x => Nat.beq x.2.1 b && Nat.beq x.2.2 m) = none) : compR b m = 0 := by unfold compR; rw [h]
theorem compR_some {b m : Nat} {x : Nat × Nat × Nat} (h : pairL.find? (fun x => Nat.beq x.2.1 b && Nat.beq x.2.2 m) = some x) : compR b m = x.1 := by unfold compR; rw [h]
theorem find_split {p : Nat × Nat × Nat → Bool} {i : Nat} (hi : i < 13) (h : ((rowL.take i).flatMap zrow).find? p = none) {x : Nat × Nat × Nat} (h2 : (zrow (rowAt i)).find? p = some x) : pairL.find? p = some x := by
  rw [pair_split hi, List.find?_append, h, List.find?_append, h2]
  rfl
theorem beq_false {a b : Nat} (h : a ≠ b) : Nat.beq a b = false := by rw [← Bool.not_eq_true, Nat.beq_eq]; exact h
theorem beq_true (a : Nat) : Nat.beq a a = true := by rw [Nat.beq_eq]

theorem dec_letters {i : Nat} (hi : i < 13) : decR (encL (rowAt i).2.1) = some (rowAt i).2.1 ∧ decR (encL (rowAt i).2.2) = some (rowAt i).2.2 :=
  ⟨dec_enc _ (row_facts hi).1, dec_enc _ (row_facts hi).2.1⟩
theorem enc_short {l : List Nat} (h : l.length ≤ 100) : (encL l).length ≤ 300 := by have := encL_len l; omega

/-- What Decode hands back of an encoded string: a list of its own. -/
theorem decode_own (l : List Nat) (N : Nat) (w : World) (h : ∀ c ∈ l, okC c) (hN : l.length = N) (hl : N ≤ 1000000) :
    Calls Tryd.prog 23 #[.string (str (encL l))] w fun e w' => ∃ A c, e = .returned (.tuple #[.slice A N c, .bool true]) ∧ Arr nv w' w'.heap.size (.slice A N c) l ∧ Below w.heap.size w w' := by
  refine (refDecode_any _ w (by have := encL_len l; omega)).mono ?_
  rintro e w' ⟨h1, h2⟩
  rw [dec_enc l h] at h1
  obtain ⟨v, rfl, hown⟩ := h1
  have hA := Arr.of_own hown
  obtain ⟨A, c, rfl⟩ := hA.form
  rw [hN] at hA ⊢
  exact ⟨A, c, rfl, hA, h2⟩

set_option maxRecDepth 100000 in
set_option maxHeartbeats 3200000 in
theorem refPair_any (c : Nat) (w : World) :
    Calls Tryd.prog 61 #[.int .i64 (c : Int)] w fun e w' => e = .returned (two (pairR c).1 (pairR c).2) ∧ Below w.heap.size w w' := by
  obtain ⟨R, hR⟩ : ∃ R, pairR c = R := ⟨_, rfl⟩
  rw [hR]
  have HR := Lib.hid hR
  clear hR
  go_enter Tryd.func61, Tryd.ntmps61
  go_wp2_with fail
  refine (rows_any _).mono ?_
  rintro e w1 ⟨rfl, rfl⟩
  obtain ⟨w1, hw1⟩ : ∃ w1, w1 = w.alloc (.cells rowCells 53) := ⟨_, rfl⟩
  have hbox : Box w1 w.heap.size 53 rowCells := by rw [hw1]; exact Box.made _ _ _
  have hk1 : Below w.heap.size w w1 := by rw [hw1]; exact below_new (Below.refl _ _) _
  have hlt1 : w.heap.size < w1.heap.size := by rw [hw1]; simp
  rw [← hw1]
  clear hw1
  go_wp2
  go_loopw [5] (fun s wr => ∃ i : Nat, i ≤ 13 ∧ s = .int .i64 (i : Int) ∧ Hid (((rowL.take i).flatMap zrow).find? (fun x => Nat.beq x.1 c) = none) ∧ Below w1.heap.size w1 wr) (fun s _ => 13 - (intOf s).toNat)
  case atStart => exact ⟨0, by omega, rfl, Lib.hid rfl, Below.refl _ _⟩
  case round =>
    obtain ⟨i, hi, rfl, HF, hb⟩ := hrel
    by_cases hlt : i < 13
    · have t1 : decide ((i : Int) < ((13 : Nat) : Int)) = true := by simp; omega
      have iz : (i : Int) < ((13 : Nat) : Int) := by omega
      have iz2 : (i : Int) < 13 := by omega
      obtain ⟨hok1, hok2, hl12, hl100⟩ := row_facts hlt
      obtain ⟨c0, c1, c2⟩ := row_cells hbox hlt
      have c0 := (hb.cell (p := ⟨w.heap.size, i * 3, none⟩) hlt1).trans c0
      have c1 := (hb.cell (p := ⟨w.heap.size, i * 3 + 1, none⟩) hlt1).trans c1
      have c2 := (hb.cell (p := ⟨w.heap.size, i * 3 + 2, none⟩) hlt1).trans c2
      have hbs := hb.size
      obtain ⟨r, hr⟩ : ∃ r, rowAt i = r := ⟨_, rfl⟩
      have HNext := Lib.hid (rows_next hlt)
      have HSplit := Lib.hid (fun (p : Nat × Nat × Nat → Bool) (x : Nat × Nat × Nat) h h2 => find_split (p := p) hlt h (x := x) h2)
      rw [hr] at c0 c1 c2 hok1 hok2 hl12 hl100 HNext HSplit
      clear hr
      obtain ⟨mk, ls, bs⟩ := r
      simp only at c0 c1 c2 hok1 hok2 hl12 hl100
      obtain ⟨N, hN⟩ : ∃ N, ls.length = N := ⟨_, rfl⟩
      have hN2 : bs.length = N := by omega
      have hN100 : N ≤ 100 := by omega
      have HD1 := Lib.hid fun W => decode_own ls N W hok1 hN (by omega)
      have HD2 := Lib.hid fun W => decode_own bs N W hok2 hN2 (by omega)
      have HZ : Hid ((zrow (mk, ls, bs)).length = N) := Lib.hid ((zrow_len (r := (mk, ls, bs)) hl12).trans hN)
      have HL1 := Lib.hid hN
      have HL2 := Lib.hid hN2
      clear hN hN2 hok1 hok2 hl12 hl100
      go_wp2_with fail
      refine (HD1.out _).mono ?_
      rintro e w2 ⟨A1, n1, rfl, ha1, k2⟩
      have c0 := (k2.cell (p := ⟨w.heap.size, i * 3, none⟩) (by show w.heap.size < _; omega)).trans c0
      have c2 := (k2.cell (p := ⟨w.heap.size, i * 3 + 2, none⟩) (by show w.heap.size < _; omega)).trans c2
      have k2s := k2.size
      go_wp2_with fail
      refine (HD2.out _).mono ?_
      rintro e w3 ⟨A2, n2, rfl, ha2, k3⟩
      have c0 := (k3.cell (p := ⟨w.heap.size, i * 3, none⟩) (by show w.heap.size < _; omega)).trans c0
      have ha1 := ha1.up k3
      have k3s := k3.size
      go_wp2
      go_loopw [10] (fun s wr => ∃ k : Nat, k ≤ N ∧ s = .int .i64 (k : Int) ∧ Hid (((zrow (mk, ls, bs)).take k).find? (fun x => Nat.beq x.1 c) = none) ∧ wr = w3) (fun s _ => N - (intOf s).toNat)
      case atStart => exact ⟨0, by omega, rfl, Lib.hid rfl, rfl⟩
      case round =>
        obtain ⟨k, hk, rfl, HG, rfl⟩ := hrel
        by_cases hkl : k < N
        · have t2 : decide ((k : Int) < (N : Int)) = true := by simp; omega
          have kz : (k : Int) < (N : Int) := by omega
          obtain ⟨b1, o1, rfl, hB1, hc1⟩ := ha1.some_ (by omega)
          obtain ⟨b2, o2, rfl, hB2, hc2⟩ := ha2.some_ (by omega)
          obtain ⟨x, hx⟩ : ∃ a, ls[k]? = some a := ⟨_, List.getElem?_eq_getElem (by have := HL1.out; omega)⟩
          obtain ⟨y, hy⟩ : ∃ a, bs[k]? = some a := ⟨_, List.getElem?_eq_getElem (by have := HL2.out; omega)⟩
          have d1 := hc1 k x hx
          have d2 := hc2 k y hy
          simp only [nv] at d1 d2
          obtain ⟨f1, f2⟩ := find_take (fun x => Nat.beq x.1 c) (zrow (mk, ls, bs)) k (x, y, mk) (zrow_get hx hy) HG.out
          by_cases hxc : x = c
          · have t3 : ((x : Int) == (c : Int)) = true := by rw [hxc]; simp
            have HE : Hid (R = (y, mk)) := Lib.hid (by rw [← HR.out, pairR_some (HSplit.out _ _ HF.out (f1 (by rw [hxc]; exact beq_true c)))])
            clear hc1 hc2 hx hy f1 f2 hxc
            go_wp2
            go_quiet (fail)
            go_wp2
            go_ret2
            rw [HE.out]
            exact ⟨ret_two rfl rfl, below_drewN (below_next hk1 (below_next hb (below_next k2 k3))) _⟩
          · have t3 : ((x : Int) == (c : Int)) = false := eqb_false (by omega)
            have HG2 := Lib.hid (f2 (beq_false hxc))
            clear hc1 hc2 hx hy f1 f2 hxc
            go_wp2
            go_roundw
            case rel => exact ⟨k + 1, by omega, by go_num, HG2, trivial⟩
            case measure => simp [intOf]; omega
        · obtain rfl : k = N := by omega
          have t2 : decide ((k : Int) < (k : Int)) = false := by simp
          have HF2 : Hid (((rowL.take (i + 1)).flatMap zrow).find? (fun x => Nat.beq x.1 c) = none) := Lib.hid (by
            rw [HNext.out, List.find?_append, HF.out]
            have h := HG.out
            rw [List.take_of_length_le (by rw [HZ.out]; omega)] at h
            rw [h]
            rfl)
          go_wp2
          go_roundw
          case rel => exact ⟨i + 1, by omega, by go_num, HF2, below_next hb (below_next k2 k3)⟩
          case measure => simp [intOf]; omega
    · obtain rfl : i = 13 := by omega
      have HE : Hid (R = (0, 0)) := Lib.hid (by rw [← HR.out, pairR_none (by have h := HF.out; rw [rows_all] at h; exact h)])
      go_wp2
      go_ret2
      rw [HE.out]
      exact ⟨ret_two rfl rfl, below_next hk1 hb⟩

end Go.Proofs.YtpgaebdaakllaaaDoor
