/-
  The reference's pair and composed.
  The reference's composed.
  The reference's class and whole.
  append onto a row of the call's own: where the new row lies. (Other rows of the same kind stay apart from it.)
  The reference's decomposed.
-/
import Derived.Test.YtbnchnbblchmnaaGreatDoorPkAG
import Derived.Test.YtbnchnbblchmnaaGreatDoorPkAB
import Derived.BigRegion
import Derived.BigQuiet
namespace Go.Proofs.YtbnchnbblchmnaaGreatDoor
open Go.RowKit

def zrow (r : Nat × List Nat × List Nat) : List (Nat × Nat × Nat) := (r.2.1.zip r.2.2).map fun x => (x.1, x.2, r.1)
theorem pair_split {i : Nat} (hi : i < 13) : pairL = (rowL.take i).flatMap zrow ++ (zrow (rowAt i) ++ (rowL.drop (i + 1)).flatMap zrow) := by
  have h : rowL = rowL.take i ++ (rowAt i :: rowL.drop (i + 1)) := by
    have h1 := List.getElem?_eq_some_iff.1 (rowL_get hi)
    obtain ⟨h2, h3⟩ := h1
    conv => lhs; rw [← List.take_append_drop i rowL, List.drop_eq_getElem_cons h2, h3]
  have e : pairL = rowL.flatMap zrow := rfl
  rw [e]
  conv => lhs; rw [h]
  rw [List.flatMap_append, List.flatMap_cons]
theorem rows_next {i : Nat} (hi : i < 13) : (rowL.take (i + 1)).flatMap zrow = (rowL.take i).flatMap zrow ++ zrow (rowAt i) := by
  rw [take_next (rowL_get hi), List.flatMap_append]
  simp
theorem rows_all : (rowL.take 13).flatMap zrow = pairL := by
  rw [List.take_of_length_le (by rw [row_len]; omega)]
  rfl
theorem find_take {α : Type} (p : α → Bool) (A : List α) (k : Nat) (x : α) (hx : A[k]? = some x) (h : (A.take k).find? p = none) : (p x = true → A.find? p = some x) ∧ (p x = false → (A.take (k + 1)).find? p = none) := by
  have e : A.take (k + 1) = A.take k ++ [x] := take_next hx
  constructor
  · intro hp
    have h2 : A = A.take k ++ (x :: A.drop (k + 1)) := by
      obtain ⟨h3, h4⟩ := List.getElem?_eq_some_iff.1 hx
      conv => lhs; rw [← List.take_append_drop k A, List.drop_eq_getElem_cons h3, h4]
    rw [h2, List.find?_append, h]
    simp [hp]
  · intro hp
    rw [e, List.find?_append, h]
    simp [hp]
theorem zrow_get {r : Nat × List Nat × List Nat} {k x y : Nat} (h1 : r.2.1[k]? = some x) (h2 : r.2.2[k]? = some y) : (zrow r)[k]? = some (x, y, r.1) := by
  unfold zrow
  rw [List.getElem?_map, (List.getElem?_zip_eq_some (z := (x, y))).2 ⟨h1, h2⟩]
  rfl
theorem zrow_len {r : Nat × List Nat × List Nat} (h : r.2.1.length = r.2.2.length) : (zrow r).length = r.2.1.length := by
  unfold zrow
  rw [List.length_map, List.length_zip, h, Nat.min_self]
/-- The search for a letter among the rows ahead, and its end. -/
theorem pairR_none {c : Nat} (h : pairL.find? (fun x => Nat.beq x.1 c) = none) : pairR c = (0, 0) := by unfold pairR; rw [h]
theorem pairR_some {c : Nat} {x : Nat × Nat × Nat} (h : pairL.find? (fun x => Nat.beq x.1 c) = some x) : pairR c = x.2 := by unfold pairR; rw [h]
theorem compR_none {b m : Nat} (h : pairL.find? (fun x => Nat.beq x.2.1 b && Nat.beq x.2.2 m) = none) : compR b m = 0 := by unfold compR; rw [h]
theorem compR_some {b m : Nat} {x : Nat × Nat × Nat} (h : pairL.find? (fun x => Nat.beq x.2.1 b && Nat.beq x.2.2 m) = some x) : compR b m = x.1 := by unfold compR; rw [h]
theorem find_split {p : Nat × Nat × Nat → Bool} {i : Nat} (hi : i < 13) (h : ((rowL.take i).flatMap zrow).find? p = none) {x : Nat × Nat × Nat} (h2 : (zrow (rowAt i)).find? p = some x) : pairL.find? p = some x := by
  rw [pair_split hi, List.find?_append, h, List.find?_append, h2]
  rfl
theorem beq_false {a b : Nat} (h : a ≠ b) : Nat.beq a b = false := by rw [← Bool.not_eq_true, Nat.beq_eq]; exact h
theorem beq_true (a : Nat) : Nat.beq a a = true := by rw [Nat.beq_eq]

theorem dec_letters {i : Nat} (hi : i < 13) : decR (encL (rowAt i).2.1) = some (rowAt i).2.1 ∧ decR (encL (rowAt i).2.2) = some (rowAt i).2.2 :=
  ⟨dec_enc _ (row_facts hi).1, dec_enc _ (row_facts hi).2.1⟩
theorem enc_short {l : List Nat} (h : l.length ≤ 100) : (encL l).length ≤ 300 := by have := encL_len l; omega

/-- What Decode hands back of an encoded string: a list of its own. -/
theorem decode_own (l : List Nat) (N : Nat) (w : World) (h : ∀ c ∈ l, okC c) (hN : l.length = N) (hl : N ≤ 1000000) :
    Calls Tryz.prog 15 #[.string (str (encL l))] w fun e w' => ∃ A c, e = .returned (.tuple #[.slice A N c, .bool true]) ∧ Arr nv w' w'.heap.size (.slice A N c) l ∧ Below w.heap.size w w' := by
  refine (refDecode_any _ w (by have := encL_len l; omega)).mono ?_
  rintro e w' ⟨h1, h2⟩
  rw [dec_enc l h] at h1
  obtain ⟨v, rfl, hown⟩ := h1
  have hA := Arr.of_own hown
  obtain ⟨A, c, rfl⟩ := hA.form
  rw [hN] at hA ⊢
  exact ⟨A, c, rfl, hA, h2⟩

set_option maxRecDepth 100000 in
set_option maxHeartbeats 3200000 in
theorem refPair_any (c : Nat) (w : World) :
    Calls Tryz.prog 163 #[.int .i64 (c : Int)] w fun e w' => e = .returned (two (pairR c).1 (pairR c).2) ∧ Below w.heap.size w w' := by
  obtain ⟨R, hR⟩ : ∃ R, pairR c = R := ⟨_, rfl⟩
  rw [hR]
  have HR := Lib.hid hR
  clear hR
  go_enter Tryz.func163, Tryz.ntmps163
  go_wp2_with fail
  refine (rows_any _).mono ?_
  rintro e w1 ⟨rfl, rfl⟩
  obtain ⟨w1, hw1⟩ : ∃ w1, w1 = w.alloc (.cells rowCells 204) := ⟨_, rfl⟩
  have hbox : Box w1 w.heap.size 204 rowCells := by rw [hw1]; exact Box.made _ _ _
  have hk1 : Below w.heap.size w w1 := by rw [hw1]; exact below_new (Below.refl _ _) _
  have hlt1 : w.heap.size < w1.heap.size := by rw [hw1]; simp
  rw [← hw1]
  clear hw1
  go_wp2
  go_loopw [5] (fun s wr => ∃ i : Nat, i ≤ 13 ∧ s = .int .i64 (i : Int) ∧ Hid (((rowL.take i).flatMap zrow).find? (fun x => Nat.beq x.1 c) = none) ∧ Below w1.heap.size w1 wr) (fun s _ => 13 - (intOf s).toNat)
  case atStart => exact ⟨0, by omega, rfl, Lib.hid rfl, Below.refl _ _⟩
  case round =>
    obtain ⟨i, hi, rfl, HF, hb⟩ := hrel
    by_cases hlt : i < 13
    · have t1 : decide ((i : Int) < ((13 : Nat) : Int)) = true := by simp; omega
      have iz : (i : Int) < ((13 : Nat) : Int) := by omega
      have iz2 : (i : Int) < 13 := by omega
      obtain ⟨hok1, hok2, hl12, hl100⟩ := row_facts hlt
      obtain ⟨c0, c1, c2⟩ := row_cells hbox hlt
      have c0 := (hb.cell (p := ⟨w.heap.size, i * 3, none⟩) hlt1).trans c0
      have c1 := (hb.cell (p := ⟨w.heap.size, i * 3 + 1, none⟩) hlt1).trans c1
      have c2 := (hb.cell (p := ⟨w.heap.size, i * 3 + 2, none⟩) hlt1).trans c2
      have hbs := hb.size
      obtain ⟨r, hr⟩ : ∃ r, rowAt i = r := ⟨_, rfl⟩
      have HNext := Lib.hid (rows_next hlt)
      have HSplit := Lib.hid (fun (p : Nat × Nat × Nat → Bool) (x : Nat × Nat × Nat) h h2 => find_split (p := p) hlt h (x := x) h2)
      rw [hr] at c0 c1 c2 hok1 hok2 hl12 hl100 HNext HSplit
      clear hr
      obtain ⟨mk, ls, bs⟩ := r
      simp only at c0 c1 c2 hok1 hok2 hl12 hl100
      obtain ⟨N, hN⟩ : ∃ N, ls.length = N := ⟨_, rfl⟩
      have hN2 : bs.length = N := by omega
      have hN100 : N ≤ 100 := by omega
      have HD1 := Lib.hid fun W => decode_own ls N W hok1 hN (by omega)
      have HD2 := Lib.hid fun W => decode_own bs N W hok2 hN2 (by omega)
      have HZ : Hid ((zrow (mk, ls, bs)).length = N) := Lib.hid ((zrow_len (r := (mk, ls, bs)) hl12).trans hN)
      have HL1 := Lib.hid hN
      have HL2 := Lib.hid hN2
      clear hN hN2 hok1 hok2 hl12 hl100
      go_wp2_with fail
      refine (HD1.out _).mono ?_
      rintro e w2 ⟨A1, n1, rfl, ha1, k2⟩
      have c0 := (k2.cell (p := ⟨w.heap.size, i * 3, none⟩) (by show w.heap.size < _; omega)).trans c0
      have c2 := (k2.cell (p := ⟨w.heap.size, i * 3 + 2, none⟩) (by show w.heap.size < _; omega)).trans c2
      have k2s := k2.size
      go_wp2_with fail
      refine (HD2.out _).mono ?_
      rintro e w3 ⟨A2, n2, rfl, ha2, k3⟩
      have c0 := (k3.cell (p := ⟨w.heap.size, i * 3, none⟩) (by show w.heap.size < _; omega)).trans c0
      have ha1 := ha1.up k3
      have k3s := k3.size
      go_wp2
      go_loopw [10] (fun s wr => ∃ k : Nat, k ≤ N ∧ s = .int .i64 (k : Int) ∧ Hid (((zrow (mk, ls, bs)).take k).find? (fun x => Nat.beq x.1 c) = none) ∧ wr = w3) (fun s _ => N - (intOf s).toNat)
      case atStart => exact ⟨0, by omega, rfl, Lib.hid rfl, rfl⟩
      case round =>
        obtain ⟨k, hk, rfl, HG, rfl⟩ := hrel
        by_cases hkl : k < N
        · have t2 : decide ((k : Int) < (N : Int)) = true := by simp; omega
          have kz : (k : Int) < (N : Int) := by omega
          obtain ⟨b1, o1, rfl, hB1, hc1⟩ := ha1.some_ (by omega)
          obtain ⟨b2, o2, rfl, hB2, hc2⟩ := ha2.some_ (by omega)
          obtain ⟨x, hx⟩ : ∃ a, ls[k]? = some a := ⟨_, List.getElem?_eq_getElem (by have := HL1.out; omega)⟩
          obtain ⟨y, hy⟩ : ∃ a, bs[k]? = some a := ⟨_, List.getElem?_eq_getElem (by have := HL2.out; omega)⟩
          have d1 := hc1 k x hx
          have d2 := hc2 k y hy
          simp only [nv] at d1 d2
          obtain ⟨f1, f2⟩ := find_take (fun x => Nat.beq x.1 c) (zrow (mk, ls, bs)) k (x, y, mk) (zrow_get hx hy) HG.out
          by_cases hxc : x = c
          · have t3 : ((x : Int) == (c : Int)) = true := by rw [hxc]; simp
            have HE : Hid (R = (y, mk)) := Lib.hid (by rw [← HR.out, pairR_some (HSplit.out _ _ HF.out (f1 (by rw [hxc]; exact beq_true c)))])
            clear hc1 hc2 hx hy f1 f2 hxc
            go_wp2
            go_quiet (fail)
            go_wp2
            go_ret2
            rw [HE.out]
            exact ⟨ret_two rfl rfl, below_drewN (below_next hk1 (below_next hb (below_next k2 k3))) _⟩
          · have t3 : ((x : Int) == (c : Int)) = false := eqb_false (by omega)
            have HG2 := Lib.hid (f2 (beq_false hxc))
            clear hc1 hc2 hx hy f1 f2 hxc
            go_wp2
            go_roundw
            case rel => exact ⟨k + 1, by omega, by go_num, HG2, trivial⟩
            case measure => simp [intOf]; omega
        · obtain rfl : k = N := by omega
          have t2 : decide ((k : Int) < (k : Int)) = false := by simp
          have HF2 : Hid (((rowL.take (i + 1)).flatMap zrow).find? (fun x => Nat.beq x.1 c) = none) := Lib.hid (by
            rw [HNext.out, List.find?_append, HF.out]
            have h := HG.out
            rw [List.take_of_length_le (by rw [HZ.out]; omega)] at h
            rw [h]
            rfl)
          go_wp2
          go_roundw
          case rel => exact ⟨i + 1, by omega, by go_num, HF2, below_next hb (below_next k2 k3)⟩
          case measure => simp [intOf]; omega
    · obtain rfl : i = 13 := by omega
      have HE : Hid (R = (0, 0)) := Lib.hid (by rw [← HR.out, pairR_none (by have h := HF.out; rw [rows_all] at h; exact h)])
      go_wp2
      go_ret2
      rw [HE.out]
      exact ⟨ret_two rfl rfl, below_next hk1 hb⟩

end Go.Proofs.YtbnchnbblchmnaaGreatDoor

namespace Go.Proofs.YtbnchnbblchmnaaGreatDoor
open Go.RowKit

theorem zrow_other {r : Nat × List Nat × List Nat} {m : Nat} (c : Nat) (h : ¬ r.1 = m) : (zrow r).find? (fun x => Nat.beq x.2.1 c && Nat.beq x.2.2 m) = none := by
  rw [List.find?_eq_none]
  intro x hx
  unfold zrow at hx
  obtain ⟨p, _, rfl⟩ := List.mem_map.1 hx
  simp only
  rw [beq_false h, Bool.and_false]
  decide

end Go.Proofs.YtbnchnbblchmnaaGreatDoor

namespace Go.Proofs.YtbnchnbblchmnaaGreatDoor
open Go.RowKit

set_option maxRecDepth 20000 in
set_option maxHeartbeats 1600000 in
theorem refClassM_any (c : Nat) (w : World) :
    Calls Tryz.prog 149 #[.int .i64 (c : Int)] w fun e w' => e = .returned (.int .i64 (clM c : Int)) ∧ ∃ q, w' = w.drewN q := by
  have hcl := class_any (c : Int) w
  obtain ⟨a, ha⟩ : ∃ a, a = (clsR (c : Int)).1 := ⟨_, rfl⟩
  obtain ⟨k, hk⟩ : ∃ k, k = (clsR (c : Int)).2 := ⟨_, rfl⟩
  rw [← ha, ← hk] at hcl
  have HC := Lib.hid hcl
  obtain ⟨R, hR⟩ : ∃ R, clM c = R := ⟨_, rfl⟩
  rw [hR]
  unfold clM kindR at hR
  rw [← hk] at hR
  clear hcl ha
  by_cases h2 : k = 2
  · have t1 : ((k : Int) != 2) = false := by rw [h2]; rfl
    rw [if_pos h2] at hR
    by_cases h3 : c = 807
    · have t2 : ((c : Int) == 807) = true := eqb_true (by omega)
      have HE : Hid (R = 1) := Lib.hid (by rw [← hR, h3]; rfl)
      clear hR h3 h2 hk
      go_enter Tryz.func149, Tryz.ntmps149
      go_wp2_with fail
      refine HC.out.mono ?_
      rintro e w1 ⟨rfl, q, rfl⟩
      unfold two
      go_wp2
      go_ret
      rw [HE.out]
      exact ⟨rfl, q, rfl⟩
    have t2 : ((c : Int) == 807) = false := eqb_false (by omega)
    by_cases h4 : c = 808
    · have t3 : ((c : Int) == 808) = true := eqb_true (by omega)
      have HE : Hid (R = 1) := Lib.hid (by rw [← hR, h4]; rfl)
      clear hR h3 h4 h2 hk
      go_enter Tryz.func149, Tryz.ntmps149
      go_wp2_with fail
      refine HC.out.mono ?_
      rintro e w1 ⟨rfl, q, rfl⟩
      unfold two
      go_wp2
      go_ret
      rw [HE.out]
      exact ⟨rfl, q, rfl⟩
    have t3 : ((c : Int) == 808) = false := eqb_false (by omega)
    rw [beq_false h3, beq_false h4] at hR
    by_cases h5 : c = 803
    · have t4 : ((c : Int) == 803) = true := eqb_true (by omega)
      have HE : Hid (R = 2) := Lib.hid (by rw [← hR, h5]; rfl)
      clear hR h3 h4 h5 h2 hk
      go_enter Tryz.func149, Tryz.ntmps149
      go_wp2_with fail
      refine HC.out.mono ?_
      rintro e w1 ⟨rfl, q, rfl⟩
      unfold two
      go_wp2
      go_ret
      rw [HE.out]
      exact ⟨rfl, q, rfl⟩
    · have t4 : ((c : Int) == 803) = false := eqb_false (by omega)
      have HE : Hid (R = 3) := Lib.hid (by rw [← hR, beq_false h5]; rfl)
      clear hR h3 h4 h5 h2 hk
      go_enter Tryz.func149, Tryz.ntmps149
      go_wp2_with fail
      refine HC.out.mono ?_
      rintro e w1 ⟨rfl, q, rfl⟩
      unfold two
      go_wp2
      go_ret
      rw [HE.out]
      exact ⟨rfl, q, rfl⟩
  · have t1 : ((k : Int) != 2) = true := by simp; omega
    have HE : Hid (R = 0) := Lib.hid (by rw [← hR, if_neg h2])
    clear hR h2 hk
    go_enter Tryz.func149, Tryz.ntmps149
    go_wp2_with fail
    refine HC.out.mono ?_
    rintro e w1 ⟨rfl, q, rfl⟩
    unfold two
    go_wp2
    go_ret
    rw [HE.out]
    exact ⟨rfl, q, rfl⟩

/-- A new slice of the call's own that holds these characters. -/
def NewNats (w : World) (l : List Nat) (e : Ending) (w' : World) : Prop :=
  ∃ (b c : Nat) (cs : Array Value), e = .returned (.slice (some ⟨b, 0, none⟩) l.length c) ∧ w.heap.size ≤ b ∧ Box w' b 3 cs ∧ (∀ (i u : Nat), l[i]? = some u → cs[i]? = some (nv u)) ∧ Below w.heap.size w w'
theorem new_one (w : World) (x : Int) (y : Nat) (h : x = (y : Int)) : NewNats w [y] (.returned (.slice (some ⟨w.heap.size, 0, none⟩) 1 1)) (w.alloc (.cells #[.int .i64 x] 3)) := by
  subst h
  refine ⟨_, 1, _, rfl, Nat.le_refl _, Box.made w 3 #[.int .i64 (y : Int)], fun i u hu => ?_, below_new (Below.refl _ _) _⟩
  cases i with
  | zero => simp at hu; subst hu; rfl
  | succ i => simp at hu
theorem new_two (w : World) (x x' : Int) (y z : Nat) (h : x = (y : Int)) (h' : x' = (z : Int)) : NewNats w [y, z] (.returned (.slice (some ⟨w.heap.size, 0, none⟩) 2 2)) (w.alloc (.cells #[.int .i64 x, .int .i64 x'] 3)) := by
  subst h h'
  refine ⟨_, 2, _, rfl, Nat.le_refl _, Box.made w 3 #[.int .i64 (y : Int), .int .i64 (z : Int)], fun i u hu => ?_, below_new (Below.refl _ _) _⟩
  match i with
  | 0 => simp at hu; subst hu; rfl
  | 1 => simp at hu; subst hu; rfl
  | i + 2 => simp at hu
theorem NewNats.from {w w1 : World} {l : List Nat} {e : Ending} {w' : World} (h : NewNats w1 l e w') (hb : Below w.heap.size w w1) : NewNats w l e w' := by
  obtain ⟨b, c, cs, h1, h2, h3, h4, h5⟩ := h
  exact ⟨b, c, cs, h1, Nat.le_trans hb.size h2, h3, h4, below_next hb h5⟩

set_option maxRecDepth 20000 in
set_option maxHeartbeats 1600000 in
theorem refWhole_any (c : Nat) (w : World) (hc : c < 65536) :
    Calls Tryz.prog 148 #[.int .i64 (c : Int)] w (NewNats w (wholeR c)) := by
  obtain ⟨R, hR⟩ : ∃ R, wholeR c = R := ⟨_, rfl⟩
  rw [hR]
  unfold wholeR at hR
  by_cases h1 : c = 160
  · have t1 : ((c : Int) == 160) = true := eqb_true (by omega)
    have HE : Hid (R = [32]) := Lib.hid (by rw [← hR, h1]; rfl)
    clear hR h1
    go_enter Tryz.func148, Tryz.ntmps148
    go_wp2
    go_ret
    rw [HE.out]
    exact new_one w _ _ rfl
  have t1 : ((c : Int) == 160) = false := eqb_false (by omega)
  rw [beq_false h1, if_neg (by decide)] at hR
  by_cases h2 : c = 185
  · have t2 : ((c : Int) == 185) = true := eqb_true (by omega)
    have HE : Hid (R = [49]) := Lib.hid (by rw [← hR, h2]; rfl)
    clear hR h1 h2
    go_enter Tryz.func148, Tryz.ntmps148
    go_wp2
    go_ret
    rw [HE.out]
    exact new_one w _ _ rfl
  have t2 : ((c : Int) == 185) = false := eqb_false (by omega)
  rw [beq_false h2, if_neg (by decide)] at hR
  by_cases h3 : c = 178
  · have t3 : ((c : Int) == 178) = true := eqb_true (by omega)
    have HE : Hid (R = [c - 128]) := Lib.hid (by rw [← hR, h3]; rfl)
    have hz : 128 ≤ c := by omega
    clear hR h1 h2 h3
    go_enter Tryz.func148, Tryz.ntmps148
    go_wp2
    go_ret
    rw [HE.out]
    exact new_one w _ _ (by omega)
  have t3 : ((c : Int) == 178) = false := eqb_false (by omega)
  by_cases h4 : c = 179
  · have t4 : ((c : Int) == 179) = true := eqb_true (by omega)
    have HE : Hid (R = [c - 128]) := Lib.hid (by rw [← hR, h4]; rfl)
    have hz : 128 ≤ c := by omega
    clear hR h1 h2 h3 h4
    go_enter Tryz.func148, Tryz.ntmps148
    go_wp2
    go_ret
    rw [HE.out]
    exact new_one w _ _ (by omega)
  have t4 : ((c : Int) == 179) = false := eqb_false (by omega)
  rw [beq_false h3, beq_false h4, if_neg (by decide)] at hR
  by_cases h5 : c = 383
  · have t5 : ((c : Int) == 383) = true := eqb_true (by omega)
    have HE : Hid (R = [115]) := Lib.hid (by rw [← hR, h5]; rfl)
    clear hR h1 h2 h3 h4 h5
    go_enter Tryz.func148, Tryz.ntmps148
    go_wp2
    go_ret
    rw [HE.out]
    exact new_one w _ _ rfl
  have t5 : ((c : Int) == 383) = false := eqb_false (by omega)
  rw [beq_false h5, if_neg (by decide)] at hR
  by_cases h6 : c = 64257
  · have t6 : ((c : Int) == 64257) = true := eqb_true (by omega)
    have HE : Hid (R = [102, 105]) := Lib.hid (by rw [← hR, h6]; rfl)
    clear hR h1 h2 h3 h4 h5 h6
    go_enter Tryz.func148, Tryz.ntmps148
    go_wp2
    go_ret
    rw [HE.out]
    exact new_two w _ _ _ _ rfl rfl
  have t6 : ((c : Int) == 64257) = false := eqb_false (by omega)
  rw [beq_false h6, if_neg (by decide)] at hR
  by_cases h7 : c = 64258
  · have t7 : ((c : Int) == 64258) = true := eqb_true (by omega)
    have HE : Hid (R = [102, 108]) := Lib.hid (by rw [← hR, h7]; rfl)
    clear hR h1 h2 h3 h4 h5 h6 h7
    go_enter Tryz.func148, Tryz.ntmps148
    go_wp2
    go_ret
    rw [HE.out]
    exact new_two w _ _ _ _ rfl rfl
  have t7 : ((c : Int) == 64258) = false := eqb_false (by omega)
  rw [beq_false h7, if_neg (by decide)] at hR
  by_cases h8 : 65281 ≤ c
  · have t8 : decide (65281 ≤ (c : Int)) = true := by simp; omega
    by_cases h9 : c ≤ 65374
    · have t9 : decide ((c : Int) ≤ 65374) = true := by simp; omega
      have HE : Hid (R = [c - 65248]) := Lib.hid (by
        rw [← hR, if_pos]
        unfold inN
        rw [Bool.and_eq_true, Nat.ble_eq, Nat.ble_eq]
        exact ⟨h8, h9⟩)
      clear hR h1 h2 h3 h4 h5 h6 h7
      go_enter Tryz.func148, Tryz.ntmps148
      go_wp2
      go_ret
      rw [HE.out]
      exact new_one w _ _ (by omega)
    · have t9 : decide ((c : Int) ≤ 65374) = false := by simp; omega
      have t10 : decide ((c : Int) < 192) = false := by simp; omega
      have hin : inN c 65281 65374 = false := by
        unfold inN
        rw [← Bool.not_eq_true, Bool.and_eq_true, Nat.ble_eq, Nat.ble_eq]
        omega
      have hlt : Nat.blt c 192 = false := by rw [← Bool.not_eq_true, Nat.blt_eq]; omega
      rw [hin, if_neg (by decide), hlt, if_neg (by decide)] at hR
      have hp := refPair_any c w
      obtain ⟨b, hb⟩ : ∃ b, (pairR c).1 = b := ⟨_, rfl⟩
      obtain ⟨m, hm⟩ : ∃ m, (pairR c).2 = m := ⟨_, rfl⟩
      rw [hb, hm] at hR hp
      have HP := Lib.hid hp
      clear hp hb hm h1 h2 h3 h4 h5 h6 h7 hin hlt
      by_cases hb0 : b = 0
      · have t11 : ((b : Int) != 0) = false := by rw [hb0]; rfl
        have HE : Hid (R = [c]) := Lib.hid (by rw [← hR, hb0]; rfl)
        clear hR hb0
        go_enter Tryz.func148, Tryz.ntmps148
        go_wp2_with fail
        refine HP.out.mono ?_
        rintro e w1 ⟨rfl, k1⟩
        unfold two
        go_wp2
        go_ret
        rw [HE.out]
        exact (new_one w1 _ _ rfl).from k1
      · have t11 : ((b : Int) != 0) = true := by simp; omega
        have HE : Hid (R = [b, m]) := Lib.hid (by rw [← hR, beq_false hb0]; rfl)
        clear hR hb0
        go_enter Tryz.func148, Tryz.ntmps148
        go_wp2_with fail
        refine HP.out.mono ?_
        rintro e w1 ⟨rfl, k1⟩
        unfold two
        go_wp2
        go_ret
        rw [HE.out]
        exact (new_two w1 _ _ _ _ rfl rfl).from k1
  · have t8 : decide (65281 ≤ (c : Int)) = false := by simp; omega
    have hin : inN c 65281 65374 = false := by
      unfold inN
      rw [← Bool.not_eq_true, Bool.and_eq_true, Nat.ble_eq, Nat.ble_eq]
      omega
    rw [hin, if_neg (by decide)] at hR
    by_cases h9 : c < 192
    · have t10 : decide ((c : Int) < 192) = true := by simp; omega
      have HE : Hid (R = [c]) := Lib.hid (by
        rw [← hR, if_pos]
        rw [Nat.blt_eq]
        exact h9)
      clear hR h1 h2 h3 h4 h5 h6 h7 hin
      go_enter Tryz.func148, Tryz.ntmps148
      go_wp2
      go_ret
      rw [HE.out]
      exact new_one w _ _ rfl
    · have t10 : decide ((c : Int) < 192) = false := by simp; omega
      have hlt : Nat.blt c 192 = false := by rw [← Bool.not_eq_true, Nat.blt_eq]; omega
      rw [hlt, if_neg (by decide)] at hR
      have hp := refPair_any c w
      obtain ⟨b, hb⟩ : ∃ b, (pairR c).1 = b := ⟨_, rfl⟩
      obtain ⟨m, hm⟩ : ∃ m, (pairR c).2 = m := ⟨_, rfl⟩
      rw [hb, hm] at hR hp
      have HP := Lib.hid hp
      clear hp hb hm h1 h2 h3 h4 h5 h6 h7 hin hlt
      by_cases hb0 : b = 0
      · have t11 : ((b : Int) != 0) = false := by rw [hb0]; rfl
        have HE : Hid (R = [c]) := Lib.hid (by rw [← hR, hb0]; rfl)
        clear hR hb0
        go_enter Tryz.func148, Tryz.ntmps148
        go_wp2_with fail
        refine HP.out.mono ?_
        rintro e w1 ⟨rfl, k1⟩
        unfold two
        go_wp2
        go_ret
        rw [HE.out]
        exact (new_one w1 _ _ rfl).from k1
      · have t11 : ((b : Int) != 0) = true := by simp; omega
        have HE : Hid (R = [b, m]) := Lib.hid (by rw [← hR, beq_false hb0]; rfl)
        clear hR hb0
        go_enter Tryz.func148, Tryz.ntmps148
        go_wp2_with fail
        refine HP.out.mono ?_
        rintro e w1 ⟨rfl, k1⟩
        unfold two
        go_wp2
        go_ret
        rw [HE.out]
        exact (new_two w1 _ _ _ _ rfl rfl).from k1

end Go.Proofs.YtbnchnbblchmnaaGreatDoor

namespace Go.Proofs.YtbnchnbblchmnaaGreatDoor
open Go.RowKit

section
variable {P : Program} (w : World)
theorem run_append_where (base : Nat) (t ty e : TypeId) (i : TypeInfo) (z : Value) (bytes : Nat) (ht : P.underlying t = some (.slice e)) (hi : P.info? e = some i) (hz : i.zero = some z)
    (hsize : i.size = 1) (hby : i.bytes = bytes) (hzs : z.cells.size = 1)
    (v : Value) (n : Nat) (xs : List Value) (hown : w.ownsRow base e 1 v n xs)
    (a : Addr) (m c : Nat) (news : List Value) (hl : news.length = m) (hm : 0 < m) (hnews : ∀ j u, news[j]? = some u → w.cell? (a.add j) = some u) (h1 : ∀ u ∈ news, u.oneCell' = true)
    (h63 : n + m ≤ maxLen) (hbytes : (n + m) * bytes ≤ 140737488355328) (hbase : base ≤ w.heap.size) :
    ∃ v' w', (Builtin.append_ #[t, t] ty #[v, .slice (some a) m c]).run P w = .ok v' w' ∧ w'.ownsRow base e 1 v' (n + m) (xs ++ news) ∧ w.grownBy w' v.ownBlock ∧
      (∀ g, v'.ownBlock = some g → v.ownBlock = some g ∨ w.heap.size ≤ g) := by
  have hsmall : n + m ≤ 9223372036854775807 := by simp only [maxLen] at h63; omega
  obtain ⟨v', w', hr, h2, h3, _⟩ := run_append_own (P := P) w base t ty e i z 1 bytes ht hi hz hsize hby hzs (by decide) v n xs hown a m c news (by omega) hnews h1 h63 hbytes hbase
  refine ⟨v', w', hr, h2, h3, ?_⟩
  rcases hown.2 with ⟨rfl, rfl⟩ | ⟨g, cap, cur, rfl, hbg, hg, hnc, hcm, hcs, htake⟩
  · have hr2 := run_append_nil (P := P) w t ty e i z ht hi hz a m c news (by rw [hsize]; omega) hnews hm (by omega) (by have hb := hbytes; rw [hby]; simp only [Nat.zero_add] at hb; omega)
    rw [hr] at hr2
    injection hr2 with hv _
    intro k hk
    rw [hv] at hk
    simp only [Value.ownBlock, Option.some.injEq] at hk
    exact .inr (by omega)
  · by_cases hroom : n + m ≤ cap
    · have hr2 := run_append_room (P := P) w t ty e i ht hi g n cap cur hg a m c news (by rw [hsize]; omega) hnews h1 hroom (by rw [hsize]; omega)
      rw [hr] at hr2
      injection hr2 with hv _
      intro k hk
      rw [hv] at hk
      exact .inl hk
    · have holds : ∀ j u, xs[j]? = some u → w.cell? ((⟨g, 0, none⟩ : Addr).add j) = some u := hown.cells (g := g) rfl
      have hxl := hown.1
      have hr2 := run_append_grow (P := P) w t ty e i z ht hi hz ⟨g, 0, none⟩ n cap xs (by rw [hsize]; exact hxl) holds a m c news (by rw [hsize]; omega) hnews (by omega) (by omega) (by rw [hby]; exact growslice_fits (by omega) hbytes)
      rw [hr] at hr2
      injection hr2 with hv _
      intro k hk
      rw [hv] at hk
      simp only [Value.ownBlock, Option.some.injEq] at hk
      exact .inr (by omega)
end

theorem append_one_where {P : Program} {α : Type} {val : α → Value} (t e : TypeId) (z : Value) (bytes : Nat) (ht : P.underlying t = some (.slice e)) (info : (P.info? e).map (fun i => (i.zero, i.size, i.bytes)) = some (some z, 1, bytes))
    (hzs : z.cells.size = 1) (hbytes : bytes ≤ 100) (hval : ∀ x, (val x).oneCell' = true)
    {ops : Array Oper} {rest : List Oper} {o : Oper} {a : Act} {Q : Exit → Act → World → Prop} (w : World) (hgd : o.guard = none) (s x : Operand)
    (ho : o.op = .call { callee := .builtin .append, args := #[s, x], argTypes := #[t, t] })
    (base : Nat) (v : Value) (xs : List α) (hs : a.eval s = v) (hown : w.ownsRow base e 1 v xs.length (xs.map val)) (y : α) (u : Value) (hu : u = val y)
    (hx : a.eval x = .slice (some ⟨w.heap.size, 0, none⟩) 1 1) (hlen : xs.length ≤ 1000000000000 - 1) (hbase : base ≤ w.heap.size)
    (h : ∀ v' w', w'.ownsRow base e 1 v' (xs ++ [y]).length ((xs ++ [y]).map val) → w.grownBy w' v.ownBlock → (∀ g, v'.ownBlock = some g → v.ownBlock = some g ∨ w.heap.size ≤ g) → wpList P ops Q rest (a.put o.dst v') w') : wpList P ops Q (o :: rest) a (w.alloc (.cells #[u] e)) := by
  obtain ⟨i0, hi, hz0, hz1, hz2⟩ := info_parts info
  subst hu
  have hown1 : (w.alloc (.cells #[val y] e)).ownsRow base e 1 v xs.length (xs.map val) := own_keep_below hown ((Below.refl _ _).alloc (Nat.le_refl _) _)
  refine wpList_plain hgd fun K hK => ?_
  have hcell : ∀ j u, [val y][j]? = some u → (w.alloc (.cells #[val y] e)).cell? ((⟨w.heap.size, 0, none⟩ : Addr).add j) = some u := by
    intro j u hu
    cases j with
    | zero => simp at hu; subst hu; rw [plain_add]; exact (Box.made w e #[val y]).cell 0
    | succ j => simp at hu
  obtain ⟨v', w', hr, h2, h3, h4⟩ := run_append_where (P := P) (w.alloc (.cells #[val y] e)) base t o.type e i0 z bytes ht hi hz0 hz1 hz2 hzs v xs.length (xs.map val) hown1 ⟨w.heap.size, 0, none⟩ 1 1 [val y] rfl (by decide) hcell
    (by intro u hu; rw [List.mem_singleton] at hu; subst hu; exact hval y) (by unfold maxLen; omega) (by have := Nat.mul_le_mul (show xs.length + 1 ≤ 1000000000000 by omega) hbytes; omega) (by simp; omega)
  unfold Oper.wp execOp
  simp only [ho, resolve, invoke, builtin, Sem.run_bind, Sem.run_pure, Result.andThen_ok, List.map_toArray, List.map_cons, List.map_nil, hs, hx, hr]
  refine hK _ _ (h v' w' (by rw [List.length_append, List.map_append]; exact h2) (grown_trans (grown_of_below _ ((Below.refl _ _).alloc (Nat.le_refl _) _)) h3) fun g hg => ?_)
  rcases h4 g hg with h5 | h5
  · exact .inl h5
  · simp at h5
    exact .inr (by omega)

end Go.Proofs.YtbnchnbblchmnaaGreatDoor

namespace Go.Proofs.YtbnchnbblchmnaaGreatDoor
open Go.RowKit

/-- append of one integer; the new row is the old one, or a new block. -/
theorem append_int_w {ops : Array Oper} {rest : List Oper} {o : Oper} {a : Act} {Q : Exit → Act → World → Prop} (w : World) (hgd : o.guard = none) (s x : Operand)
    (ho : o.op = .call { callee := .builtin .append, args := #[s, x], argTypes := #[27, 27] })
    (base : Nat) (v : Value) (xs : List Nat) (hs : a.eval s = v) (hown : w.ownsRow base 3 1 v xs.length (xs.map nv)) (y : Nat) (u : Value) (hu : u = nv y)
    (hx : a.eval x = .slice (some ⟨w.heap.size, 0, none⟩) 1 1) (hlen : xs.length ≤ 1000000000000 - 1) (hbase : base ≤ w.heap.size)
    (h : ∀ v' w', w'.ownsRow base 3 1 v' (xs ++ [y]).length ((xs ++ [y]).map nv) → w.grownBy w' v.ownBlock → (∀ g, v'.ownBlock = some g → v.ownBlock = some g ∨ w.heap.size ≤ g) → wpList Tryz.prog ops Q rest (a.put o.dst v') w') : wpList Tryz.prog ops Q (o :: rest) a (w.alloc (.cells #[u] 3)) :=
  append_one_where 27 3 (.int .i64 0) 8 Tryz.underlying27 info_int rfl (by decide) one_nv w hgd s x ho base v xs hs hown y u hu hx hlen hbase h

section
variable {w : World} {B e n : Nat} {v : Value} {xs : List Value}
/-- A row of the call's own with elements, written out. -/
theorem own_open (h : w.ownsRow B e 1 v n xs) (h0 : 0 < n) : ∃ g cap cur, v = .slice (some ⟨g, 0, none⟩) n cap ∧ B ≤ g ∧ Box w g e cur ∧ n ≤ cap ∧ cap ≤ maxLen ∧ cur.size = cap ∧ cur.toList.take n = xs := by
  rcases h.2 with ⟨_, h1⟩ | ⟨g, cap, cur, hv, hb, hg, hc, hm, hsz, htake⟩
  · omega
  · exact ⟨g, cap, cur, hv, hb, hg, hc, hm, by simpa using hsz, by simpa using htake⟩
end
theorem own_shut {w : World} {B g n cap : Nat} {e : TypeId} {cur : Array Value} {xs : List Value} (hl : xs.length = n) (hb : B ≤ g) (hg : Box w g e cur) (hc : n ≤ cap) (hm : cap ≤ maxLen) (hs : cur.size = cap) (ht : cur.toList.take n = xs) :
    w.ownsRow B e 1 (.slice (some ⟨g, 0, none⟩) n cap) n xs :=
  ⟨by simp; omega, .inr ⟨g, cap, cur, rfl, hb, hg, hc, hm, by simp [hs], by simp [ht]⟩⟩
theorem take_cell {cur : Array Value} {n j x : Nat} {xs : List Nat} (ht : cur.toList.take n = xs.map nv) (hx : xs[j]? = some x) : cur[j]? = some (nv x) := by
  have h : (xs.map nv)[j]? = some (nv x) := by rw [List.getElem?_map, hx]; rfl
  rw [← ht, List.getElem?_take] at h
  split at h
  · rw [← Array.getElem?_toList]; exact h
  · cases h
theorem swap_take {cur : Array Value} {n : Nat} {P Q : List Nat} {p c : Nat} (ht : cur.toList.take n = (P ++ p :: c :: Q).map nv) :
    ((cur.setIfInBounds P.length (nv c)).setIfInBounds (P.length + 1) (nv p)).toList.take n = (P ++ c :: p :: Q).map nv := by
  rw [Array.toList_setIfInBounds, Array.toList_setIfInBounds, List.take_set, List.take_set, ht, ← List.map_set, ← List.map_set]
  congr 1
  rw [List.set_append_right _ _ (by omega), List.set_append_right _ _ (by omega)]
  simp
theorem quiet_add {P : Program} {f : FuncId} {args : Array Value} {w : World} {q n : Nat} {v : Value}
    (h : Calls P f args (w.drewN (q + n)) fun e w' => e = .returned v ∧ ∃ m, w' = (w.drewN (q + n)).drewN m) : Calls P f args (w.drewN (q + n)) fun e w' => e = .returned v ∧ ∃ m, w' = w.drewN (q + m) :=
  h.mono fun _ _ ⟨he, m, hm⟩ => ⟨he, n + m, by rw [hm, World.drewN_drewN, Nat.add_assoc]⟩

/-- append of one integer, the new row written out. -/
theorem append_int_open {ops : Array Oper} {rest : List Oper} {o : Oper} {a : Act} {Q : Exit → Act → World → Prop} (w : World) (hgd : o.guard = none) (s x : Operand)
    (ho : o.op = .call { callee := .builtin .append, args := #[s, x], argTypes := #[27, 27] })
    (base : Nat) (v : Value) (xs : List Nat) (M : Nat) (hM : xs.length = M) (hs : a.eval s = v) (hown : w.ownsRow base 3 1 v xs.length (xs.map nv)) (y : Nat) (u : Value) (hu : u = nv y)
    (hx : a.eval x = .slice (some ⟨w.heap.size, 0, none⟩) 1 1) (hlen : M ≤ 1000000000000 - 1) (hbase : base ≤ w.heap.size)
    (h : ∀ (g cap : Nat) (cur : Array Value) (w' : World), base ≤ g → Box w' g 3 cur → M + 1 ≤ cap → cap ≤ maxLen → cur.size = cap → cur.toList.take (M + 1) = (xs ++ [y]).map nv → w.grownBy w' v.ownBlock → (v.ownBlock = some g ∨ w.heap.size ≤ g) →
      wpList Tryz.prog ops Q rest (a.put o.dst (.slice (some ⟨g, 0, none⟩) (M + 1) cap)) w') : wpList Tryz.prog ops Q (o :: rest) a (w.alloc (.cells #[u] 3)) := by
  refine append_int_w w hgd s x ho base v xs hs hown y u hu hx (by omega) hbase ?_
  intro v' w' h1 h2 h3
  have hl : (xs ++ [y]).length = M + 1 := by rw [List.length_append, hM]; rfl
  rw [hl] at h1
  obtain ⟨g, cap, cur, rfl, k1, k2, k3, k4, k5, k6⟩ := own_open h1 (by omega)
  exact h g cap cur w' k1 k2 k3 k4 k5 k6 h2 (h3 g rfl)

end Go.Proofs.YtbnchnbblchmnaaGreatDoor
