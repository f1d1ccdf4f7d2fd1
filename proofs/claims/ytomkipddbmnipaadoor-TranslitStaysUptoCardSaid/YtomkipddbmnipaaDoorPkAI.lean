/-
  A row of rules in memory, by the rules' numbers; the library's exchange of two parts of it.
  The library's rotation of a part of a row.
  The sides of a rule in a direction, and the program's comparison of two rules by the length of what is looked for.
-/
import Derived.Test.YtomkipddbmnipaaDoorPkAH
import Derived.Deep.RegionWith
import Derived.BigRegion
import Derived.BigQuiet
import Derived.Shelf.SlSortCmp.QuietGrown
namespace Go.Proofs.YtomkipddbmnipaaDoor
open Go.RowKit

theorem grown_set {w w' : World} {g : Nat} (h : w.grownBy w' (some g)) (i : Nat) (v : Value) : w.grownBy (w'.setCell ⟨g, i, none⟩ v) (some g) :=
  ⟨h.os, h.tape, h.output, by rw [World.size_setCell]; exact h.size, fun k hk hne => (Below.heap_setCell w' ⟨g, i, none⟩ v k (fun e => hne (by rw [e]))).trans (h.block k hk hne)⟩
theorem grown_drewN {w w' : World} {row : Option Nat} (h : w.grownBy w' row) (n : Nat) : w.grownBy (w'.drewN n) row := ⟨h.os, h.tape, h.output, h.size, h.block⟩
theorem grown_drew {w w' : World} {row : Option Nat} (h : w.grownBy w' row) : w.grownBy w'.drew row := ⟨h.os, h.tape, h.output, h.size, h.block⟩
theorem box_drew {w : World} {g : Nat} {t : TypeId} {cu : Array Value} (h : Box w g t cu) : Box w.drew g t cu := h
/-- The values of the rule with number i. -/
def rvi (tab : Nat → RuleL) (i : Nat) : List Value := rv (tab i)
theorem rvi_len (tab : Nat → RuleL) (i : Nat) : (rvi tab i).length = 2 := rfl
/-- In w, the row of block g, of cap rules, begins with the rules of the numbers L. -/
def Row (tab : Nat → RuleL) (w : World) (g cap : Nat) (L : List Nat) : Prop := ∃ cu, Box w g 41 cu ∧ cu.size = cap * 2 ∧ cu.toList.take (L.length * 2) = L.flatMap (rvi tab)
theorem set_mid {P R : List Value} {x y : Value} : (P ++ x :: R).set P.length y = P ++ y :: R := by
  rw [List.set_append_right _ _ (by omega)]
  simp
theorem set_mid2 {P R : List Value} {x x' y y' : Value} {p : Nat} (hp : p = P.length) : ((P ++ x :: x' :: R).set p y).set (p + 1) y' = P ++ y :: y' :: R := by
  subst hp
  rw [set_mid]
  have e : P ++ y :: x' :: R = (P ++ [y]) ++ x' :: R := by simp
  have e2 : P ++ y :: y' :: R = (P ++ [y]) ++ y' :: R := by simp
  have e3 : P.length + 1 = (P ++ [y]).length := by simp
  rw [e, e2, e3, set_mid]
theorem swap_set2 {A B C : List Value} {x x' y y' : Value} {p q : Nat} (hp : p = A.length) (hq : q = A.length + 2 + B.length) :
    ((((A ++ x :: x' :: (B ++ y :: y' :: C)).set p y).set (p + 1) y').set q x).set (q + 1) x' = A ++ y :: y' :: (B ++ x :: x' :: C) := by
  rw [set_mid2 hp]
  have e : A ++ y :: y' :: (B ++ y :: y' :: C) = (A ++ y :: y' :: B) ++ y :: y' :: C := by simp
  have e2 : A ++ y :: y' :: (B ++ x :: x' :: C) = (A ++ y :: y' :: B) ++ x :: x' :: C := by simp
  rw [e, e2, set_mid2 (by rw [hq]; simp; omega)]
theorem flat_rvi_len (tab : Nat → RuleL) (L : List Nat) : (L.flatMap (rvi tab)).length = L.length * 2 := flat_len (rvi_len tab) L
theorem flat_swap (tab : Nat → RuleL) (P M R : List Nat) (x y : Nat) :
    (P ++ x :: (M ++ y :: R)).flatMap (rvi tab) = P.flatMap (rvi tab) ++ .string (str (tab x).1) :: .string (str (tab x).2) :: (M.flatMap (rvi tab) ++ .string (str (tab y).1) :: .string (str (tab y).2) :: R.flatMap (rvi tab)) := by
  simp [List.flatMap_append, List.flatMap_cons, rvi, rv]
section
variable {tab : Nat → RuleL}
theorem swap_mem {cu : Array Value} {N : Nat} {P M R : List Nat} {x y p q : Nat} (ht : cu.toList.take N = (P ++ x :: (M ++ y :: R)).flatMap (rvi tab)) (hp : p = P.length * 2) (hq : q = (P.length + 1 + M.length) * 2) :
    ((((cu.setIfInBounds p (.string (str (tab y).1))).setIfInBounds (p + 1) (.string (str (tab y).2))).setIfInBounds q (.string (str (tab x).1))).setIfInBounds (q + 1) (.string (str (tab x).2))).toList.take N = (P ++ y :: (M ++ x :: R)).flatMap (rvi tab) := by
  rw [Array.toList_setIfInBounds, Array.toList_setIfInBounds, Array.toList_setIfInBounds, Array.toList_setIfInBounds, List.take_set, List.take_set, List.take_set, List.take_set, ht, flat_swap, flat_swap,
    swap_set2 (by rw [flat_rvi_len]; exact hp) (by rw [flat_rvi_len, flat_rvi_len]; omega)]
theorem take_cell {cur : Array Value} {N i j : Nat} {v : Value} {L : List Nat} (ht : cur.toList.take N = L.flatMap (rvi tab)) {x : Nat} (hx : L[i]? = some x) (hv : (rvi tab x)[j]? = some v) : cur[i * 2 + j]? = some v := by
  have h := flat_at (rvi_len tab) L i x j v hx hv
  rw [← ht, List.getElem?_take] at h
  split at h
  · rw [← Array.getElem?_toList]; exact h
  · cases h
theorem Row.cells {w : World} {g cap i x : Nat} {L : List Nat} (h : Row tab w g cap L) (hx : L[i]? = some x) :
    w.cell? ⟨g, i * 2, none⟩ = some (.string (str (tab x).1)) ∧ w.cell? ⟨g, i * 2 + 1, none⟩ = some (.string (str (tab x).2)) := by
  obtain ⟨cu, hb, _, ht⟩ := h
  exact ⟨(hb.cell _).trans (take_cell (j := 0) ht hx rfl), (hb.cell _).trans (take_cell (j := 1) ht hx rfl)⟩
theorem Row.free {w : World} {g cap : Nat} {L : List Nat} (h : Row tab w g cap L) (i : Nat) : w.frozen? ⟨g, i, none⟩ = false := by
  obtain ⟨cu, hb, _, _⟩ := h
  exact hb.free _
theorem Row.drewN {w : World} {g cap : Nat} {L : List Nat} (h : Row tab w g cap L) (n : Nat) : Row tab (w.drewN n) g cap L := h
theorem Row.same {w : World} {g cap : Nat} {L L' : List Nat} (h : Row tab w g cap L) (e : L = L') : Row tab w g cap L' := e ▸ h
theorem Row.lt {w : World} {g cap : Nat} {L : List Nat} (h : Row tab w g cap L) : g < w.heap.size := by
  obtain ⟨cu, hb, _, _⟩ := h
  exact hb.lt
theorem Row.below {w w' : World} {g cap : Nat} {L : List Nat} (h : Row tab w g cap L) (hb : Below w.heap.size w w') : Row tab w' g cap L := by
  have hl := h.lt
  obtain ⟨cu, h1, h2, h3⟩ := h
  exact ⟨cu, h1.below hb hl, h2, h3⟩
theorem grown_below {w w' : World} (h : Below w.heap.size w w') (row : Option Nat) : w.grownBy w' row := ⟨h.os, h.tape, h.output, h.size, fun k hk _ => h.block k hk⟩
end

set_option maxRecDepth 100000 in
set_option maxHeartbeats 6400000 in
theorem swapRange_any (tab : Nat → RuleL) (g n c cap a b m : Nat) (fv : Value) (P A M B Q : List Nat) (w : World) (hA : A.length = m) (hB : B.length = m) (hP : P.length = a) (hM : P.length + m + M.length = b) (hn : b + m ≤ n) (hsz : n ≤ 1000000000)
    (hrow : Row tab w g cap (P ++ (A ++ (M ++ (B ++ Q))))) :
    Calls Tryd.prog 90 #[.slice (some ⟨g, 0, none⟩) n c, .int .i64 (a : Int), .int .i64 (b : Int), .int .i64 (m : Int), fv] w fun e w' => e = .returned (.tuple #[]) ∧ Row tab w' g cap (P ++ (B ++ (M ++ (A ++ Q)))) ∧ w.grownBy w' (some g) := by
  obtain ⟨cu0, hb0, hc0, ht0⟩ := hrow
  obtain ⟨N, hN⟩ : ∃ N, (P ++ (A ++ (M ++ (B ++ Q)))).length * 2 = N := ⟨_, rfl⟩
  rw [hN] at ht0
  have HN : Hid ((P ++ (B ++ (M ++ (A ++ Q)))).length * 2 = N) := Lib.hid (by rw [← hN]; simp; omega)
  have HT0 := Lib.hid ht0
  have HAl := Lib.hid hA
  have HBl := Lib.hid hB
  have HPl := Lib.hid hP
  have HMl := Lib.hid hM
  clear hN ht0 hA hB hP hM
  go_enter Tryd.func90, Tryd.ntmps90
  go_wp2
  go_loopw [10] (fun s wr => ∃ (k : Nat) (cu : Array Value), k ≤ m ∧ s = .int .i64 (k : Int) ∧ Box wr g 41 cu ∧ cu.size = cap * 2 ∧ Hid (cu.toList.take N = (P ++ (B.take k ++ (A.drop k ++ (M ++ (A.take k ++ (B.drop k ++ Q)))))).flatMap (rvi tab)) ∧ w.grownBy wr (some g)) (fun s _ => m - (intOf s).toNat)
  case atStart => exact ⟨0, cu0, by omega, rfl, hb0, hc0, Lib.hid (by simpa using HT0.out), grown_refl _ _⟩
  case round =>
    obtain ⟨k, cu, hk, rfl, hb, hcs, HT, hg⟩ := hrel
    by_cases hlt : k < m
    · have t1 : decide ((k : Int) < (m : Int)) = true := by simp; omega
      obtain ⟨x, hx⟩ := get_some (l := A) (i := k) (by have := HAl.out; omega)
      obtain ⟨y, hy⟩ := get_some (l := B) (i := k) (by have := HBl.out; omega)
      obtain ⟨p, hp⟩ : ∃ p, p = a + k := ⟨_, rfl⟩
      obtain ⟨q, hq⟩ : ∃ q, q = b + k := ⟨_, rfl⟩
      have ep : (a : Int) + (k : Int) = (p : Int) := by omega
      have eq : (b : Int) + (k : Int) = (q : Int) := by omega
      have hAk : A.drop k = x :: A.drop (k + 1) := by
        obtain ⟨h1, h2⟩ := List.getElem?_eq_some_iff.1 hx
        rw [List.drop_eq_getElem_cons h1, h2]
      have hBk : B.drop k = y :: B.drop (k + 1) := by
        obtain ⟨h1, h2⟩ := List.getElem?_eq_some_iff.1 hy
        rw [List.drop_eq_getElem_cons h1, h2]
      have hT1 : cu.toList.take N = ((P ++ B.take k) ++ x :: ((A.drop (k + 1) ++ M ++ A.take k) ++ y :: (B.drop (k + 1) ++ Q))).flatMap (rvi tab) := by
        rw [HT.out, hAk, hBk]; simp
      have l1 := HAl.out
      have l2 := HBl.out
      have l3 := HPl.out
      have l4 := HMl.out
      have hpl : p = (P ++ B.take k).length := by rw [List.length_append, List.length_take]; omega
      have hql : q = (P ++ B.take k).length + 1 + (A.drop (k + 1) ++ M ++ A.take k).length := by
        rw [List.length_append, List.length_append, List.length_append, List.length_take, List.length_take, List.length_drop]; omega
      have hpq : p < q := by omega
      have hqn : q < n := by omega
      have HS : Hid (((((cu.setIfInBounds (p * 2) (.string (str (tab y).1))).setIfInBounds (p * 2 + 1) (.string (str (tab y).2))).setIfInBounds (q * 2) (.string (str (tab x).1))).setIfInBounds (q * 2 + 1) (.string (str (tab x).2))).toList.take N = (P ++ (B.take (k + 1) ++ (A.drop (k + 1) ++ (M ++ (A.take (k + 1) ++ (B.drop (k + 1) ++ Q)))))).flatMap (rvi tab)) := Lib.hid (by
        rw [swap_mem hT1 (by rw [hpl]) (by rw [hql]), take_next hx, take_next hy]; simp)
      have hR1 : Row tab wr g cap ((P ++ B.take k) ++ x :: ((A.drop (k + 1) ++ M ++ A.take k) ++ y :: (B.drop (k + 1) ++ Q))) := ⟨cu, hb, hcs, by
        have e : ((P ++ B.take k) ++ x :: ((A.drop (k + 1) ++ M ++ A.take k) ++ y :: (B.drop (k + 1) ++ Q))).length * 2 = N := by
          rw [← HN.out]
          simp only [List.length_append, List.length_cons, List.length_take, List.length_drop]
          omega
        rw [e]; exact hT1⟩
      have d0 := (hR1.cells (i := p) (x := x) (by rw [hpl]; simp)).1
      have d1 := (hR1.cells (i := p) (x := x) (by rw [hpl]; simp)).2
      have hgq : ((P ++ B.take k) ++ x :: ((A.drop (k + 1) ++ M ++ A.take k) ++ y :: (B.drop (k + 1) ++ Q)))[q]? = some y := by
        have e : (P ++ B.take k) ++ x :: ((A.drop (k + 1) ++ M ++ A.take k) ++ y :: (B.drop (k + 1) ++ Q)) = ((P ++ B.take k) ++ x :: (A.drop (k + 1) ++ M ++ A.take k)) ++ y :: (B.drop (k + 1) ++ Q) := by simp
        rw [e, List.getElem?_append_right (by rw [List.length_append, List.length_cons]; omega)]
        have : q - ((P ++ B.take k) ++ x :: (A.drop (k + 1) ++ M ++ A.take k)).length = 0 := by rw [List.length_append, List.length_cons]; omega
        rw [this]; rfl
      have d2 := (hR1.cells hgq).1
      have d3 := (hR1.cells hgq).2
      have f0 : wr.frozen? ⟨g, p * 2, none⟩ = false := hb.free _
      have f1 : wr.frozen? ⟨g, p * 2 + 1, none⟩ = false := hb.free _
      have f2 : wr.frozen? ⟨g, q * 2, none⟩ = false := hb.free _
      have f3 : wr.frozen? ⟨g, q * 2 + 1, none⟩ = false := hb.free _
      have z0 : (p : Int) < (n : Int) := by omega
      have z1 : (q : Int) < (n : Int) := by omega
      have hne0 : p * 2 ≠ q * 2 := by omega
      have hne1 : p * 2 ≠ q * 2 + 1 := by omega
      have hne2 : p * 2 + 1 ≠ q * 2 := by omega
      have hne3 : p * 2 + 1 ≠ q * 2 + 1 := by omega
      clear hx hy hAk hBk hT1 l1 l2 l3 l4 hpl hql hp hq hR1 hgq
      go_wp2
      go_region
      all_goals
        go_wp2
        go_roundw
        case rel => exact ⟨k + 1, _, by omega, by go_num, box_drew ((((hb.put (p * 2) _).put (p * 2 + 1) _).put (q * 2) _).put (q * 2 + 1) _), by simp [hcs], HS, grown_drew (grown_set (grown_set (grown_set (grown_set hg _ _) _ _) _ _) _ _)⟩
        case measure => simp [intOf]; omega
    · obtain rfl : k = m := by omega
      have HE : Hid (cu.toList.take N = (P ++ (B ++ (M ++ (A ++ Q)))).flatMap (rvi tab)) := Lib.hid (by
        rw [HT.out, List.take_of_length_le (Nat.le_of_eq HAl.out), List.take_of_length_le (Nat.le_of_eq HBl.out), List.drop_of_length_le (Nat.le_of_eq HAl.out), List.drop_of_length_le (Nat.le_of_eq HBl.out)]; simp)
      go_wp2
      go_end0
      exact ⟨rfl, ⟨cu, hb, hcs, by rw [HN.out]; exact HE.out⟩, hg⟩

end Go.Proofs.YtomkipddbmnipaaDoor

namespace Go.Proofs.YtomkipddbmnipaaDoor
open Go.RowKit

set_option maxRecDepth 100000 in
set_option maxHeartbeats 6400000 in
theorem rotate_any (tab : Nat → RuleL) (g n c cap a m b : Nat) (fv : Value) (P U V Q : List Nat) (w : World) (hU : 0 < U.length) (hV : 0 < V.length) (hP : P.length = a) (hm : a + U.length = m) (hb : m + V.length = b) (hn : b ≤ n) (hsz : n ≤ 1000000000)
    (hrow : Row tab w g cap (P ++ (U ++ (V ++ Q)))) :
    Calls Tryd.prog 87 #[.slice (some ⟨g, 0, none⟩) n c, .int .i64 (a : Int), .int .i64 (m : Int), .int .i64 (b : Int), fv] w fun e w' => e = .returned (.tuple #[]) ∧ Row tab w' g cap (P ++ (V ++ (U ++ Q))) ∧ w.grownBy w' (some g) := by
  obtain ⟨i0, hi0⟩ : ∃ i, U.length = i := ⟨_, rfl⟩
  obtain ⟨j0, hj0⟩ : ∃ j, V.length = j := ⟨_, rfl⟩
  rw [hi0] at hU hm
  rw [hj0] at hV hb
  have HI0 := Lib.hid hi0
  have HJ0 := Lib.hid hj0
  have HR0 := Lib.hid hrow
  have HP0 := Lib.hid hP
  have ea : (m : Int) - (a : Int) = (i0 : Int) := by omega
  have eb : (b : Int) - (m : Int) = (j0 : Int) := by omega
  clear hi0 hj0 hrow hP
  go_enter Tryd.func87, Tryd.ntmps87
  go_wp2
  go_loopw [10, 11] (fun s5 s6 wr => ∃ (i j : Nat) (P1 U1 V1 Q1 : List Nat), s5 = .int .i64 (i : Int) ∧ s6 = .int .i64 (j : Int) ∧ 0 < i ∧ 0 < j ∧ i ≤ m ∧ m + j ≤ b ∧ i + j ≤ i0 + j0 ∧ Hid (U1.length = i ∧ V1.length = j ∧ P1.length + i = m) ∧ Hid (Row tab wr g cap (P1 ++ (U1 ++ (V1 ++ Q1)))) ∧
    Hid (P1 ++ (V1 ++ (U1 ++ Q1)) = P ++ (V ++ (U ++ Q))) ∧ w.grownBy wr (some g)) (fun s5 s6 _ => (intOf s5).toNat + (intOf s6).toNat)
  case atStart => exact ⟨i0, j0, P, U, V, Q, rfl, rfl, hU, hV, by omega, by omega, by omega, Lib.hid ⟨HI0.out, HJ0.out, by have := HP0.out; omega⟩, HR0, Lib.hid rfl, grown_refl _ _⟩
  case round =>
    obtain ⟨i, j, P1, U1, V1, Q1, rfl, rfl, hi, hj, him, hjb, hij, HL, HR, HE, hg⟩ := hrel
    obtain ⟨k, hk⟩ : ∃ k, k = m - i := ⟨_, rfl⟩
    have ek : (m : Int) - (i : Int) = (k : Int) := by omega
    by_cases heq : i = j
    · subst heq
      have t1 : ((i : Int) != (i : Int)) = false := by simp
      have HC := Lib.hid (swapRange_any tab g n c cap k m i fv P1 U1 [] V1 Q1 wr HL.out.1 HL.out.2.1 (by have := HL.out.2.2; omega) (by have := HL.out.2.2; simp; omega) (by omega) hsz HR.out)
      clear hk
      go_wp2_with fail
      try rw [ek]
      refine HC.out.mono ?_
      rintro e w2 ⟨rfl, hr2, hg2⟩
      have HR2 := Lib.hid (hr2.same (L' := P ++ (V ++ (U ++ Q))) (by rw [← HE.out]; rfl))
      have hg3 := grown_trans hg hg2
      clear hr2 hg2 hg
      go_wp2
      go_end0
      exact ⟨rfl, HR2.out, hg3⟩
    · have t1 : ((i : Int) != (j : Int)) = true := by simp; omega
      by_cases hgt : j < i
      · have t2 : decide ((j : Int) < (i : Int)) = true := by simp; omega
        obtain ⟨d, hd⟩ : ∃ d, d = i - j := ⟨_, rfl⟩
        have ed : (i : Int) - (j : Int) = (d : Int) := by omega
        have hUs : U1 = U1.take j ++ U1.drop j := (List.take_append_drop _ _).symm
        have hl1 : (U1.take j).length = j := by rw [List.length_take]; have := HL.out.1; omega
        have hl2 : (U1.drop j).length = d := by rw [List.length_drop]; have := HL.out.1; omega
        have HC := Lib.hid (swapRange_any tab g n c cap k m j fv P1 (U1.take j) (U1.drop j) V1 Q1 wr hl1 HL.out.2.1 (by have := HL.out.2.2; omega) (by have := HL.out.2.2; rw [hl2]; omega) (by omega) hsz
          (HR.out.same (by conv => lhs; rw [hUs]
                           simp only [List.append_assoc])))
        have HL2 : Hid ((U1.drop j).length = d ∧ (U1.take j).length = j ∧ (P1 ++ V1).length + d = m) := Lib.hid ⟨hl2, hl1, by rw [List.length_append]; have := HL.out; omega⟩
        have HE2 : Hid ((P1 ++ V1) ++ (U1.take j ++ (U1.drop j ++ Q1)) = P ++ (V ++ (U ++ Q))) := Lib.hid (by
          rw [← HE.out]
          conv => rhs; rw [hUs]
          simp only [List.append_assoc])
        have hdp : 0 < d := by omega
        have hdm : d ≤ m := by omega
        have hdi : d < i := by omega
        clear hk hd hUs hl1 hl2
        go_wp2_with fail
        try rw [ek]
        refine HC.out.mono ?_
        rintro e w2 ⟨rfl, hr2, hg2⟩
        have HR2 := Lib.hid (hr2.same (L' := (P1 ++ V1) ++ (U1.drop j ++ (U1.take j ++ Q1))) (by simp))
        have hg3 := grown_trans hg hg2
        clear hr2 hg2 hg
        go_wp2
        go_roundw
        case rel => exact ⟨d, j, P1 ++ V1, U1.drop j, U1.take j, Q1, by go_num, rfl, hdp, hj, hdm, hjb, by omega, HL2, HR2, HE2, hg3⟩
        case measure => simp [intOf]; omega
      · have t2 : decide ((j : Int) < (i : Int)) = false := by simp; omega
        obtain ⟨d, hd⟩ : ∃ d, d = j - i := ⟨_, rfl⟩
        have ed : (j : Int) - (i : Int) = (d : Int) := by omega
        have ed2 : (m : Int) + (j : Int) - (i : Int) = ((m + d : Nat) : Int) := by omega
        obtain ⟨md, hmd⟩ : ∃ md, md = m + d := ⟨_, rfl⟩
        rw [← hmd] at ed2
        have hVs : V1 = V1.take d ++ V1.drop d := (List.take_append_drop _ _).symm
        have hl1 : (V1.take d).length = d := by rw [List.length_take]; have := HL.out.2.1; omega
        have hl2 : (V1.drop d).length = i := by rw [List.length_drop]; have := HL.out.2.1; omega
        have HC := Lib.hid (swapRange_any tab g n c cap k md i fv P1 U1 (V1.take d) (V1.drop d) Q1 wr HL.out.1 hl2 (by have := HL.out.2.2; omega) (by have := HL.out.2.2; rw [hl1]; omega) (by omega) hsz
          (HR.out.same (by conv => lhs; rw [hVs]
                           simp only [List.append_assoc])))
        have HL2 : Hid ((V1.drop d).length = i ∧ (V1.take d).length = d ∧ P1.length + i = m) := Lib.hid ⟨hl2, hl1, HL.out.2.2⟩
        have HE2 : Hid (P1 ++ (V1.take d ++ (V1.drop d ++ (U1 ++ Q1))) = P ++ (V ++ (U ++ Q))) := Lib.hid (by
          rw [← HE.out]
          conv => rhs; rw [hVs]
          simp only [List.append_assoc])
        have hdp : 0 < d := by omega
        have hdm : m + d ≤ b := by omega
        have hdi : d < j := by omega
        clear hk hd hVs hl1 hl2 hmd
        go_wp2_with fail
        try rw [ek]
        try rw [ed2]
        refine HC.out.mono ?_
        rintro e w2 ⟨rfl, hr2, hg2⟩
        have HR2 := Lib.hid (hr2.same (L' := P1 ++ (V1.drop d ++ (V1.take d ++ (U1 ++ Q1)))) (by simp))
        have hg3 := grown_trans hg hg2
        clear hr2 hg2 hg
        go_wp2
        go_roundw
        case rel => exact ⟨i, d, P1, V1.drop d, V1.take d, U1 ++ Q1, rfl, by go_num, hi, hdp, him, hdm, by omega, HL2, HR2, HE2, hg3⟩
        case measure => simp [intOf]; omega

end Go.Proofs.YtomkipddbmnipaaDoor

namespace Go.Proofs.YtomkipddbmnipaaDoor
open Go.RowKit Go.Sort

def cmpN (x y : Nat) : Int := if x < y then -1 else if y < x then 1 else 0
theorem cmpN_neg {x y : Nat} (h : x < y) : decide (cmpN x y < 0) = true := by unfold cmpN; rw [if_pos h]; rfl
theorem cmpN_pos {x y : Nat} (h : ¬ x < y) : decide (cmpN x y < 0) = false := by
  unfold cmpN
  rw [if_neg h]
  split <;> rfl

set_option maxRecDepth 20000 in
set_option maxHeartbeats 1600000 in
theorem isNaN_any (c : Nat) (w : World) :
    Calls Tryd.prog 71 #[.int .i64 (c : Int)] w fun e w' => e = .returned (.bool false) ∧ w' = w := by
  have t1 : ((c : Int) != (c : Int)) = false := by simp
  go_enter Tryd.func71, Tryd.ntmps71
  go_wp2
  go_ret
  exact ⟨by simp, rfl⟩

set_option maxRecDepth 20000 in
set_option maxHeartbeats 1600000 in
theorem compare_any (x y : Nat) (w : World) :
    Calls Tryd.prog 63 #[.int .i64 (x : Int), .int .i64 (y : Int)] w fun e w' => e = .returned (.int .i64 (cmpN x y)) ∧ w' = w := by
  obtain ⟨R, hR⟩ : ∃ R, cmpN x y = R := ⟨_, rfl⟩
  rw [hR]
  unfold cmpN at hR
  have HX := Lib.hid (fun W => isNaN_any x W)
  have HY := Lib.hid (fun W => isNaN_any y W)
  by_cases h1 : x < y
  · have t1 : decide (x < y) = true := by simpa using h1
    have HE : Hid (R = -1) := Lib.hid (by rw [← hR, if_pos h1])
    clear hR h1
    go_enter Tryd.func63, Tryd.ntmps63
    go_wp2_with fail
    refine (HX.out _).mono ?_
    rintro e w1 ⟨rfl, rfl⟩
    go_wp2_with fail
    refine (HY.out _).mono ?_
    rintro e w1 ⟨rfl, rfl⟩
    go_wp2
    go_ret
    rw [HE.out]
    exact ⟨rfl, rfl⟩
  have t1 : decide (x < y) = false := by simpa using h1
  rw [if_neg h1] at hR
  by_cases h2 : y < x
  · have t2 : decide (y < x) = true := by simpa using h2
    have HE : Hid (R = 1) := Lib.hid (by rw [← hR, if_pos h2])
    clear hR h1 h2
    go_enter Tryd.func63, Tryd.ntmps63
    go_wp2_with fail
    refine (HX.out _).mono ?_
    rintro e w1 ⟨rfl, rfl⟩
    go_wp2_with fail
    refine (HY.out _).mono ?_
    rintro e w1 ⟨rfl, rfl⟩
    go_wp2
    go_ret
    rw [HE.out]
    exact ⟨rfl, rfl⟩
  · have t2 : decide (y < x) = false := by simpa using h2
    have HE : Hid (R = 0) := Lib.hid (by rw [← hR, if_neg h2])
    clear hR h1 h2
    go_enter Tryd.func63, Tryd.ntmps63
    go_wp2_with fail
    refine (HX.out _).mono ?_
    rintro e w1 ⟨rfl, rfl⟩
    go_wp2_with fail
    refine (HY.out _).mono ?_
    rintro e w1 ⟨rfl, rfl⟩
    go_wp2
    go_ret
    rw [HE.out]
    exact ⟨rfl, rfl⟩

/-- What is looked for, and what is written for it. -/
def pick (d : Bool) (x : RuleL) : RuleL := if d then x else (x.2, x.1)
/-- The direction's closure. -/
def sidesV (d : Bool) : Value := if d then .func (.func 48) #[] #[] else .func (.func 53) #[] #[]
theorem grow_alloc1 (w : World) (n : Nat) (o : Obj) : (w.alloc o).drewN n = grow (w.drewN n) #[o] := by rw [alloc_eq_grow]; rfl
theorem grow_below {w : World} (n : Nat) (os : Array Obj) : Below w.heap.size w (grow (w.drewN n) os) :=
  ⟨rfl, rfl, rfl, by rw [size_grow]; exact Nat.le_add_right _ _, fun k hk => heap_grow_old (w.drewN n) os hk⟩
theorem grow_step2 {w w' w'' : World} (h : ∃ q os, w' = grow (w.drewN q) os) (h2 : ∃ q os, w'' = grow (w'.drewN q) os) : ∃ q os, w'' = grow (w.drewN q) os := by
  obtain ⟨q, os, rfl⟩ := h
  obtain ⟨q2, os2, rfl⟩ := h2
  exact ⟨q + q2, os ++ os2, by show grow (grow ((w.drewN q).drewN q2) os) os2 = _; rw [grow_grow, World.drewN_drewN]⟩
theorem grow_self (w : World) : ∃ q os, w = grow (w.drewN q) os := ⟨0, #[], by rw [grow_empty]; rfl⟩
theorem grow_one (w : World) (o : Obj) : ∃ q os, w.alloc o = grow (w.drewN q) os := ⟨0, #[o], by rw [alloc_eq_grow]; rfl⟩
theorem grow_drewN (w : World) (n : Nat) : ∃ q os, w.drewN n = grow (w.drewN q) os := ⟨n, #[], by rw [grow_empty]⟩

set_option maxRecDepth 20000 in
set_option maxHeartbeats 1600000 in
theorem sidesF_any (x : RuleL) (w : World) :
    Calls Tryd.prog 48 #[.agg #[.string (str x.1), .string (str x.2)]] w fun e w' => e = .returned (.tuple #[.string (str x.1), .string (str x.2)]) ∧ ∃ q os, w' = grow (w.drewN q) os := by
  go_enter Tryd.func48, Tryd.ntmps48
  go_wp2
  go_quiet (fail)
  go_wp2
  go_ret2
  exact ⟨rfl, nq, #[_], grow_alloc1 _ _ _⟩

set_option maxRecDepth 20000 in
set_option maxHeartbeats 1600000 in
theorem cmpsidesF_any (x y : RuleL) (bp : Nat) (w : World) (hp : w.cell? ⟨bp, 0, none⟩ = some (sidesV true)) (hb : bp < w.heap.size) :
    Calls Tryd.prog 62 #[.agg #[.string (str x.1), .string (str x.2)], .agg #[.string (str y.1), .string (str y.2)], .pointer (some ⟨bp, 0, none⟩)] w fun e w' => e = .returned (.int .i64 (cmpN y.1.length x.1.length)) ∧ ∃ q os, w' = grow (w.drewN q) os := by
  have HX := Lib.hid (fun W => sidesF_any x W)
  have HY := Lib.hid (fun W => sidesF_any y W)
  have HC := Lib.hid (fun W => compare_any y.1.length x.1.length W)
  obtain ⟨K, hK⟩ : ∃ K, cmpN y.1.length x.1.length = K := ⟨_, rfl⟩
  rw [hK] at HC ⊢
  clear hK
  have hpo : w.cell? ⟨bp, 0, none⟩ = some (.func (.func 48) #[] #[]) := hp
  have Hp : ∀ W, Below w.heap.size w W → W.cell? ⟨bp, 0, none⟩ = some (.func (.func 48) #[] #[]) := fun W h => (h.cell hb).trans hpo
  have HP := Lib.hid Hp
  clear hp hpo Hp
  have sx : (str x.1).size = x.1.length := rfl
  have sy : (str y.1).size = y.1.length := rfl
  go_enter Tryd.func62, Tryd.ntmps62
  have b1 := (Below.refl w.heap.size w).alloc (Nat.le_refl _) (.cells #[.string (str x.1), .string (str x.2)] 41)
  have b2 := b1.alloc b1.size (.cells #[.string (str y.1), .string (str y.2)] 41)
  have d1 := HP.out _ b2
  go_wp2_with fail
  refine (HX.out _).mono ?_
  rintro e w1 ⟨rfl, hw1⟩
  have g1 := grow_step2 (grow_step2 (grow_one w _) (grow_one _ _)) hw1
  have b3 : Below w.heap.size w w1 := by obtain ⟨q, os, rfl⟩ := g1; exact grow_below q os
  have d2 := HP.out _ b3
  have c2 : w1.cell? ⟨w.heap.size + 1, 0, none⟩ = some (.string (str y.1)) := by
    obtain ⟨q, os, rfl⟩ := hw1
    rw [cell?_grow _ _ _ (by simp)]
    simp
  have c3 : w1.cell? ⟨w.heap.size + 1, 1, none⟩ = some (.string (str y.2)) := by
    obtain ⟨q, os, rfl⟩ := hw1
    rw [cell?_grow _ _ _ (by simp)]
    simp
  clear hw1 b1 b2 b3 d1
  go_wp2_with fail
  refine (HY.out _).mono ?_
  rintro e w2 ⟨rfl, hw2⟩
  have g2 := grow_step2 g1 hw2
  clear hw2 c2 c3 d2 g1
  go_wp2_with fail
  refine (HC.out _).mono ?_
  rintro e w3 ⟨rfl, rfl⟩
  go_wp2
  go_ret
  exact ⟨rfl, g2⟩

set_option maxRecDepth 20000 in
set_option maxHeartbeats 1600000 in
theorem sidesB_any (x : RuleL) (w : World) :
    Calls Tryd.prog 53 #[.agg #[.string (str x.1), .string (str x.2)]] w fun e w' => e = .returned (.tuple #[.string (str x.2), .string (str x.1)]) ∧ ∃ q os, w' = grow (w.drewN q) os := by
  go_enter Tryd.func53, Tryd.ntmps53
  go_wp2
  go_quiet (fail)
  go_wp2
  go_ret2
  exact ⟨rfl, nq, #[_], grow_alloc1 _ _ _⟩

set_option maxRecDepth 20000 in
set_option maxHeartbeats 1600000 in
theorem cmpsidesB_any (x y : RuleL) (bp : Nat) (w : World) (hp : w.cell? ⟨bp, 0, none⟩ = some (sidesV false)) (hb : bp < w.heap.size) :
    Calls Tryd.prog 62 #[.agg #[.string (str x.1), .string (str x.2)], .agg #[.string (str y.1), .string (str y.2)], .pointer (some ⟨bp, 0, none⟩)] w fun e w' => e = .returned (.int .i64 (cmpN y.2.length x.2.length)) ∧ ∃ q os, w' = grow (w.drewN q) os := by
  have HX := Lib.hid (fun W => sidesB_any x W)
  have HY := Lib.hid (fun W => sidesB_any y W)
  have HC := Lib.hid (fun W => compare_any y.2.length x.2.length W)
  obtain ⟨K, hK⟩ : ∃ K, cmpN y.2.length x.2.length = K := ⟨_, rfl⟩
  rw [hK] at HC ⊢
  clear hK
  have hpo : w.cell? ⟨bp, 0, none⟩ = some (.func (.func 53) #[] #[]) := hp
  have Hp : ∀ W, Below w.heap.size w W → W.cell? ⟨bp, 0, none⟩ = some (.func (.func 53) #[] #[]) := fun W h => (h.cell hb).trans hpo
  have HP := Lib.hid Hp
  clear hp hpo Hp
  have sx : (str x.2).size = x.2.length := rfl
  have sy : (str y.2).size = y.2.length := rfl
  go_enter Tryd.func62, Tryd.ntmps62
  have b1 := (Below.refl w.heap.size w).alloc (Nat.le_refl _) (.cells #[.string (str x.1), .string (str x.2)] 41)
  have b2 := b1.alloc b1.size (.cells #[.string (str y.1), .string (str y.2)] 41)
  have d1 := HP.out _ b2
  go_wp2_with fail
  refine (HX.out _).mono ?_
  rintro e w1 ⟨rfl, hw1⟩
  have g1 := grow_step2 (grow_step2 (grow_one w _) (grow_one _ _)) hw1
  have b3 : Below w.heap.size w w1 := by obtain ⟨q, os, rfl⟩ := g1; exact grow_below q os
  have d2 := HP.out _ b3
  have c2 : w1.cell? ⟨w.heap.size + 1, 0, none⟩ = some (.string (str y.1)) := by
    obtain ⟨q, os, rfl⟩ := hw1
    rw [cell?_grow _ _ _ (by simp)]
    simp
  have c3 : w1.cell? ⟨w.heap.size + 1, 1, none⟩ = some (.string (str y.2)) := by
    obtain ⟨q, os, rfl⟩ := hw1
    rw [cell?_grow _ _ _ (by simp)]
    simp
  clear hw1 b1 b2 b3 d1
  go_wp2_with fail
  refine (HY.out _).mono ?_
  rintro e w2 ⟨rfl, hw2⟩
  have g2 := grow_step2 g1 hw2
  clear hw2 c2 c3 d2 g1
  go_wp2_with fail
  refine (HC.out _).mono ?_
  rintro e w3 ⟨rfl, rfl⟩
  go_wp2
  go_ret
  exact ⟨rfl, g2⟩

theorem sides_any (d : Bool) (x : RuleL) (w : World) : ∀ F, sidesV d = .func (.func F) #[] #[] →
    Calls Tryd.prog F #[.agg #[.string (str x.1), .string (str x.2)]] w fun e w' => e = .returned (.tuple #[.string (str (pick d x).1), .string (str (pick d x).2)]) ∧ ∃ q os, w' = grow (w.drewN q) os := by
  intro F hF
  cases d
  · injection hF with h1; injection h1 with h1; subst h1; exact sidesB_any x w
  · injection hF with h1; injection h1 with h1; subst h1; exact sidesF_any x w
theorem cmp_any (d : Bool) (x y : RuleL) (bp : Nat) (w : World) (hp : w.cell? ⟨bp, 0, none⟩ = some (sidesV d)) (hb : bp < w.heap.size) :
    Calls Tryd.prog 62 #[.agg #[.string (str x.1), .string (str x.2)], .agg #[.string (str y.1), .string (str y.2)], .pointer (some ⟨bp, 0, none⟩)] w fun e w' => e = .returned (.int .i64 (cmpN (pick d y).1.length (pick d x).1.length)) ∧ ∃ q os, w' = grow (w.drewN q) os := by
  cases d
  · exact cmpsidesB_any x y bp w hp hb
  · exact cmpsidesF_any x y bp w hp hb

/-- How long what is looked for is: the longest ones come first. -/
def cls (d : Bool) (tab : Nat → RuleL) (i : Nat) : Nat := 1000000 - (pick d (tab i)).1.length
def Short (d : Bool) (tab : Nat → RuleL) : Prop := ∀ i, (pick d (tab i)).1.length ≤ 1000000
theorem cls_lt {d : Bool} {tab : Nat → RuleL} (h : Short d tab) (x y : Nat) : cls d tab x < cls d tab y ↔ (pick d (tab y)).1.length < (pick d (tab x)).1.length := by
  unfold cls
  have h1 := h x
  have h2 := h y
  omega
theorem cmp_cls {d : Bool} {tab : Nat → RuleL} (h : Short d tab) (x y : Nat) : cmpN (pick d (tab y)).1.length (pick d (tab x)).1.length = cmpN (cls d tab x) (cls d tab y) := by
  unfold cmpN
  have h1 := cls_lt h x y
  have h2 := cls_lt h y x
  by_cases a : cls d tab x < cls d tab y
  · rw [if_pos a, if_pos (h1.1 a)]
  · rw [if_neg a, if_neg (fun b => a (h1.2 b))]
    by_cases c : cls d tab y < cls d tab x
    · rw [if_pos c, if_pos (h2.1 c)]
    · rw [if_neg c, if_neg (fun b => c (h2.2 b))]
/-- The comparison as a value: the direction's closure lies in the cell of block bp. -/
def cmpV (bp : Nat) : Value := .func (.func 62) #[] #[.pointer (some ⟨bp, 0, none⟩)]
/-- The comparison of two rules by their numbers, in the worlds that a quiet region meets. -/
theorem byLen_any {d : Bool} {tab : Nat → RuleL} (h : Short d tab) (bp x y : Nat) (w : World) (hp : w.cell? ⟨bp, 0, none⟩ = some (sidesV d)) (hb : bp < w.heap.size) (n : Nat) (os : Array Obj) :
    Calls Tryd.prog 62 #[.agg #[.string (str (tab x).1), .string (str (tab x).2)], .agg #[.string (str (tab y).1), .string (str (tab y).2)], .pointer (some ⟨bp, 0, none⟩)] (grow (w.drewN n) os) fun e w' => e = .returned (.int .i64 (cmpN (cls d tab x) (cls d tab y))) ∧ ∃ q os', w' = grow ((grow (w.drewN n) os).drewN q) os' := by
  have := cmp_any d (tab x) (tab y) bp (grow (w.drewN n) os) (cell_grown (a := ⟨bp, 0, none⟩) hb hp n os) (by rw [size_grow]; exact Nat.lt_of_lt_of_le hb (Nat.le_add_right _ _))
  rw [cmp_cls h] at this
  exact this

end Go.Proofs.YtomkipddbmnipaaDoor
