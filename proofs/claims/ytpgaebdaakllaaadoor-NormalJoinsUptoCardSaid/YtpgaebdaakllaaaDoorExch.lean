/-
  The library's exchange of two parts of a row.
  The library's rotation of a part of a row.
-/
import Derived.Test.YtpgaebdaakllaaaDoorRefSwap
import Derived.Test.YtpgaebdaakllaaaDoorSorting
import Derived.Deep.RegionWith
namespace Go.Proofs.YtpgaebdaakllaaaDoor
open Go.RowKit

theorem grown_set {w w' : World} {g : Nat} (h : w.grownBy w' (some g)) (i : Nat) (v : Value) : w.grownBy (w'.setCell ⟨g, i, none⟩ v) (some g) :=
  ⟨h.os, h.tape, h.output, by rw [World.size_setCell]; exact h.size, fun k hk hne => (Below.heap_setCell w' ⟨g, i, none⟩ v k (fun e => hne (by rw [e]))).trans (h.block k hk hne)⟩
theorem grown_drewN {w w' : World} {row : Option Nat} (h : w.grownBy w' row) (n : Nat) : w.grownBy (w'.drewN n) row := ⟨h.os, h.tape, h.output, h.size, h.block⟩
/-- In w, the row of block g, of cap cells, begins with L. -/
def Row (w : World) (g cap : Nat) (L : List Nat) : Prop := ∃ cu, Box w g 3 cu ∧ cu.size = cap ∧ cu.toList.take L.length = L.map nv
theorem set_mid {P R : List Value} {x y : Value} : (P ++ x :: R).set P.length y = P ++ y :: R := by
  rw [List.set_append_right _ _ (by omega)]
  simp
theorem swap_set {P M R : List Value} {x y : Value} : ((P ++ x :: (M ++ y :: R)).set P.length y).set (P.length + 1 + M.length) x = P ++ y :: (M ++ x :: R) := by
  rw [set_mid]
  have e : P ++ y :: (M ++ y :: R) = (P ++ y :: M) ++ y :: R := by simp
  have e2 : P ++ y :: (M ++ x :: R) = (P ++ y :: M) ++ x :: R := by simp
  have e3 : P.length + 1 + M.length = (P ++ y :: M).length := by simp; omega
  rw [e, e2, e3, set_mid]
theorem swap_mem {cu : Array Value} {N : Nat} {P M R : List Nat} {x y p q : Nat} (ht : cu.toList.take N = (P ++ x :: (M ++ y :: R)).map nv) (hp : p = P.length) (hq : q = P.length + 1 + M.length) :
    ((cu.setIfInBounds p (nv y)).setIfInBounds q (nv x)).toList.take N = (P ++ y :: (M ++ x :: R)).map nv := by
  subst hp hq
  rw [Array.toList_setIfInBounds, Array.toList_setIfInBounds, List.take_set, List.take_set, ht]
  simp only [List.map_append, List.map_cons]
  have := swap_set (P := P.map nv) (M := M.map nv) (R := R.map nv) (x := nv x) (y := nv y)
  simpa using this
theorem swap_mem_back {cu : Array Value} {N : Nat} {P M R : List Nat} {x y p q : Nat} (ht : cu.toList.take N = (P ++ x :: (M ++ y :: R)).map nv) (hp : p = P.length) (hq : q = P.length + 1 + M.length) :
    ((cu.setIfInBounds q (nv x)).setIfInBounds p (nv y)).toList.take N = (P ++ y :: (M ++ x :: R)).map nv := by
  have h := swap_mem ht hp hq
  have e : (cu.setIfInBounds q (nv x)).setIfInBounds p (nv y) = (cu.setIfInBounds p (nv y)).setIfInBounds q (nv x) := by
    apply Array.toList_inj.1
    rw [Array.toList_setIfInBounds, Array.toList_setIfInBounds, Array.toList_setIfInBounds, Array.toList_setIfInBounds, List.set_comm _ _ (by omega)]
  rw [e]
  exact h
theorem swap_fst {cu : Array Value} {N : Nat} {P M R : List Nat} {x y p : Nat} (ht : cu.toList.take N = (P ++ x :: (M ++ y :: R)).map nv) (hp : p = P.length) : cu[p]? = some (nv x) := take_cell ht (by subst hp; simp)
theorem swap_snd {cu : Array Value} {N : Nat} {P M R : List Nat} {x y q : Nat} (ht : cu.toList.take N = (P ++ x :: (M ++ y :: R)).map nv) (hq : q = P.length + 1 + M.length) : cu[q]? = some (nv y) := take_cell ht (by
  subst hq
  have e : P ++ x :: (M ++ y :: R) = (P ++ x :: M) ++ y :: R := by simp
  rw [e, List.getElem?_append_right (by simp; omega)]
  have : P.length + 1 + M.length - (P ++ x :: M).length = 0 := by simp; omega
  rw [this]; rfl)

set_option maxRecDepth 100000 in
set_option maxHeartbeats 6400000 in
theorem swapRange_any (g off n c cap a b m : Nat) (fv : Value) (P A M B Q : List Nat) (w : World) (hA : A.length = m) (hB : B.length = m) (hP : P.length = off + a) (hM : P.length + m + M.length = off + b) (hn : b + m ≤ n) (hsz : n ≤ 1000000000)
    (hrow : Row w g cap (P ++ (A ++ (M ++ (B ++ Q))))) :
    Calls Tryd.prog 83 #[.slice (some ⟨g, off, none⟩) n c, .int .i64 (a : Int), .int .i64 (b : Int), .int .i64 (m : Int), fv] w fun e w' => e = .returned (.tuple #[]) ∧ Row w' g cap (P ++ (B ++ (M ++ (A ++ Q)))) ∧ w.grownBy w' (some g) := by
  obtain ⟨cu0, hb0, hc0, ht0⟩ := hrow
  obtain ⟨N, hN⟩ : ∃ N, (P ++ (A ++ (M ++ (B ++ Q)))).length = N := ⟨_, rfl⟩
  rw [hN] at ht0
  have HN : Hid ((P ++ (B ++ (M ++ (A ++ Q)))).length = N) := Lib.hid (by rw [← hN]; simp; omega)
  have HT0 := Lib.hid ht0
  have HAl := Lib.hid hA
  have HBl := Lib.hid hB
  have HPl := Lib.hid hP
  have HMl := Lib.hid hM
  clear hN ht0 hA hB hP hM
  go_enter Tryd.func83, Tryd.ntmps83
  go_wp2
  go_loopw [10] (fun s wr => ∃ (k : Nat) (cu : Array Value), k ≤ m ∧ s = .int .i64 (k : Int) ∧ Box wr g 3 cu ∧ cu.size = cap ∧ Hid (cu.toList.take N = (P ++ (B.take k ++ (A.drop k ++ (M ++ (A.take k ++ (B.drop k ++ Q)))))).map nv) ∧ w.grownBy wr (some g)) (fun s _ => m - (intOf s).toNat)
  case atStart => exact ⟨0, cu0, by omega, rfl, hb0, hc0, Lib.hid (by simpa using HT0.out), grown_refl _ _⟩
  case round =>
    obtain ⟨k, cu, hk, rfl, hb, hcs, HT, hg⟩ := hrel
    by_cases hlt : k < m
    · have t1 : decide ((k : Int) < (m : Int)) = true := by simp; omega
      obtain ⟨x, hx⟩ := get_some (l := A) (i := k) (by have := HAl.out; omega)
      obtain ⟨y, hy⟩ := get_some (l := B) (i := k) (by have := HBl.out; omega)
      obtain ⟨p, hp⟩ : ∃ p, p = a + k := ⟨_, rfl⟩
      obtain ⟨q, hq⟩ : ∃ q, q = b + k := ⟨_, rfl⟩
      have ep : (a : Int) + (k : Int) = (p : Int) := by omega
      have eq : (b : Int) + (k : Int) = (q : Int) := by omega
      have hAk : A.drop k = x :: A.drop (k + 1) := by
        obtain ⟨h1, h2⟩ := List.getElem?_eq_some_iff.1 hx
        rw [List.drop_eq_getElem_cons h1, h2]
      have hBk : B.drop k = y :: B.drop (k + 1) := by
        obtain ⟨h1, h2⟩ := List.getElem?_eq_some_iff.1 hy
        rw [List.drop_eq_getElem_cons h1, h2]
      have hT1 : cu.toList.take N = ((P ++ B.take k) ++ x :: ((A.drop (k + 1) ++ M ++ A.take k) ++ y :: (B.drop (k + 1) ++ Q))).map nv := by
        rw [HT.out, hAk, hBk]; simp
      have l1 := HAl.out
      have l2 := HBl.out
      have l3 := HPl.out
      have l4 := HMl.out
      have hpl : off + p = (P ++ B.take k).length := by rw [List.length_append, List.length_take]; omega
      have hql : off + q = (P ++ B.take k).length + 1 + (A.drop (k + 1) ++ M ++ A.take k).length := by
        rw [List.length_append, List.length_append, List.length_append, List.length_take, List.length_take, List.length_drop]; omega
      have hpq : p < q := by omega
      have hqn : q < n := by omega
      have HS : Hid (((cu.setIfInBounds (off + p) (nv y)).setIfInBounds (off + q) (nv x)).toList.take N = (P ++ (B.take (k + 1) ++ (A.drop (k + 1) ++ (M ++ (A.take (k + 1) ++ (B.drop (k + 1) ++ Q)))))).map nv) := Lib.hid (by
        rw [swap_mem hT1 hpl hql, take_next hx, take_next hy]; simp)
      have d0 : wr.cell? ⟨g, off + p, none⟩ = some (.int .i64 (x : Int)) := (hb.cell _).trans (swap_fst hT1 hpl)
      have d1 : wr.cell? ⟨g, off + q, none⟩ = some (.int .i64 (y : Int)) := (hb.cell _).trans (swap_snd hT1 hql)
      have f0 : wr.frozen? ⟨g, off + p, none⟩ = false := hb.free _
      have f1 : wr.frozen? ⟨g, off + q, none⟩ = false := hb.free _
      have z0 : (p : Int) < (n : Int) := by omega
      have z1 : (q : Int) < (n : Int) := by omega
      have hne : off + p ≠ off + q := by omega
      clear hx hy hAk hBk hT1 l1 l2 l3 l4 hpl hql hp hq
      go_wp2
      go_region
      all_goals
        go_wp2
        go_roundw
        case rel => exact ⟨k + 1, _, by omega, by go_num, ((hb.drewN _).put (off + p) (nv y)).put (off + q) (nv x), by simp [hcs], HS, grown_set (grown_set (grown_drewN hg _) _ _) _ _⟩
        case measure => simp [intOf]; omega
    · obtain rfl : k = m := by omega
      have HE : Hid (cu.toList.take N = (P ++ (B ++ (M ++ (A ++ Q)))).map nv) := Lib.hid (by
        rw [HT.out, List.take_of_length_le (Nat.le_of_eq HAl.out), List.take_of_length_le (Nat.le_of_eq HBl.out), List.drop_of_length_le (Nat.le_of_eq HAl.out), List.drop_of_length_le (Nat.le_of_eq HBl.out)]; simp)
      go_wp2
      go_end0
      exact ⟨rfl, ⟨cu, hb, hcs, by rw [HN.out]; exact HE.out⟩, hg⟩

end Go.Proofs.YtpgaebdaakllaaaDoor

namespace Go.Proofs.YtpgaebdaakllaaaDoor
open Go.RowKit

theorem Row.drewN {w : World} {g cap : Nat} {L : List Nat} (h : Row w g cap L) (n : Nat) : Row (w.drewN n) g cap L := h
theorem Row.same {w : World} {g cap : Nat} {L L' : List Nat} (h : Row w g cap L) (e : L = L') : Row w g cap L' := e ▸ h

set_option maxRecDepth 100000 in
set_option maxHeartbeats 6400000 in
theorem rotate_any (g off n c cap a m b : Nat) (fv : Value) (P U V Q : List Nat) (w : World) (hU : 0 < U.length) (hV : 0 < V.length) (hP : P.length = off + a) (hm : a + U.length = m) (hb : m + V.length = b) (hn : b ≤ n) (hsz : n ≤ 1000000000)
    (hrow : Row w g cap (P ++ (U ++ (V ++ Q)))) :
    Calls Tryd.prog 81 #[.slice (some ⟨g, off, none⟩) n c, .int .i64 (a : Int), .int .i64 (m : Int), .int .i64 (b : Int), fv] w fun e w' => e = .returned (.tuple #[]) ∧ Row w' g cap (P ++ (V ++ (U ++ Q))) ∧ w.grownBy w' (some g) := by
  obtain ⟨i0, hi0⟩ : ∃ i, U.length = i := ⟨_, rfl⟩
  obtain ⟨j0, hj0⟩ : ∃ j, V.length = j := ⟨_, rfl⟩
  rw [hi0] at hU hm
  rw [hj0] at hV hb
  have HI0 := Lib.hid hi0
  have HJ0 := Lib.hid hj0
  have HR0 := Lib.hid hrow
  have HP0 := Lib.hid hP
  have ea : (m : Int) - (a : Int) = (i0 : Int) := by omega
  have eb : (b : Int) - (m : Int) = (j0 : Int) := by omega
  clear hi0 hj0 hrow hP
  go_enter Tryd.func81, Tryd.ntmps81
  go_wp2
  go_loopw [10, 11] (fun s5 s6 wr => ∃ (i j : Nat) (P1 U1 V1 Q1 : List Nat), s5 = .int .i64 (i : Int) ∧ s6 = .int .i64 (j : Int) ∧ 0 < i ∧ 0 < j ∧ i ≤ m ∧ m + j ≤ b ∧ i + j ≤ i0 + j0 ∧ Hid (U1.length = i ∧ V1.length = j ∧ P1.length + i = off + m) ∧ Hid (Row wr g cap (P1 ++ (U1 ++ (V1 ++ Q1)))) ∧
    Hid (P1 ++ (V1 ++ (U1 ++ Q1)) = P ++ (V ++ (U ++ Q))) ∧ w.grownBy wr (some g)) (fun s5 s6 _ => (intOf s5).toNat + (intOf s6).toNat)
  case atStart => exact ⟨i0, j0, P, U, V, Q, rfl, rfl, hU, hV, by omega, by omega, by omega, Lib.hid ⟨HI0.out, HJ0.out, by have := HP0.out; omega⟩, HR0, Lib.hid rfl, grown_refl _ _⟩
  case round =>
    obtain ⟨i, j, P1, U1, V1, Q1, rfl, rfl, hi, hj, him, hjb, hij, HL, HR, HE, hg⟩ := hrel
    obtain ⟨k, hk⟩ : ∃ k, k = m - i := ⟨_, rfl⟩
    have ek : (m : Int) - (i : Int) = (k : Int) := by omega
    by_cases heq : i = j
    · subst heq
      have t1 : ((i : Int) != (i : Int)) = false := by simp
      have HC := Lib.hid (swapRange_any g off n c cap k m i fv P1 U1 [] V1 Q1 wr HL.out.1 HL.out.2.1 (by have := HL.out.2.2; omega) (by have := HL.out.2.2; simp; omega) (by omega) hsz HR.out)
      clear hk
      go_wp2_with fail
      try rw [ek]
      refine HC.out.mono ?_
      rintro e w2 ⟨rfl, hr2, hg2⟩
      have HR2 := Lib.hid (hr2.same (L' := P ++ (V ++ (U ++ Q))) (by rw [← HE.out]; rfl))
      have hg3 := grown_trans hg hg2
      clear hr2 hg2 hg
      go_wp2
      go_end0
      exact ⟨rfl, HR2.out, hg3⟩
    · have t1 : ((i : Int) != (j : Int)) = true := by simp; omega
      by_cases hgt : j < i
      · have t2 : decide ((j : Int) < (i : Int)) = true := by simp; omega
        obtain ⟨d, hd⟩ : ∃ d, d = i - j := ⟨_, rfl⟩
        have ed : (i : Int) - (j : Int) = (d : Int) := by omega
        have hUs : U1 = U1.take j ++ U1.drop j := (List.take_append_drop _ _).symm
        have hl1 : (U1.take j).length = j := by rw [List.length_take]; have := HL.out.1; omega
        have hl2 : (U1.drop j).length = d := by rw [List.length_drop]; have := HL.out.1; omega
        have HC := Lib.hid (swapRange_any g off n c cap k m j fv P1 (U1.take j) (U1.drop j) V1 Q1 wr hl1 HL.out.2.1 (by have := HL.out.2.2; omega) (by have := HL.out.2.2; rw [hl2]; omega) (by omega) hsz
          (HR.out.same (by conv => lhs; rw [hUs]
                           simp only [List.append_assoc])))
        have HL2 : Hid ((U1.drop j).length = d ∧ (U1.take j).length = j ∧ (P1 ++ V1).length + d = off + m) := Lib.hid ⟨hl2, hl1, by rw [List.length_append]; have := HL.out; omega⟩
        have HE2 : Hid ((P1 ++ V1) ++ (U1.take j ++ (U1.drop j ++ Q1)) = P ++ (V ++ (U ++ Q))) := Lib.hid (by
          rw [← HE.out]
          conv => rhs; rw [hUs]
          simp only [List.append_assoc])
        have hdp : 0 < d := by omega
        have hdm : d ≤ m := by omega
        have hdi : d < i := by omega
        clear hk hd hUs hl1 hl2
        go_wp2_with fail
        try rw [ek]
        refine HC.out.mono ?_
        rintro e w2 ⟨rfl, hr2, hg2⟩
        have HR2 := Lib.hid (hr2.same (L' := (P1 ++ V1) ++ (U1.drop j ++ (U1.take j ++ Q1))) (by simp))
        have hg3 := grown_trans hg hg2
        clear hr2 hg2 hg
        go_wp2
        go_roundw
        case rel => exact ⟨d, j, P1 ++ V1, U1.drop j, U1.take j, Q1, by go_num, rfl, hdp, hj, hdm, hjb, by omega, HL2, HR2, HE2, hg3⟩
        case measure => simp [intOf]; omega
      · have t2 : decide ((j : Int) < (i : Int)) = false := by simp; omega
        obtain ⟨d, hd⟩ : ∃ d, d = j - i := ⟨_, rfl⟩
        have ed : (j : Int) - (i : Int) = (d : Int) := by omega
        have ed2 : (m : Int) + (j : Int) - (i : Int) = ((m + d : Nat) : Int) := by omega
        obtain ⟨md, hmd⟩ : ∃ md, md = m + d := ⟨_, rfl⟩
        rw [← hmd] at ed2
        have hVs : V1 = V1.take d ++ V1.drop d := (List.take_append_drop _ _).symm
        have hl1 : (V1.take d).length = d := by rw [List.length_take]; have := HL.out.2.1; omega
        have hl2 : (V1.drop d).length = i := by rw [List.length_drop]; have := HL.out.2.1; omega
        have HC := Lib.hid (swapRange_any g off n c cap k md i fv P1 U1 (V1.take d) (V1.drop d) Q1 wr HL.out.1 hl2 (by have := HL.out.2.2; omega) (by have := HL.out.2.2; rw [hl1]; omega) (by omega) hsz
          (HR.out.same (by conv => lhs; rw [hVs]
                           simp only [List.append_assoc])))
        have HL2 : Hid ((V1.drop d).length = i ∧ (V1.take d).length = d ∧ P1.length + i = off + m) := Lib.hid ⟨hl2, hl1, HL.out.2.2⟩
        have HE2 : Hid (P1 ++ (V1.take d ++ (V1.drop d ++ (U1 ++ Q1))) = P ++ (V ++ (U ++ Q))) := Lib.hid (by
          rw [← HE.out]
          conv => rhs; rw [hVs]
          simp only [List.append_assoc])
        have hdp : 0 < d := by omega
        have hdm : m + d ≤ b := by omega
        have hdi : d < j := by omega
        clear hk hd hVs hl1 hl2 hmd
        go_wp2_with fail
        try rw [ek]
        try rw [ed2]
        refine HC.out.mono ?_
        rintro e w2 ⟨rfl, hr2, hg2⟩
        have HR2 := Lib.hid (hr2.same (L' := P1 ++ (V1.drop d ++ (V1.take d ++ (U1 ++ Q1)))) (by simp))
        have hg3 := grown_trans hg hg2
        clear hr2 hg2 hg
        go_wp2
        go_roundw
        case rel => exact ⟨i, d, P1, V1.drop d, V1.take d, U1 ++ Q1, rfl, by go_num, hi, hdp, him, hdm, by omega, HL2, HR2, HE2, hg3⟩
        case measure => simp [intOf]; omega

end Go.Proofs.YtpgaebdaakllaaaDoor
