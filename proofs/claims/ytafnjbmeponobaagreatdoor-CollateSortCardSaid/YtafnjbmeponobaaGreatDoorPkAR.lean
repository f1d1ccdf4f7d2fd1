/-
  The library's exchange of two parts of a row.
  The library's rotation of a part of a row.
  The program's classes of marks and the comparison by them.
  The library's insertion sort.
-/
import Derived.Test.YtafnjbmeponobaaGreatDoorPkAF
import Derived.Test.YtafnjbmeponobaaGreatDoorPkAP
import Derived.Deep.RegionWith
namespace Go.Proofs.YtafnjbmeponobaaGreatDoor
open Go.RowKit

theorem grown_set {w w' : World} {g : Nat} (h : w.grownBy w' (some g)) (i : Nat) (v : Value) : w.grownBy (w'.setCell ⟨g, i, none⟩ v) (some g) :=
  ⟨h.os, h.tape, h.output, by rw [World.size_setCell]; exact h.size, fun k hk hne => (Below.heap_setCell w' ⟨g, i, none⟩ v k (fun e => hne (by rw [e]))).trans (h.block k hk hne)⟩
theorem grown_drewN {w w' : World} {row : Option Nat} (h : w.grownBy w' row) (n : Nat) : w.grownBy (w'.drewN n) row := ⟨h.os, h.tape, h.output, h.size, h.block⟩
/-- In w, the row of block g, of cap cells, begins with L. -/
def Row (w : World) (g cap : Nat) (L : List Nat) : Prop := ∃ cu, Box w g 3 cu ∧ cu.size = cap ∧ cu.toList.take L.length = L.map nv
theorem set_mid {P R : List Value} {x y : Value} : (P ++ x :: R).set P.length y = P ++ y :: R := by
  rw [List.set_append_right _ _ (by omega)]
  simp
theorem swap_set {P M R : List Value} {x y : Value} : ((P ++ x :: (M ++ y :: R)).set P.length y).set (P.length + 1 + M.length) x = P ++ y :: (M ++ x :: R) := by
  rw [set_mid]
  have e : P ++ y :: (M ++ y :: R) = (P ++ y :: M) ++ y :: R := by simp
  have e2 : P ++ y :: (M ++ x :: R) = (P ++ y :: M) ++ x :: R := by simp
  have e3 : P.length + 1 + M.length = (P ++ y :: M).length := by simp; omega
  rw [e, e2, e3, set_mid]
theorem swap_mem {cu : Array Value} {N : Nat} {P M R : List Nat} {x y p q : Nat} (ht : cu.toList.take N = (P ++ x :: (M ++ y :: R)).map nv) (hp : p = P.length) (hq : q = P.length + 1 + M.length) :
    ((cu.setIfInBounds p (nv y)).setIfInBounds q (nv x)).toList.take N = (P ++ y :: (M ++ x :: R)).map nv := by
  subst hp hq
  rw [Array.toList_setIfInBounds, Array.toList_setIfInBounds, List.take_set, List.take_set, ht]
  simp only [List.map_append, List.map_cons]
  have := swap_set (P := P.map nv) (M := M.map nv) (R := R.map nv) (x := nv x) (y := nv y)
  simpa using this
theorem swap_mem_back {cu : Array Value} {N : Nat} {P M R : List Nat} {x y p q : Nat} (ht : cu.toList.take N = (P ++ x :: (M ++ y :: R)).map nv) (hp : p = P.length) (hq : q = P.length + 1 + M.length) :
    ((cu.setIfInBounds q (nv x)).setIfInBounds p (nv y)).toList.take N = (P ++ y :: (M ++ x :: R)).map nv := by
  have h := swap_mem ht hp hq
  have e : (cu.setIfInBounds q (nv x)).setIfInBounds p (nv y) = (cu.setIfInBounds p (nv y)).setIfInBounds q (nv x) := by
    apply Array.toList_inj.1
    rw [Array.toList_setIfInBounds, Array.toList_setIfInBounds, Array.toList_setIfInBounds, Array.toList_setIfInBounds, List.set_comm _ _ (by omega)]
  rw [e]
  exact h
theorem swap_fst {cu : Array Value} {N : Nat} {P M R : List Nat} {x y p : Nat} (ht : cu.toList.take N = (P ++ x :: (M ++ y :: R)).map nv) (hp : p = P.length) : cu[p]? = some (nv x) := take_cell ht (by subst hp; simp)
theorem swap_snd {cu : Array Value} {N : Nat} {P M R : List Nat} {x y q : Nat} (ht : cu.toList.take N = (P ++ x :: (M ++ y :: R)).map nv) (hq : q = P.length + 1 + M.length) : cu[q]? = some (nv y) := take_cell ht (by
  subst hq
  have e : P ++ x :: (M ++ y :: R) = (P ++ x :: M) ++ y :: R := by simp
  rw [e, List.getElem?_append_right (by simp; omega)]
  have : P.length + 1 + M.length - (P ++ x :: M).length = 0 := by simp; omega
  rw [this]; rfl)

set_option maxRecDepth 100000 in
set_option maxHeartbeats 6400000 in
theorem swapRange_any (g off n c cap a b m : Nat) (fv : Value) (P A M B Q : List Nat) (w : World) (hA : A.length = m) (hB : B.length = m) (hP : P.length = off + a) (hM : P.length + m + M.length = off + b) (hn : b + m ≤ n) (hsz : n ≤ 1000000000)
    (hrow : Row w g cap (P ++ (A ++ (M ++ (B ++ Q))))) :
    Calls Tryz.prog 140 #[.slice (some ⟨g, off, none⟩) n c, .int .i64 (a : Int), .int .i64 (b : Int), .int .i64 (m : Int), fv] w fun e w' => e = .returned (.tuple #[]) ∧ Row w' g cap (P ++ (B ++ (M ++ (A ++ Q)))) ∧ w.grownBy w' (some g) := by
  obtain ⟨cu0, hb0, hc0, ht0⟩ := hrow
  obtain ⟨N, hN⟩ : ∃ N, (P ++ (A ++ (M ++ (B ++ Q)))).length = N := ⟨_, rfl⟩
  rw [hN] at ht0
  have HN : Hid ((P ++ (B ++ (M ++ (A ++ Q)))).length = N) := Lib.hid (by rw [← hN]; simp; omega)
  have HT0 := Lib.hid ht0
  have HAl := Lib.hid hA
  have HBl := Lib.hid hB
  have HPl := Lib.hid hP
  have HMl := Lib.hid hM
  clear hN ht0 hA hB hP hM
  go_enter Tryz.func140, Tryz.ntmps140
  go_wp2
  go_loopw [10] (fun s wr => ∃ (k : Nat) (cu : Array Value), k ≤ m ∧ s = .int .i64 (k : Int) ∧ Box wr g 3 cu ∧ cu.size = cap ∧ Hid (cu.toList.take N = (P ++ (B.take k ++ (A.drop k ++ (M ++ (A.take k ++ (B.drop k ++ Q)))))).map nv) ∧ w.grownBy wr (some g)) (fun s _ => m - (intOf s).toNat)
  case atStart => exact ⟨0, cu0, by omega, rfl, hb0, hc0, Lib.hid (by simpa using HT0.out), grown_refl _ _⟩
  case round =>
    obtain ⟨k, cu, hk, rfl, hb, hcs, HT, hg⟩ := hrel
    by_cases hlt : k < m
    · have t1 : decide ((k : Int) < (m : Int)) = true := by simp; omega
      obtain ⟨x, hx⟩ := get_some (l := A) (i := k) (by have := HAl.out; omega)
      obtain ⟨y, hy⟩ := get_some (l := B) (i := k) (by have := HBl.out; omega)
      obtain ⟨p, hp⟩ : ∃ p, p = a + k := ⟨_, rfl⟩
      obtain ⟨q, hq⟩ : ∃ q, q = b + k := ⟨_, rfl⟩
      have ep : (a : Int) + (k : Int) = (p : Int) := by omega
      have eq : (b : Int) + (k : Int) = (q : Int) := by omega
      have hAk : A.drop k = x :: A.drop (k + 1) := by
        obtain ⟨h1, h2⟩ := List.getElem?_eq_some_iff.1 hx
        rw [List.drop_eq_getElem_cons h1, h2]
      have hBk : B.drop k = y :: B.drop (k + 1) := by
        obtain ⟨h1, h2⟩ := List.getElem?_eq_some_iff.1 hy
        rw [List.drop_eq_getElem_cons h1, h2]
      have hT1 : cu.toList.take N = ((P ++ B.take k) ++ x :: ((A.drop (k + 1) ++ M ++ A.take k) ++ y :: (B.drop (k + 1) ++ Q))).map nv := by
        rw [HT.out, hAk, hBk]; simp
      have l1 := HAl.out
      have l2 := HBl.out
      have l3 := HPl.out
      have l4 := HMl.out
      have hpl : off + p = (P ++ B.take k).length := by rw [List.length_append, List.length_take]; omega
      have hql : off + q = (P ++ B.take k).length + 1 + (A.drop (k + 1) ++ M ++ A.take k).length := by
        rw [List.length_append, List.length_append, List.length_append, List.length_take, List.length_take, List.length_drop]; omega
      have hpq : p < q := by omega
      have hqn : q < n := by omega
      have HS : Hid (((cu.setIfInBounds (off + p) (nv y)).setIfInBounds (off + q) (nv x)).toList.take N = (P ++ (B.take (k + 1) ++ (A.drop (k + 1) ++ (M ++ (A.take (k + 1) ++ (B.drop (k + 1) ++ Q)))))).map nv) := Lib.hid (by
        rw [swap_mem hT1 hpl hql, take_next hx, take_next hy]; simp)
      have d0 : wr.cell? ⟨g, off + p, none⟩ = some (.int .i64 (x : Int)) := (hb.cell _).trans (swap_fst hT1 hpl)
      have d1 : wr.cell? ⟨g, off + q, none⟩ = some (.int .i64 (y : Int)) := (hb.cell _).trans (swap_snd hT1 hql)
      have f0 : wr.frozen? ⟨g, off + p, none⟩ = false := hb.free _
      have f1 : wr.frozen? ⟨g, off + q, none⟩ = false := hb.free _
      have z0 : (p : Int) < (n : Int) := by omega
      have z1 : (q : Int) < (n : Int) := by omega
      have hne : off + p ≠ off + q := by omega
      clear hx hy hAk hBk hT1 l1 l2 l3 l4 hpl hql hp hq
      go_wp2
      go_region
      all_goals
        go_wp2
        go_roundw
        case rel => exact ⟨k + 1, _, by omega, by go_num, ((hb.drewN _).put (off + p) (nv y)).put (off + q) (nv x), by simp [hcs], HS, grown_set (grown_set (grown_drewN hg _) _ _) _ _⟩
        case measure => simp [intOf]; omega
    · obtain rfl : k = m := by omega
      have HE : Hid (cu.toList.take N = (P ++ (B ++ (M ++ (A ++ Q)))).map nv) := Lib.hid (by
        rw [HT.out, List.take_of_length_le (Nat.le_of_eq HAl.out), List.take_of_length_le (Nat.le_of_eq HBl.out), List.drop_of_length_le (Nat.le_of_eq HAl.out), List.drop_of_length_le (Nat.le_of_eq HBl.out)]; simp)
      go_wp2
      go_end0
      exact ⟨rfl, ⟨cu, hb, hcs, by rw [HN.out]; exact HE.out⟩, hg⟩

end Go.Proofs.YtafnjbmeponobaaGreatDoor

namespace Go.Proofs.YtafnjbmeponobaaGreatDoor
open Go.RowKit

theorem Row.drewN {w : World} {g cap : Nat} {L : List Nat} (h : Row w g cap L) (n : Nat) : Row (w.drewN n) g cap L := h
theorem Row.same {w : World} {g cap : Nat} {L L' : List Nat} (h : Row w g cap L) (e : L = L') : Row w g cap L' := e ▸ h

set_option maxRecDepth 100000 in
set_option maxHeartbeats 6400000 in
theorem rotate_any (g off n c cap a m b : Nat) (fv : Value) (P U V Q : List Nat) (w : World) (hU : 0 < U.length) (hV : 0 < V.length) (hP : P.length = off + a) (hm : a + U.length = m) (hb : m + V.length = b) (hn : b ≤ n) (hsz : n ≤ 1000000000)
    (hrow : Row w g cap (P ++ (U ++ (V ++ Q)))) :
    Calls Tryz.prog 138 #[.slice (some ⟨g, off, none⟩) n c, .int .i64 (a : Int), .int .i64 (m : Int), .int .i64 (b : Int), fv] w fun e w' => e = .returned (.tuple #[]) ∧ Row w' g cap (P ++ (V ++ (U ++ Q))) ∧ w.grownBy w' (some g) := by
  obtain ⟨i0, hi0⟩ : ∃ i, U.length = i := ⟨_, rfl⟩
  obtain ⟨j0, hj0⟩ : ∃ j, V.length = j := ⟨_, rfl⟩
  rw [hi0] at hU hm
  rw [hj0] at hV hb
  have HI0 := Lib.hid hi0
  have HJ0 := Lib.hid hj0
  have HR0 := Lib.hid hrow
  have HP0 := Lib.hid hP
  have ea : (m : Int) - (a : Int) = (i0 : Int) := by omega
  have eb : (b : Int) - (m : Int) = (j0 : Int) := by omega
  clear hi0 hj0 hrow hP
  go_enter Tryz.func138, Tryz.ntmps138
  go_wp2
  go_loopw [10, 11] (fun s5 s6 wr => ∃ (i j : Nat) (P1 U1 V1 Q1 : List Nat), s5 = .int .i64 (i : Int) ∧ s6 = .int .i64 (j : Int) ∧ 0 < i ∧ 0 < j ∧ i ≤ m ∧ m + j ≤ b ∧ i + j ≤ i0 + j0 ∧ Hid (U1.length = i ∧ V1.length = j ∧ P1.length + i = off + m) ∧ Hid (Row wr g cap (P1 ++ (U1 ++ (V1 ++ Q1)))) ∧
    Hid (P1 ++ (V1 ++ (U1 ++ Q1)) = P ++ (V ++ (U ++ Q))) ∧ w.grownBy wr (some g)) (fun s5 s6 _ => (intOf s5).toNat + (intOf s6).toNat)
  case atStart => exact ⟨i0, j0, P, U, V, Q, rfl, rfl, hU, hV, by omega, by omega, by omega, Lib.hid ⟨HI0.out, HJ0.out, by have := HP0.out; omega⟩, HR0, Lib.hid rfl, grown_refl _ _⟩
  case round =>
    obtain ⟨i, j, P1, U1, V1, Q1, rfl, rfl, hi, hj, him, hjb, hij, HL, HR, HE, hg⟩ := hrel
    obtain ⟨k, hk⟩ : ∃ k, k = m - i := ⟨_, rfl⟩
    have ek : (m : Int) - (i : Int) = (k : Int) := by omega
    by_cases heq : i = j
    · subst heq
      have t1 : ((i : Int) != (i : Int)) = false := by simp
      have HC := Lib.hid (swapRange_any g off n c cap k m i fv P1 U1 [] V1 Q1 wr HL.out.1 HL.out.2.1 (by have := HL.out.2.2; omega) (by have := HL.out.2.2; simp; omega) (by omega) hsz HR.out)
      clear hk
      go_wp2_with fail
      try rw [ek]
      refine HC.out.mono ?_
      rintro e w2 ⟨rfl, hr2, hg2⟩
      have HR2 := Lib.hid (hr2.same (L' := P ++ (V ++ (U ++ Q))) (by rw [← HE.out]; rfl))
      have hg3 := grown_trans hg hg2
      clear hr2 hg2 hg
      go_wp2
      go_end0
      exact ⟨rfl, HR2.out, hg3⟩
    · have t1 : ((i : Int) != (j : Int)) = true := by simp; omega
      by_cases hgt : j < i
      · have t2 : decide ((j : Int) < (i : Int)) = true := by simp; omega
        obtain ⟨d, hd⟩ : ∃ d, d = i - j := ⟨_, rfl⟩
        have ed : (i : Int) - (j : Int) = (d : Int) := by omega
        have hUs : U1 = U1.take j ++ U1.drop j := (List.take_append_drop _ _).symm
        have hl1 : (U1.take j).length = j := by rw [List.length_take]; have := HL.out.1; omega
        have hl2 : (U1.drop j).length = d := by rw [List.length_drop]; have := HL.out.1; omega
        have HC := Lib.hid (swapRange_any g off n c cap k m j fv P1 (U1.take j) (U1.drop j) V1 Q1 wr hl1 HL.out.2.1 (by have := HL.out.2.2; omega) (by have := HL.out.2.2; rw [hl2]; omega) (by omega) hsz
          (HR.out.same (by conv => lhs; rw [hUs]
                           simp only [List.append_assoc])))
        have HL2 : Hid ((U1.drop j).length = d ∧ (U1.take j).length = j ∧ (P1 ++ V1).length + d = off + m) := Lib.hid ⟨hl2, hl1, by rw [List.length_append]; have := HL.out; omega⟩
        have HE2 : Hid ((P1 ++ V1) ++ (U1.take j ++ (U1.drop j ++ Q1)) = P ++ (V ++ (U ++ Q))) := Lib.hid (by
          rw [← HE.out]
          conv => rhs; rw [hUs]
          simp only [List.append_assoc])
        have hdp : 0 < d := by omega
        have hdm : d ≤ m := by omega
        have hdi : d < i := by omega
        clear hk hd hUs hl1 hl2
        go_wp2_with fail
        try rw [ek]
        refine HC.out.mono ?_
        rintro e w2 ⟨rfl, hr2, hg2⟩
        have HR2 := Lib.hid (hr2.same (L' := (P1 ++ V1) ++ (U1.drop j ++ (U1.take j ++ Q1))) (by simp))
        have hg3 := grown_trans hg hg2
        clear hr2 hg2 hg
        go_wp2
        go_roundw
        case rel => exact ⟨d, j, P1 ++ V1, U1.drop j, U1.take j, Q1, by go_num, rfl, hdp, hj, hdm, hjb, by omega, HL2, HR2, HE2, hg3⟩
        case measure => simp [intOf]; omega
      · have t2 : decide ((j : Int) < (i : Int)) = false := by simp; omega
        obtain ⟨d, hd⟩ : ∃ d, d = j - i := ⟨_, rfl⟩
        have ed : (j : Int) - (i : Int) = (d : Int) := by omega
        have ed2 : (m : Int) + (j : Int) - (i : Int) = ((m + d : Nat) : Int) := by omega
        obtain ⟨md, hmd⟩ : ∃ md, md = m + d := ⟨_, rfl⟩
        rw [← hmd] at ed2
        have hVs : V1 = V1.take d ++ V1.drop d := (List.take_append_drop _ _).symm
        have hl1 : (V1.take d).length = d := by rw [List.length_take]; have := HL.out.2.1; omega
        have hl2 : (V1.drop d).length = i := by rw [List.length_drop]; have := HL.out.2.1; omega
        have HC := Lib.hid (swapRange_any g off n c cap k md i fv P1 U1 (V1.take d) (V1.drop d) Q1 wr HL.out.1 hl2 (by have := HL.out.2.2; omega) (by have := HL.out.2.2; rw [hl1]; omega) (by omega) hsz
          (HR.out.same (by conv => lhs; rw [hVs]
                           simp only [List.append_assoc])))
        have HL2 : Hid ((V1.drop d).length = i ∧ (V1.take d).length = d ∧ P1.length + i = off + m) := Lib.hid ⟨hl2, hl1, HL.out.2.2⟩
        have HE2 : Hid (P1 ++ (V1.take d ++ (V1.drop d ++ (U1 ++ Q1))) = P ++ (V ++ (U ++ Q))) := Lib.hid (by
          rw [← HE.out]
          conv => rhs; rw [hVs]
          simp only [List.append_assoc])
        have hdp : 0 < d := by omega
        have hdm : m + d ≤ b := by omega
        have hdi : d < j := by omega
        clear hk hd hVs hl1 hl2 hmd
        go_wp2_with fail
        try rw [ek]
        try rw [ed2]
        refine HC.out.mono ?_
        rintro e w2 ⟨rfl, hr2, hg2⟩
        have HR2 := Lib.hid (hr2.same (L' := P1 ++ (V1.drop d ++ (V1.take d ++ (U1 ++ Q1)))) (by simp))
        have hg3 := grown_trans hg hg2
        clear hr2 hg2 hg
        go_wp2
        go_roundw
        case rel => exact ⟨i, d, P1, V1.drop d, V1.take d, U1 ++ Q1, rfl, by go_num, hi, hdp, him, hdm, by omega, HL2, HR2, HE2, hg3⟩
        case measure => simp [intOf]; omega

end Go.Proofs.YtafnjbmeponobaaGreatDoor

namespace Go.Proofs.YtafnjbmeponobaaGreatDoor
open Go.RowKit

/-- The class of a mark, as the program asks it (3 for what is no mark). -/
def pcl (c : Nat) : Nat := if c = 807 then 1 else if c = 808 then 1 else if c = 803 then 2 else 3
def cmpN (x y : Nat) : Int := if x < y then -1 else if y < x then 1 else 0
theorem cmpN_neg {x y : Nat} (h : x < y) : decide (cmpN x y < 0) = true := by unfold cmpN; rw [if_pos h]; rfl
theorem cmpN_pos {x y : Nat} (h : ¬ x < y) : decide (cmpN x y < 0) = false := by
  unfold cmpN
  rw [if_neg h]
  split <;> rfl

set_option maxRecDepth 20000 in
set_option maxHeartbeats 1600000 in
theorem prCls_any (c : Nat) (w : World) :
    Calls Tryz.prog 117 #[.int .i64 (c : Int)] w fun e w' => e = .returned (.int .i64 (pcl c : Int)) ∧ w' = w := by
  obtain ⟨R, hR⟩ : ∃ R, pcl c = R := ⟨_, rfl⟩
  rw [hR]
  unfold pcl at hR
  by_cases h1 : c = 807
  · have t1 : ((c : Int) == 807) = true := eqb_true (by omega)
    have HE : Hid (R = 1) := Lib.hid (by rw [← hR, if_pos h1])
    clear hR h1
    go_enter Tryz.func117, Tryz.ntmps117
    go_wp2
    go_ret
    rw [HE.out]
    exact ⟨rfl, rfl⟩
  have t1 : ((c : Int) == 807) = false := eqb_false (by omega)
  rw [if_neg h1] at hR
  by_cases h2 : c = 808
  · have t2 : ((c : Int) == 808) = true := eqb_true (by omega)
    have HE : Hid (R = 1) := Lib.hid (by rw [← hR, if_pos h2])
    clear hR h1 h2
    go_enter Tryz.func117, Tryz.ntmps117
    go_wp2
    go_ret
    rw [HE.out]
    exact ⟨rfl, rfl⟩
  have t2 : ((c : Int) == 808) = false := eqb_false (by omega)
  rw [if_neg h2] at hR
  by_cases h3 : c = 803
  · have t3 : ((c : Int) == 803) = true := eqb_true (by omega)
    have HE : Hid (R = 2) := Lib.hid (by rw [← hR, if_pos h3])
    clear hR h1 h2 h3
    go_enter Tryz.func117, Tryz.ntmps117
    go_wp2
    go_ret
    rw [HE.out]
    exact ⟨rfl, rfl⟩
  · have t3 : ((c : Int) == 803) = false := eqb_false (by omega)
    have HE : Hid (R = 3) := Lib.hid (by rw [← hR, if_neg h3])
    clear hR h1 h2 h3
    go_enter Tryz.func117, Tryz.ntmps117
    go_wp2
    go_ret
    rw [HE.out]
    exact ⟨rfl, rfl⟩

set_option maxRecDepth 20000 in
set_option maxHeartbeats 1600000 in
theorem isNaN_any (c : Nat) (w : World) :
    Calls Tryz.prog 127 #[.int .i64 (c : Int)] w fun e w' => e = .returned (.bool false) ∧ w' = w := by
  have t1 : ((c : Int) != (c : Int)) = false := by simp
  go_enter Tryz.func127, Tryz.ntmps127
  go_wp2
  go_ret
  exact ⟨by simp, rfl⟩

set_option maxRecDepth 20000 in
set_option maxHeartbeats 1600000 in
theorem compare_any (x y : Nat) (w : World) :
    Calls Tryz.prog 116 #[.int .i64 (x : Int), .int .i64 (y : Int)] w fun e w' => e = .returned (.int .i64 (cmpN x y)) ∧ w' = w := by
  obtain ⟨R, hR⟩ : ∃ R, cmpN x y = R := ⟨_, rfl⟩
  rw [hR]
  unfold cmpN at hR
  have HX := Lib.hid (fun W => isNaN_any x W)
  have HY := Lib.hid (fun W => isNaN_any y W)
  by_cases h1 : x < y
  · have t1 : decide (x < y) = true := by simpa using h1
    have HE : Hid (R = -1) := Lib.hid (by rw [← hR, if_pos h1])
    clear hR h1
    go_enter Tryz.func116, Tryz.ntmps116
    go_wp2_with fail
    refine (HX.out _).mono ?_
    rintro e w1 ⟨rfl, rfl⟩
    go_wp2_with fail
    refine (HY.out _).mono ?_
    rintro e w1 ⟨rfl, rfl⟩
    go_wp2
    go_ret
    rw [HE.out]
    exact ⟨rfl, rfl⟩
  have t1 : decide (x < y) = false := by simpa using h1
  rw [if_neg h1] at hR
  by_cases h2 : y < x
  · have t2 : decide (y < x) = true := by simpa using h2
    have HE : Hid (R = 1) := Lib.hid (by rw [← hR, if_pos h2])
    clear hR h1 h2
    go_enter Tryz.func116, Tryz.ntmps116
    go_wp2_with fail
    refine (HX.out _).mono ?_
    rintro e w1 ⟨rfl, rfl⟩
    go_wp2_with fail
    refine (HY.out _).mono ?_
    rintro e w1 ⟨rfl, rfl⟩
    go_wp2
    go_ret
    rw [HE.out]
    exact ⟨rfl, rfl⟩
  · have t2 : decide (y < x) = false := by simpa using h2
    have HE : Hid (R = 0) := Lib.hid (by rw [← hR, if_neg h2])
    clear hR h1 h2
    go_enter Tryz.func116, Tryz.ntmps116
    go_wp2_with fail
    refine (HX.out _).mono ?_
    rintro e w1 ⟨rfl, rfl⟩
    go_wp2_with fail
    refine (HY.out _).mono ?_
    rintro e w1 ⟨rfl, rfl⟩
    go_wp2
    go_ret
    rw [HE.out]
    exact ⟨rfl, rfl⟩

/-- The comparison that the program hands to the sort. -/
def cmpV : Value := .func (.func 115) #[] #[]
set_option maxRecDepth 20000 in
set_option maxHeartbeats 1600000 in
theorem byClass_any (x y : Nat) (w : World) :
    Calls Tryz.prog 115 #[.int .i64 (x : Int), .int .i64 (y : Int)] w fun e w' => e = .returned (.int .i64 (cmpN (pcl x) (pcl y))) ∧ ∃ q, w' = w.drewN q := by
  have HX := Lib.hid (fun W => prCls_any x W)
  have HY := Lib.hid (fun W => prCls_any y W)
  have HC := Lib.hid (fun W => compare_any (pcl x) (pcl y) W)
  obtain ⟨a, ha⟩ : ∃ a, pcl x = a := ⟨_, rfl⟩
  obtain ⟨b, hb⟩ : ∃ b, pcl y = b := ⟨_, rfl⟩
  rw [ha] at HX HC ⊢
  rw [hb] at HY HC ⊢
  obtain ⟨K, hK⟩ : ∃ K, cmpN a b = K := ⟨_, rfl⟩
  rw [hK] at HC ⊢
  clear ha hb hK
  go_enter Tryz.func115, Tryz.ntmps115
  go_wp2_with fail
  refine (HX.out _).mono ?_
  rintro e w1 ⟨rfl, rfl⟩
  go_wp2_with fail
  refine (HY.out _).mono ?_
  rintro e w1 ⟨rfl, rfl⟩
  go_wp2_with fail
  refine (HC.out _).mono ?_
  rintro e w1 ⟨rfl, rfl⟩
  go_wp2
  go_ret
  exact ⟨rfl, 0, rfl⟩

end Go.Proofs.YtafnjbmeponobaaGreatDoor

namespace Go.Proofs.YtafnjbmeponobaaGreatDoor
open Go.RowKit

section
variable {cl : Nat → Nat}
theorem Srtd.then_ {l r m m' : List Nat} (h : Srtd cl l m) (h2 : Srtd cl (m ++ r) m') : Srtd cl (l ++ r) m' := ⟨h2.1, (h.2.app (Stab.refl r)).trans h2.2⟩
theorem asc_short {l : List Nat} (h : l.length ≤ 1) : Asc cl l := by
  match l, h with
  | [], _ => exact asc_nil
  | [x], _ => exact asc_one x
theorem asc_last {S : List Nat} {x y : Nat} (h : Asc cl (S ++ [x])) (hx : cl x ≤ cl y) : ∀ u ∈ S ++ [x], cl u ≤ cl y := by
  intro u hu
  rcases List.mem_append.1 hu with hu | hu
  · have := (asc_app.1 h).2.2 u hu x (List.mem_singleton.2 rfl)
    omega
  · rw [List.mem_singleton.1 hu]; exact hx
end

set_option maxRecDepth 100000 in
set_option maxHeartbeats 6400000 in
theorem insertion_any (g off n c cap a b : Nat) (P U Q : List Nat) (w : World) (hP : P.length = off + a) (hb : a + U.length = b) (hn : b ≤ n) (hsz : n ≤ 1000000000)
    (hrow : Row w g cap (P ++ (U ++ Q))) :
    Calls Tryz.prog 132 #[.slice (some ⟨g, off, none⟩) n c, .int .i64 (a : Int), .int .i64 (b : Int), cmpV] w fun e w' => e = .returned (.tuple #[]) ∧ ∃ M, Srtd pcl U M ∧ Row w' g cap (P ++ (M ++ Q)) ∧ w.grownBy w' (some g) := by
  unfold cmpV
  obtain ⟨N, hN⟩ : ∃ N, U.length = N := ⟨_, rfl⟩
  rw [hN] at hb
  have HUl := Lib.hid hN
  have HPl := Lib.hid hP
  have HR0 := Lib.hid hrow
  clear hN hP hrow
  go_enter Tryz.func132, Tryz.ntmps132
  go_wp2
  go_loopw [8] (fun s wr => ∃ (i k : Nat) (S : List Nat), s = .int .i64 (i : Int) ∧ Hid (i = a + k) ∧ 1 ≤ k ∧ (k ≤ N ∨ k = 1) ∧ Hid (Srtd pcl (U.take k) S) ∧ Hid (Row wr g cap (P ++ (S ++ (U.drop k ++ Q)))) ∧ w.grownBy wr (some g)) (fun s _ => b - (intOf s).toNat)
  case atStart => exact ⟨a + 1, 1, U.take 1, by go_num, Lib.hid rfl, by omega, .inr rfl, Lib.hid (Srtd.self (asc_short (by rw [List.length_take]; omega))), Lib.hid (HR0.out.same (by rw [← List.append_assoc (U.take 1), List.take_append_drop])), grown_refl _ _⟩
  case round =>
    obtain ⟨i, k, S, rfl, Hik, hk1, hkN, HS, HR, hg⟩ := hrel
    by_cases hlt : i < b
    · have t1 : decide ((i : Int) < (b : Int)) = true := by simp; omega
      have hkN : k < N := by have := Hik.out; omega
      obtain ⟨y, hy⟩ := get_some (l := U) (i := k) (by have := HUl.out; omega)
      have hUk : U.drop k = y :: U.drop (k + 1) := by
        obtain ⟨h1, h2⟩ := List.getElem?_eq_some_iff.1 hy
        rw [List.drop_eq_getElem_cons h1, h2]
      have hSl : S.length = k := by rw [HS.out.length, List.length_take]; have := HUl.out; omega
      have HTake := Lib.hid (take_next hy)
      have HSl := Lib.hid hSl
      have HR1 : Hid (Row wr g cap (P ++ (S ++ y :: ([] ++ (U.drop (k + 1) ++ Q))))) := Lib.hid (HR.out.same (by rw [hUk]; simp))
      have HK : Hid (∀ S1 S2 w', S = S1 ++ S2 → (∀ u ∈ S1, pcl u ≤ pcl y) → (∀ u ∈ S2, pcl y < pcl u) → Row w' g cap (P ++ (S1 ++ y :: (S2 ++ (U.drop (k + 1) ++ Q)))) →
          ∃ S', Srtd pcl (U.take (k + 1)) S' ∧ Row w' g cap (P ++ (S' ++ (U.drop (k + 1) ++ Q)))) := Lib.hid (by
        intro S1 S2 w' hS h1 h2 hr
        refine ⟨S1 ++ y :: S2, ?_, hr.same (by simp)⟩
        rw [HTake.out]
        refine HS.out.then_ ?_
        rw [hS]
        exact srt_right (by rw [← hS]; exact HS.out.1) h1 h2)
      clear hUk hy hSl HR HR0
      go_wp2
      go_loopw [9] (fun s wr2 => ∃ (j : Nat) (S1 S2 : List Nat), s = .int .i64 (j : Int) ∧ Hid (S = S1 ++ S2) ∧ Hid (j = a + S1.length) ∧ j ≤ i ∧ Hid (∀ u ∈ S2, pcl y < pcl u) ∧ Hid (Row wr2 g cap (P ++ (S1 ++ y :: (S2 ++ (U.drop (k + 1) ++ Q))))) ∧ w.grownBy wr2 (some g)) (fun s _ => (intOf s).toNat)
      case atStart => exact ⟨i, S, [], rfl, Lib.hid (by simp), Lib.hid (by rw [HSl.out]; exact Hik.out), Nat.le_refl _, Lib.hid (by simp), HR1, hg⟩
      case round =>
        obtain ⟨j, S1, S2, rfl, HSS, Hjl, hji, HG, HR2, hg2⟩ := hrel
        have hjl := Hjl.out
        by_cases hj0 : a < j
        · have t2 : decide ((a : Int) < (j : Int)) = true := by simp; omega
          have t2' : decide (a < j) = true := by simpa using hj0
          have hne : S1 ≠ [] := fun e => by rw [e] at hjl; simp at hjl; omega
          obtain ⟨S0, x, hS1⟩ : ∃ S0 x, S1 = S0 ++ [x] := ⟨S1.dropLast, S1.getLast hne, (List.dropLast_concat_getLast hne).symm⟩
          subst hS1
          obtain ⟨p, rfl⟩ : ∃ p, j = p + 1 := ⟨j - 1, by omega⟩
          have ep : ((p + 1 : Nat) : Int) - 1 = (p : Int) := by omega
          have g1 : decide ((p : Int) + 1 > (a : Int)) = true := decide_eq_true (by omega)
          have g2 : decide ((a : Int) < (p : Int) + 1) = true := decide_eq_true (by omega)
          have g3 : decide (a < p + 1) = true := decide_eq_true (by omega)
          have g4 : decide (a ≤ p) = true := decide_eq_true (by omega)
          have g5 : (a : Int) < (p : Int) + 1 := by omega
          have hS0 : S0.length + a = p := by rw [List.length_append, List.length_singleton] at hjl; omega
          have l3 := HPl.out
          obtain ⟨cu, hb1, hcs, hT⟩ := HR2.out
          obtain ⟨NN, hNN⟩ : ∃ NN, (P ++ (S0 ++ [x] ++ y :: (S2 ++ (U.drop (k + 1) ++ Q)))).length = NN := ⟨_, rfl⟩
          have HNN : Hid ((P ++ (S0 ++ y :: ((x :: S2) ++ (U.drop (k + 1) ++ Q)))).length = NN) := Lib.hid (by rw [← hNN]; simp)
          rw [hNN] at hT
          have hT1 : cu.toList.take NN = ((P ++ S0) ++ x :: ([] ++ y :: (S2 ++ (U.drop (k + 1) ++ Q)))).map nv := by rw [hT]; simp
          have hpl : off + p = (P ++ S0).length := by rw [List.length_append]; omega
          have hql : off + (p + 1) = (P ++ S0).length + 1 + ([] : List Nat).length := by rw [List.length_append, List.length_nil]; omega
          have dx : wr.cell? ⟨g, off + p, none⟩ = some (.int .i64 (x : Int)) := (hb1.cell _).trans (swap_fst hT1 hpl)
          have dy : wr.cell? ⟨g, off + (p + 1), none⟩ = some (.int .i64 (y : Int)) := (hb1.cell _).trans (swap_snd hT1 hql)
          have z0 : (p : Int) < (n : Int) := by omega
          have z1 : ((p + 1 : Nat) : Int) < (n : Int) := by omega
          have HC := Lib.hid (fun W => byClass_any y x W)
          obtain ⟨K, hK⟩ : ∃ K, cmpN (pcl y) (pcl x) = K := ⟨_, rfl⟩
          rw [hK] at HC
          by_cases hyx : pcl y < pcl x
          · have t3 : decide (K < 0) = true := by rw [← hK]; exact cmpN_neg hyx
            have HG2 : Hid (∀ u ∈ x :: S2, pcl y < pcl u) := Lib.hid fun u hu => by
              rcases List.mem_cons.1 hu with rfl | hu
              · exact hyx
              · exact HG.out u hu
            have HSS2 : Hid (S = S0 ++ x :: S2) := Lib.hid (by rw [HSS.out]; simp)
            have HSw : Hid (((cu.setIfInBounds (off + (p + 1)) (nv x)).setIfInBounds (off + p) (nv y)).toList.take NN = (P ++ (S0 ++ y :: ((x :: S2) ++ (U.drop (k + 1) ++ Q)))).map nv) := Lib.hid (by
              rw [swap_mem_back hT1 hpl hql]; simp)
            have f0 : wr.frozen? ⟨g, off + p, none⟩ = false := hb1.free _
            have f1 : wr.frozen? ⟨g, off + (p + 1), none⟩ = false := hb1.free _
            have hne2 : off + p ≠ off + (p + 1) := by omega
            have hpj : p < p + 1 := by omega
            have hpi : p ≤ i := by omega
            have HpS : Hid (p = a + S0.length) := Lib.hid (by omega)
            clear hK hyx hT hT1 hpl hql hne hjl hNN HR2 l3 hS0
            go_wp2
            go_big_quiet (first | (go_at_call_of 115 y; exact Calls.quiet_of (HC.out _)))
            go_wp2
            go_region
            all_goals
              go_wp2
              go_roundw
              case rel => exact ⟨p, S0, x :: S2, by go_num, HSS2, HpS, hpi, HG2, Lib.hid ⟨_, ((hb1.drewN _).put (off + (p + 1)) (nv x)).put (off + p) (nv y), by simp [hcs], by rw [HNN.out]; exact HSw.out⟩, grown_set (grown_set (grown_drewN hg2 _) _ _) _ _⟩
              case measure => first | (simp [intOf]; done) | (simp [intOf]; omega)
          · have t3 : decide (K < 0) = false := by rw [← hK]; exact cmpN_pos hyx
            have HE : Hid (∃ S', Srtd pcl (U.take (k + 1)) S' ∧ Row wr g cap (P ++ (S' ++ (U.drop (k + 1) ++ Q)))) := Lib.hid (HK.out (S0 ++ [x]) S2 wr HSS.out (asc_last (by have := HS.out.1; rw [HSS.out] at this; exact (asc_app.1 this).1) (by omega)) HG.out HR2.out)
            clear hK hyx hT hT1 hpl hql hne hjl hNN l3 hS0
            go_wp2
            go_big_quiet (first | (go_at_call_of 115 y; exact Calls.quiet_of (HC.out _)))
            go_wp2
            go_roundw
            case rel =>
              obtain ⟨S', e1, e2⟩ := HE.out
              exact ⟨i + 1, k + 1, S', by go_num, Lib.hid (by have := Hik.out; omega), by omega, .inl (by omega), Lib.hid e1, Lib.hid (e2.drewN _), grown_drewN hg2 _⟩
            case measure => simp [intOf]; omega
        · have t2 : decide ((a : Int) < (j : Int)) = false := by simp; omega
          have t2' : decide (a < j) = false := by simpa using hj0
          have hS1 : S1 = [] := List.length_eq_zero_iff.1 (by omega)
          have HE : Hid (∃ S', Srtd pcl (U.take (k + 1)) S' ∧ Row wr g cap (P ++ (S' ++ (U.drop (k + 1) ++ Q)))) := Lib.hid (HK.out S1 S2 wr HSS.out (by rw [hS1]; simp) HG.out HR2.out)
          clear hS1 hj0 hjl
          go_wp2
          go_big_quiet (fail)
          go_wp2
          go_roundw
          case rel =>
            obtain ⟨S', e1, e2⟩ := HE.out
            exact ⟨i + 1, k + 1, S', by go_num, Lib.hid (by have := Hik.out; omega), by omega, .inl (by omega), Lib.hid e1, Lib.hid (e2.drewN _), grown_drewN hg2 _⟩
          case measure => simp [intOf]; omega
    · have HE : Hid (Srtd pcl U S ∧ Row wr g cap (P ++ (S ++ Q))) := Lib.hid (by
        have h3 := Hik.out
        have h1 := HS.out
        have h2 := HR.out
        rw [List.take_of_length_le (by rw [HUl.out]; omega)] at h1
        rw [List.drop_of_length_le (by rw [HUl.out]; omega)] at h2
        exact ⟨h1, h2⟩)
      go_wp2
      go_end0
      exact ⟨rfl, S, HE.out.1, HE.out.2, hg⟩

end Go.Proofs.YtafnjbmeponobaaGreatDoor
