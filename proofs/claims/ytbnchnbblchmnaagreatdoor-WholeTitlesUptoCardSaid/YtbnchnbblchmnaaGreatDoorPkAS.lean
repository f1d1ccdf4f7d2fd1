/-
  The program's isMark and appendParts.
  The library's exchange of two parts of a row.
  The library's rotation of a part of a row.
  The program's classes of marks and the comparison by them.
-/
import Derived.Test.YtbnchnbblchmnaaGreatDoorPkAR
import Derived.Test.YtbnchnbblchmnaaGreatDoorPkAH
import Derived.Test.YtbnchnbblchmnaaGreatDoorPkAQ
import Derived.Deep.RegionWith
namespace Go.Proofs.YtbnchnbblchmnaaGreatDoor
open Go.RowKit

theorem isM_kindP (c : Nat) : isM c = decide ((clsR (c : Int)).2 = 2) := by
  by_cases h : (clsR (c : Int)).2 = 2
  · rw [decide_eq_true h]
    have hk : (clsF c).2 = 2 := by rw [← clsF_eq]; exact h
    unfold isM
    rw [Nat.blt_eq]
    exact mark_pos (kind_mark hk)
  · rw [decide_eq_false h]
    unfold isM
    rw [← Bool.not_eq_true, Nat.blt_eq]
    have hk : clM c = 0 := by
      unfold clM kindR
      rw [if_neg h]
    omega

set_option maxRecDepth 20000 in
set_option maxHeartbeats 1600000 in
theorem prIsMark_any (c : Nat) (w : World) (hS : Spans w) :
    Calls Tryz.prog 145 #[.int .i64 (c : Int)] w fun e w' => e = .returned (.bool (isM c)) ∧ Below w.heap.size w w' := by
  have hcl := prClass_any (c : Int) w hS
  obtain ⟨a, ha⟩ : ∃ a, a = (clsR (c : Int)).1 := ⟨_, rfl⟩
  obtain ⟨k, hk⟩ : ∃ k, k = (clsR (c : Int)).2 := ⟨_, rfl⟩
  rw [← ha, ← hk] at hcl
  have HC := Lib.hid hcl
  have HB : Hid (isM c = ((k : Int) == 2)) := Lib.hid (by
    rw [isM_kindP, hk]
    by_cases h : (clsR (c : Int)).2 = 2
    · rw [decide_eq_true h, eqb_true (by omega)]
    · rw [decide_eq_false h, eqb_false (by omega)])
  clear hcl ha hk
  go_enter Tryz.func145, Tryz.ntmps145
  go_wp2_with fail
  refine HC.out.mono ?_
  rintro e w1 ⟨rfl, k1⟩
  unfold two
  go_wp2
  go_ret
  exact ⟨ret_bool HB.out.symm, k1⟩

/-- append of two integers. -/
theorem append_two {ops : Array Oper} {rest : List Oper} {o : Oper} {a : Act} {Q : Exit → Act → World → Prop} (w : World) (hgd : o.guard = none) (s x : Operand)
    (ho : o.op = .call { callee := .builtin .append, args := #[s, x], argTypes := #[27, 27] })
    (base : Nat) (v : Value) (xs : List Nat) (hs : a.eval s = v) (hown : w.ownsRow base 3 1 v xs.length (xs.map nv)) (y z : Nat) (u u' : Value) (hu : u = nv y) (hu' : u' = nv z)
    (hx : a.eval x = .slice (some ⟨w.heap.size, 0, none⟩) 2 2) (hlen : xs.length ≤ 1000000000000 - 2) (hbase : base ≤ w.heap.size)
    (h : ∀ v' w', w'.ownsRow base 3 1 v' (xs ++ [y, z]).length ((xs ++ [y, z]).map nv) → Below base w w' → wpList Tryz.prog ops Q rest (a.put o.dst v') w') : wpList Tryz.prog ops Q (o :: rest) a (w.alloc (.cells #[u, u'] 3)) := by
  refine append_ints (w.alloc (.cells #[u, u'] 3)) hgd s x ho base (w.heap.size + 1) v xs hs (own_keep_below hown ((Below.refl _ _).alloc (Nat.le_refl _) _)) [y, z] _ hx (Arr.of_box (Box.made _ _ _) rfl (Nat.le_refl _) ?_) (by simp; omega) (by simp; omega) ?_
  · intro i q hq
    match i, hq with
    | 0, hq => simp at hq; subst hq; rw [hu]; rfl
    | 1, hq => simp at hq; subst hq; rw [hu']; rfl
    | i + 2, hq => simp at hq
  · intro v' w' h1 h2
    exact h v' w' h1 (((Below.refl _ _).alloc hbase _).trans h2)

theorem pairs_nz : (pairL.all fun x => !Nat.beq x.2.1 0 && Nat.ble 192 x.1) = true := by kernel_rfl
theorem whole_lo {c : Nat} (h : c < 128) : wholeR c = [c] := by
  unfold wholeR
  rw [beq_false (by omega : c ≠ 160), beq_false (by omega : c ≠ 185), beq_false (by omega : c ≠ 178), beq_false (by omega : c ≠ 179), beq_false (by omega : c ≠ 383), beq_false (by omega : c ≠ 64257), beq_false (by omega : c ≠ 64258)]
  have h1 : inN c 65281 65374 = false := by
    unfold inN
    rw [← Bool.not_eq_true, Bool.and_eq_true, Nat.ble_eq, Nat.ble_eq]
    omega
  have h2 : Nat.blt c 192 = true := by rw [Nat.blt_eq]; omega
  rw [h1, h2]
  rfl
theorem whole_parts {c : Nat} (h1 : c ≠ 160) (h2 : c ≠ 185) (h3 : c ≠ 178) (h4 : c ≠ 179) (h5 : c ≠ 383) (h6 : c ≠ 64257) (h7 : c ≠ 64258) (h8 : ¬ (65281 ≤ c ∧ c ≤ 65374)) :
    wholeR c = if (pairL.any fun x => Nat.beq x.1 c) = true then [(pairR c).1, (pairR c).2] else [c] := by
  unfold wholeR
  rw [beq_false h1, beq_false h2, beq_false h3, beq_false h4, beq_false h5, beq_false h6, beq_false h7]
  have hi : inN c 65281 65374 = false := by
    unfold inN
    rw [← Bool.not_eq_true, Bool.and_eq_true, Nat.ble_eq, Nat.ble_eq]
    omega
  rw [hi]
  simp only [Bool.or_self, Bool.false_eq_true, if_false]
  cases hf : pairL.find? (fun x => Nat.beq x.1 c) with
  | none =>
    have ha : (pairL.any fun x => Nat.beq x.1 c) = false := by
      rw [List.any_eq_false]
      exact List.find?_eq_none.1 hf
    rw [ha, pairR_none hf]
    simp
  | some x =>
    have hm := List.mem_of_find?_eq_some hf
    have hp := List.find?_some hf
    have hx : x.1 = c := by simpa using hp
    have ha : (pairL.any fun x => Nat.beq x.1 c) = true := List.any_eq_true.2 ⟨x, hm, hp⟩
    have hz := List.all_eq_true.1 pairs_nz x hm
    rw [Bool.and_eq_true, Nat.ble_eq, Bool.not_eq_true', ← Bool.not_eq_true, Nat.beq_eq] at hz
    have hlt : Nat.blt c 192 = false := by rw [← Bool.not_eq_true, Nat.blt_eq]; omega
    rw [ha, pairR_some hf, hlt, beq_false hz.1]
    simp
theorem ok_small {c : Nat} (h : okC c) : c < 1536 ∨ c = 64257 ∨ c = 64258 ∨ (65281 ≤ c ∧ c ≤ 65374) := by
  have hn := has_of_ok h
  unfold hasN at hn
  split at hn
  · rename_i hi
    unfold inN at hi
    rw [Bool.and_eq_true, Nat.ble_eq, Nat.ble_eq] at hi
    omega
  · rcases hasA_range hn with h | h | h
    · exact .inl h
    · exact .inr (.inl h)
    · exact .inr (.inr (.inl h))

/-- What appending leaves: a row of the call's own that holds these. -/
def OwnEnd (base : Nat) (w : World) (xs : List Nat) (e : Ending) (w' : World) : Prop := ∃ v', e = .returned v' ∧ w'.ownsRow base 3 1 v' xs.length (xs.map nv) ∧ Below base w w'

set_option maxRecDepth 100000 in
set_option maxHeartbeats 6400000 in
theorem prParts_any (base : Nat) (v : Value) (xs : List Nat) (c : Nat) (w : World) (hc : okC c) (hbase : base ≤ w.heap.size) (hlen : xs.length ≤ 1000000) (hown : w.ownsRow base 3 1 v xs.length (xs.map nv)) :
    Calls Tryz.prog 114 #[v, .int .i64 (c : Int)] w (OwnEnd base w (xs ++ wholeR c)) := by
  have hcs := ok_small hc
  obtain ⟨R, hR⟩ : ∃ R, wholeR c = R := ⟨_, rfl⟩
  rw [hR]
  have hown0 := hown
  by_cases h0 : c < 128
  · have t0 : decide ((c : Int) < 128) = true := by simp; omega
    have HE : Hid (R = [c]) := Lib.hid (by rw [← hR, whole_lo h0])
    clear hR hcs
    go_enter Tryz.func114, Tryz.ntmps114
    go_wp2_with (at_builtin; refine append_int w rfl (.tmp 11) (.tmp 13) rfl base v xs rfl hown0 c _ rfl rfl (by omega) hbase ?_; intro v1 w1 hown1 hb1)
    go_ret
    rw [HE.out]
    exact ⟨v1, rfl, hown1, hb1⟩
  have t0 : decide ((c : Int) < 128) = false := by simp; omega
  by_cases h1 : c = 160
  · have t1 : ((c : Int) == 160) = true := eqb_true (by omega)
    have HE : Hid (R = [32]) := Lib.hid (by rw [← hR, h1]; rfl)
    clear hR hcs
    go_enter Tryz.func114, Tryz.ntmps114
    go_wp2_with (at_builtin; refine append_int w rfl (.tmp 18) (.tmp 19) rfl base v xs rfl hown0 32 _ rfl rfl (by omega) hbase ?_; intro v1 w1 hown1 hb1)
    go_ret
    rw [HE.out]
    exact ⟨v1, rfl, hown1, hb1⟩
  have t1 : ((c : Int) == 160) = false := eqb_false (by omega)
  by_cases h2 : c = 185
  · have t2 : ((c : Int) == 185) = true := eqb_true (by omega)
    have HE : Hid (R = [49]) := Lib.hid (by rw [← hR, h2]; rfl)
    clear hR hcs
    go_enter Tryz.func114, Tryz.ntmps114
    go_wp2_with (at_builtin; refine append_int w rfl (.tmp 24) (.tmp 25) rfl base v xs rfl hown0 49 _ rfl rfl (by omega) hbase ?_; intro v1 w1 hown1 hb1)
    go_ret
    rw [HE.out]
    exact ⟨v1, rfl, hown1, hb1⟩
  have t2 : ((c : Int) == 185) = false := eqb_false (by omega)
  by_cases h3 : c = 178
  · have t3 : ((c : Int) == 178) = true := eqb_true (by omega)
    have HE : Hid (R = [50]) := Lib.hid (by rw [← hR, h3]; rfl)
    clear hR hcs
    go_enter Tryz.func114, Tryz.ntmps114
    go_wp2_with (at_builtin; refine append_int w rfl (.tmp 30) (.tmp 31) rfl base v xs rfl hown0 50 _ rfl rfl (by omega) hbase ?_; intro v1 w1 hown1 hb1)
    go_ret
    rw [HE.out]
    exact ⟨v1, rfl, hown1, hb1⟩
  have t3 : ((c : Int) == 178) = false := eqb_false (by omega)
  by_cases h4 : c = 179
  · have t4 : ((c : Int) == 179) = true := eqb_true (by omega)
    have HE : Hid (R = [51]) := Lib.hid (by rw [← hR, h4]; rfl)
    clear hR hcs
    go_enter Tryz.func114, Tryz.ntmps114
    go_wp2_with (at_builtin; refine append_int w rfl (.tmp 36) (.tmp 37) rfl base v xs rfl hown0 51 _ rfl rfl (by omega) hbase ?_; intro v1 w1 hown1 hb1)
    go_ret
    rw [HE.out]
    exact ⟨v1, rfl, hown1, hb1⟩
  have t4 : ((c : Int) == 179) = false := eqb_false (by omega)
  by_cases h5 : c = 383
  · have t5 : ((c : Int) == 383) = true := eqb_true (by omega)
    have HE : Hid (R = [115]) := Lib.hid (by rw [← hR, h5]; rfl)
    clear hR hcs
    go_enter Tryz.func114, Tryz.ntmps114
    go_wp2_with (at_builtin; refine append_int w rfl (.tmp 42) (.tmp 43) rfl base v xs rfl hown0 115 _ rfl rfl (by omega) hbase ?_; intro v1 w1 hown1 hb1)
    go_ret
    rw [HE.out]
    exact ⟨v1, rfl, hown1, hb1⟩
  have t5 : ((c : Int) == 383) = false := eqb_false (by omega)
  by_cases h6 : c = 64257
  · have t6 : ((c : Int) == 64257) = true := eqb_true (by omega)
    have HE : Hid (R = [102, 105]) := Lib.hid (by rw [← hR, h6]; rfl)
    clear hR hcs
    go_enter Tryz.func114, Tryz.ntmps114
    go_wp2_with (at_builtin; refine append_two w rfl (.tmp 48) (.tmp 49) rfl base v xs rfl hown0 102 105 _ _ rfl rfl rfl (by omega) hbase ?_; intro v1 w1 hown1 hb1)
    go_ret
    rw [HE.out]
    exact ⟨v1, rfl, hown1, hb1⟩
  have t6 : ((c : Int) == 64257) = false := eqb_false (by omega)
  by_cases h7 : c = 64258
  · have t7 : ((c : Int) == 64258) = true := eqb_true (by omega)
    have HE : Hid (R = [102, 108]) := Lib.hid (by rw [← hR, h7]; rfl)
    clear hR hcs
    go_enter Tryz.func114, Tryz.ntmps114
    go_wp2_with (at_builtin; refine append_two w rfl (.tmp 54) (.tmp 55) rfl base v xs rfl hown0 102 108 _ _ rfl rfl rfl (by omega) hbase ?_; intro v1 w1 hown1 hb1)
    go_ret
    rw [HE.out]
    exact ⟨v1, rfl, hown1, hb1⟩
  have t7 : ((c : Int) == 64258) = false := eqb_false (by omega)
  by_cases h8 : 65281 ≤ c ∧ c ≤ 65374
  · have t8 : decide (65281 ≤ (c : Int)) = true := by simp; omega
    have t9 : decide ((c : Int) ≤ 65374) = true := by simp; omega
    have HE : Hid (R = [c - 65248]) := Lib.hid (by
      rw [← hR]
      unfold wholeR
      rw [beq_false h1, beq_false h2, beq_false h3, beq_false h4, beq_false h5, beq_false h6, beq_false h7]
      have hi : inN c 65281 65374 = true := by
        unfold inN
        rw [Bool.and_eq_true, Nat.ble_eq, Nat.ble_eq]
        exact h8
      rw [hi]
      rfl)
    have e1 : (c : Int) - 65248 = ((c - 65248 : Nat) : Int) := by omega
    obtain ⟨d, hd⟩ : ∃ d, c - 65248 = d := ⟨_, rfl⟩
    rw [hd] at HE e1
    have hdb : d ≤ 1000000 := by omega
    clear hR hcs hd
    go_enter Tryz.func114, Tryz.ntmps114
    go_wp2_with (at_builtin; refine append_int w rfl (.tmp 64) (.tmp 67) rfl base v xs rfl hown0 d _ (by first | rfl | (rw [e1]; rfl)) rfl (by omega) hbase ?_; intro v1 w1 hown1 hb1)
    go_ret
    rw [HE.out]
    exact ⟨v1, rfl, hown1, hb1⟩
  have hdec := whole_parts h1 h2 h3 h4 h5 h6 h7 h8
  rw [hR] at hdec
  have HD := Lib.hid (prDivide_any c w (by omega))
  obtain ⟨x, hx⟩ : ∃ x, (pairR c).1 = x := ⟨_, rfl⟩
  obtain ⟨y, hy⟩ : ∃ y, (pairR c).2 = y := ⟨_, rfl⟩
  rw [hx, hy] at HD hdec
  have t89 : ¬ (65281 ≤ c) ∨ ¬ (c ≤ 65374) := by omega
  cases hB : (pairL.any fun x => Nat.beq x.1 c) with
  | true =>
    rw [hB] at HD hdec
    have HE : Hid (R = [x, y]) := Lib.hid (by rw [hdec, if_pos rfl])
    clear hR hcs hdec hB hx hy
    rcases t89 with t8 | t8
    all_goals
      go_enter Tryz.func114, Tryz.ntmps114
      go_wp2_with fail
      refine HD.out.mono ?_
      rintro e w2 ⟨rfl, k2⟩
      have hown2 := own_keep_below hown0 k2
      have hbase2 : base ≤ w2.heap.size := Nat.le_trans hbase k2.size
      go_wp2_with (at_builtin; refine append_two w2 rfl (.tmp 76) (.tmp 79) rfl base v xs rfl hown2 x y _ _ rfl rfl rfl (by omega) hbase2 ?_; intro v1 w1 hown1 hb1)
      go_ret
      rw [HE.out]
      exact ⟨v1, rfl, hown1, (k2.mono hbase).trans hb1⟩
  | false =>
    rw [hB] at HD hdec
    have HE : Hid (R = [c]) := Lib.hid (by rw [hdec, if_neg (by simp)])
    clear hR hcs hdec hB hx hy
    rcases t89 with t8 | t8
    all_goals
      go_enter Tryz.func114, Tryz.ntmps114
      go_wp2_with fail
      refine HD.out.mono ?_
      rintro e w2 ⟨rfl, k2⟩
      have hown2 := own_keep_below hown0 k2
      have hbase2 : base ≤ w2.heap.size := Nat.le_trans hbase k2.size
      go_wp2_with (at_builtin; refine append_int w2 rfl (.tmp 81) (.tmp 83) rfl base v xs rfl hown2 c _ rfl rfl (by omega) hbase2 ?_; intro v1 w1 hown1 hb1)
      go_ret
      rw [HE.out]
      exact ⟨v1, rfl, hown1, (k2.mono hbase).trans hb1⟩

end Go.Proofs.YtbnchnbblchmnaaGreatDoor

namespace Go.Proofs.YtbnchnbblchmnaaGreatDoor
open Go.RowKit

theorem grown_set {w w' : World} {g : Nat} (h : w.grownBy w' (some g)) (i : Nat) (v : Value) : w.grownBy (w'.setCell ⟨g, i, none⟩ v) (some g) :=
  ⟨h.os, h.tape, h.output, by rw [World.size_setCell]; exact h.size, fun k hk hne => (Below.heap_setCell w' ⟨g, i, none⟩ v k (fun e => hne (by rw [e]))).trans (h.block k hk hne)⟩
theorem grown_drewN {w w' : World} {row : Option Nat} (h : w.grownBy w' row) (n : Nat) : w.grownBy (w'.drewN n) row := ⟨h.os, h.tape, h.output, h.size, h.block⟩
/-- In w, the row of block g, of cap cells, begins with L. -/
def Row (w : World) (g cap : Nat) (L : List Nat) : Prop := ∃ cu, Box w g 3 cu ∧ cu.size = cap ∧ cu.toList.take L.length = L.map nv
theorem set_mid {P R : List Value} {x y : Value} : (P ++ x :: R).set P.length y = P ++ y :: R := by
  rw [List.set_append_right _ _ (by omega)]
  simp
theorem swap_set {P M R : List Value} {x y : Value} : ((P ++ x :: (M ++ y :: R)).set P.length y).set (P.length + 1 + M.length) x = P ++ y :: (M ++ x :: R) := by
  rw [set_mid]
  have e : P ++ y :: (M ++ y :: R) = (P ++ y :: M) ++ y :: R := by simp
  have e2 : P ++ y :: (M ++ x :: R) = (P ++ y :: M) ++ x :: R := by simp
  have e3 : P.length + 1 + M.length = (P ++ y :: M).length := by simp; omega
  rw [e, e2, e3, set_mid]
theorem swap_mem {cu : Array Value} {N : Nat} {P M R : List Nat} {x y p q : Nat} (ht : cu.toList.take N = (P ++ x :: (M ++ y :: R)).map nv) (hp : p = P.length) (hq : q = P.length + 1 + M.length) :
    ((cu.setIfInBounds p (nv y)).setIfInBounds q (nv x)).toList.take N = (P ++ y :: (M ++ x :: R)).map nv := by
  subst hp hq
  rw [Array.toList_setIfInBounds, Array.toList_setIfInBounds, List.take_set, List.take_set, ht]
  simp only [List.map_append, List.map_cons]
  have := swap_set (P := P.map nv) (M := M.map nv) (R := R.map nv) (x := nv x) (y := nv y)
  simpa using this
theorem swap_mem_back {cu : Array Value} {N : Nat} {P M R : List Nat} {x y p q : Nat} (ht : cu.toList.take N = (P ++ x :: (M ++ y :: R)).map nv) (hp : p = P.length) (hq : q = P.length + 1 + M.length) :
    ((cu.setIfInBounds q (nv x)).setIfInBounds p (nv y)).toList.take N = (P ++ y :: (M ++ x :: R)).map nv := by
  have h := swap_mem ht hp hq
  have e : (cu.setIfInBounds q (nv x)).setIfInBounds p (nv y) = (cu.setIfInBounds p (nv y)).setIfInBounds q (nv x) := by
    apply Array.toList_inj.1
    rw [Array.toList_setIfInBounds, Array.toList_setIfInBounds, Array.toList_setIfInBounds, Array.toList_setIfInBounds, List.set_comm _ _ (by omega)]
  rw [e]
  exact h
theorem swap_fst {cu : Array Value} {N : Nat} {P M R : List Nat} {x y p : Nat} (ht : cu.toList.take N = (P ++ x :: (M ++ y :: R)).map nv) (hp : p = P.length) : cu[p]? = some (nv x) := take_cell ht (by subst hp; simp)
theorem swap_snd {cu : Array Value} {N : Nat} {P M R : List Nat} {x y q : Nat} (ht : cu.toList.take N = (P ++ x :: (M ++ y :: R)).map nv) (hq : q = P.length + 1 + M.length) : cu[q]? = some (nv y) := take_cell ht (by
  subst hq
  have e : P ++ x :: (M ++ y :: R) = (P ++ x :: M) ++ y :: R := by simp
  rw [e, List.getElem?_append_right (by simp; omega)]
  have : P.length + 1 + M.length - (P ++ x :: M).length = 0 := by simp; omega
  rw [this]; rfl)

set_option maxRecDepth 100000 in
set_option maxHeartbeats 6400000 in
theorem swapRange_any (g off n c cap a b m : Nat) (fv : Value) (P A M B Q : List Nat) (w : World) (hA : A.length = m) (hB : B.length = m) (hP : P.length = off + a) (hM : P.length + m + M.length = off + b) (hn : b + m ≤ n) (hsz : n ≤ 1000000000)
    (hrow : Row w g cap (P ++ (A ++ (M ++ (B ++ Q))))) :
    Calls Tryz.prog 176 #[.slice (some ⟨g, off, none⟩) n c, .int .i64 (a : Int), .int .i64 (b : Int), .int .i64 (m : Int), fv] w fun e w' => e = .returned (.tuple #[]) ∧ Row w' g cap (P ++ (B ++ (M ++ (A ++ Q)))) ∧ w.grownBy w' (some g) := by
  obtain ⟨cu0, hb0, hc0, ht0⟩ := hrow
  obtain ⟨N, hN⟩ : ∃ N, (P ++ (A ++ (M ++ (B ++ Q)))).length = N := ⟨_, rfl⟩
  rw [hN] at ht0
  have HN : Hid ((P ++ (B ++ (M ++ (A ++ Q)))).length = N) := Lib.hid (by rw [← hN]; simp; omega)
  have HT0 := Lib.hid ht0
  have HAl := Lib.hid hA
  have HBl := Lib.hid hB
  have HPl := Lib.hid hP
  have HMl := Lib.hid hM
  clear hN ht0 hA hB hP hM
  go_enter Tryz.func176, Tryz.ntmps176
  go_wp2
  go_loopw [10] (fun s wr => ∃ (k : Nat) (cu : Array Value), k ≤ m ∧ s = .int .i64 (k : Int) ∧ Box wr g 3 cu ∧ cu.size = cap ∧ Hid (cu.toList.take N = (P ++ (B.take k ++ (A.drop k ++ (M ++ (A.take k ++ (B.drop k ++ Q)))))).map nv) ∧ w.grownBy wr (some g)) (fun s _ => m - (intOf s).toNat)
  case atStart => exact ⟨0, cu0, by omega, rfl, hb0, hc0, Lib.hid (by simpa using HT0.out), grown_refl _ _⟩
  case round =>
    obtain ⟨k, cu, hk, rfl, hb, hcs, HT, hg⟩ := hrel
    by_cases hlt : k < m
    · have t1 : decide ((k : Int) < (m : Int)) = true := by simp; omega
      obtain ⟨x, hx⟩ := get_some (l := A) (i := k) (by have := HAl.out; omega)
      obtain ⟨y, hy⟩ := get_some (l := B) (i := k) (by have := HBl.out; omega)
      obtain ⟨p, hp⟩ : ∃ p, p = a + k := ⟨_, rfl⟩
      obtain ⟨q, hq⟩ : ∃ q, q = b + k := ⟨_, rfl⟩
      have ep : (a : Int) + (k : Int) = (p : Int) := by omega
      have eq : (b : Int) + (k : Int) = (q : Int) := by omega
      have hAk : A.drop k = x :: A.drop (k + 1) := by
        obtain ⟨h1, h2⟩ := List.getElem?_eq_some_iff.1 hx
        rw [List.drop_eq_getElem_cons h1, h2]
      have hBk : B.drop k = y :: B.drop (k + 1) := by
        obtain ⟨h1, h2⟩ := List.getElem?_eq_some_iff.1 hy
        rw [List.drop_eq_getElem_cons h1, h2]
      have hT1 : cu.toList.take N = ((P ++ B.take k) ++ x :: ((A.drop (k + 1) ++ M ++ A.take k) ++ y :: (B.drop (k + 1) ++ Q))).map nv := by
        rw [HT.out, hAk, hBk]; simp
      have l1 := HAl.out
      have l2 := HBl.out
      have l3 := HPl.out
      have l4 := HMl.out
      have hpl : off + p = (P ++ B.take k).length := by rw [List.length_append, List.length_take]; omega
      have hql : off + q = (P ++ B.take k).length + 1 + (A.drop (k + 1) ++ M ++ A.take k).length := by
        rw [List.length_append, List.length_append, List.length_append, List.length_take, List.length_take, List.length_drop]; omega
      have hpq : p < q := by omega
      have hqn : q < n := by omega
      have HS : Hid (((cu.setIfInBounds (off + p) (nv y)).setIfInBounds (off + q) (nv x)).toList.take N = (P ++ (B.take (k + 1) ++ (A.drop (k + 1) ++ (M ++ (A.take (k + 1) ++ (B.drop (k + 1) ++ Q)))))).map nv) := Lib.hid (by
        rw [swap_mem hT1 hpl hql, take_next hx, take_next hy]; simp)
      have d0 : wr.cell? ⟨g, off + p, none⟩ = some (.int .i64 (x : Int)) := (hb.cell _).trans (swap_fst hT1 hpl)
      have d1 : wr.cell? ⟨g, off + q, none⟩ = some (.int .i64 (y : Int)) := (hb.cell _).trans (swap_snd hT1 hql)
      have f0 : wr.frozen? ⟨g, off + p, none⟩ = false := hb.free _
      have f1 : wr.frozen? ⟨g, off + q, none⟩ = false := hb.free _
      have z0 : (p : Int) < (n : Int) := by omega
      have z1 : (q : Int) < (n : Int) := by omega
      have hne : off + p ≠ off + q := by omega
      clear hx hy hAk hBk hT1 l1 l2 l3 l4 hpl hql hp hq
      go_wp2
      go_region
      all_goals
        go_wp2
        go_roundw
        case rel => exact ⟨k + 1, _, by omega, by go_num, ((hb.drewN _).put (off + p) (nv y)).put (off + q) (nv x), by simp [hcs], HS, grown_set (grown_set (grown_drewN hg _) _ _) _ _⟩
        case measure => simp [intOf]; omega
    · obtain rfl : k = m := by omega
      have HE : Hid (cu.toList.take N = (P ++ (B ++ (M ++ (A ++ Q)))).map nv) := Lib.hid (by
        rw [HT.out, List.take_of_length_le (Nat.le_of_eq HAl.out), List.take_of_length_le (Nat.le_of_eq HBl.out), List.drop_of_length_le (Nat.le_of_eq HAl.out), List.drop_of_length_le (Nat.le_of_eq HBl.out)]; simp)
      go_wp2
      go_end0
      exact ⟨rfl, ⟨cu, hb, hcs, by rw [HN.out]; exact HE.out⟩, hg⟩

end Go.Proofs.YtbnchnbblchmnaaGreatDoor

namespace Go.Proofs.YtbnchnbblchmnaaGreatDoor
open Go.RowKit

theorem Row.drewN {w : World} {g cap : Nat} {L : List Nat} (h : Row w g cap L) (n : Nat) : Row (w.drewN n) g cap L := h
theorem Row.same {w : World} {g cap : Nat} {L L' : List Nat} (h : Row w g cap L) (e : L = L') : Row w g cap L' := e ▸ h

set_option maxRecDepth 100000 in
set_option maxHeartbeats 6400000 in
theorem rotate_any (g off n c cap a m b : Nat) (fv : Value) (P U V Q : List Nat) (w : World) (hU : 0 < U.length) (hV : 0 < V.length) (hP : P.length = off + a) (hm : a + U.length = m) (hb : m + V.length = b) (hn : b ≤ n) (hsz : n ≤ 1000000000)
    (hrow : Row w g cap (P ++ (U ++ (V ++ Q)))) :
    Calls Tryz.prog 174 #[.slice (some ⟨g, off, none⟩) n c, .int .i64 (a : Int), .int .i64 (m : Int), .int .i64 (b : Int), fv] w fun e w' => e = .returned (.tuple #[]) ∧ Row w' g cap (P ++ (V ++ (U ++ Q))) ∧ w.grownBy w' (some g) := by
  obtain ⟨i0, hi0⟩ : ∃ i, U.length = i := ⟨_, rfl⟩
  obtain ⟨j0, hj0⟩ : ∃ j, V.length = j := ⟨_, rfl⟩
  rw [hi0] at hU hm
  rw [hj0] at hV hb
  have HI0 := Lib.hid hi0
  have HJ0 := Lib.hid hj0
  have HR0 := Lib.hid hrow
  have HP0 := Lib.hid hP
  have ea : (m : Int) - (a : Int) = (i0 : Int) := by omega
  have eb : (b : Int) - (m : Int) = (j0 : Int) := by omega
  clear hi0 hj0 hrow hP
  go_enter Tryz.func174, Tryz.ntmps174
  go_wp2
  go_loopw [10, 11] (fun s5 s6 wr => ∃ (i j : Nat) (P1 U1 V1 Q1 : List Nat), s5 = .int .i64 (i : Int) ∧ s6 = .int .i64 (j : Int) ∧ 0 < i ∧ 0 < j ∧ i ≤ m ∧ m + j ≤ b ∧ i + j ≤ i0 + j0 ∧ Hid (U1.length = i ∧ V1.length = j ∧ P1.length + i = off + m) ∧ Hid (Row wr g cap (P1 ++ (U1 ++ (V1 ++ Q1)))) ∧
    Hid (P1 ++ (V1 ++ (U1 ++ Q1)) = P ++ (V ++ (U ++ Q))) ∧ w.grownBy wr (some g)) (fun s5 s6 _ => (intOf s5).toNat + (intOf s6).toNat)
  case atStart => exact ⟨i0, j0, P, U, V, Q, rfl, rfl, hU, hV, by omega, by omega, by omega, Lib.hid ⟨HI0.out, HJ0.out, by have := HP0.out; omega⟩, HR0, Lib.hid rfl, grown_refl _ _⟩
  case round =>
    obtain ⟨i, j, P1, U1, V1, Q1, rfl, rfl, hi, hj, him, hjb, hij, HL, HR, HE, hg⟩ := hrel
    obtain ⟨k, hk⟩ : ∃ k, k = m - i := ⟨_, rfl⟩
    have ek : (m : Int) - (i : Int) = (k : Int) := by omega
    by_cases heq : i = j
    · subst heq
      have t1 : ((i : Int) != (i : Int)) = false := by simp
      have HC := Lib.hid (swapRange_any g off n c cap k m i fv P1 U1 [] V1 Q1 wr HL.out.1 HL.out.2.1 (by have := HL.out.2.2; omega) (by have := HL.out.2.2; simp; omega) (by omega) hsz HR.out)
      clear hk
      go_wp2_with fail
      try rw [ek]
      refine HC.out.mono ?_
      rintro e w2 ⟨rfl, hr2, hg2⟩
      have HR2 := Lib.hid (hr2.same (L' := P ++ (V ++ (U ++ Q))) (by rw [← HE.out]; rfl))
      have hg3 := grown_trans hg hg2
      clear hr2 hg2 hg
      go_wp2
      go_end0
      exact ⟨rfl, HR2.out, hg3⟩
    · have t1 : ((i : Int) != (j : Int)) = true := by simp; omega
      by_cases hgt : j < i
      · have t2 : decide ((j : Int) < (i : Int)) = true := by simp; omega
        obtain ⟨d, hd⟩ : ∃ d, d = i - j := ⟨_, rfl⟩
        have ed : (i : Int) - (j : Int) = (d : Int) := by omega
        have hUs : U1 = U1.take j ++ U1.drop j := (List.take_append_drop _ _).symm
        have hl1 : (U1.take j).length = j := by rw [List.length_take]; have := HL.out.1; omega
        have hl2 : (U1.drop j).length = d := by rw [List.length_drop]; have := HL.out.1; omega
        have HC := Lib.hid (swapRange_any g off n c cap k m j fv P1 (U1.take j) (U1.drop j) V1 Q1 wr hl1 HL.out.2.1 (by have := HL.out.2.2; omega) (by have := HL.out.2.2; rw [hl2]; omega) (by omega) hsz
          (HR.out.same (by conv => lhs; rw [hUs]
                           simp only [List.append_assoc])))
        have HL2 : Hid ((U1.drop j).length = d ∧ (U1.take j).length = j ∧ (P1 ++ V1).length + d = off + m) := Lib.hid ⟨hl2, hl1, by rw [List.length_append]; have := HL.out; omega⟩
        have HE2 : Hid ((P1 ++ V1) ++ (U1.take j ++ (U1.drop j ++ Q1)) = P ++ (V ++ (U ++ Q))) := Lib.hid (by
          rw [← HE.out]
          conv => rhs; rw [hUs]
          simp only [List.append_assoc])
        have hdp : 0 < d := by omega
        have hdm : d ≤ m := by omega
        have hdi : d < i := by omega
        clear hk hd hUs hl1 hl2
        go_wp2_with fail
        try rw [ek]
        refine HC.out.mono ?_
        rintro e w2 ⟨rfl, hr2, hg2⟩
        have HR2 := Lib.hid (hr2.same (L' := (P1 ++ V1) ++ (U1.drop j ++ (U1.take j ++ Q1))) (by simp))
        have hg3 := grown_trans hg hg2
        clear hr2 hg2 hg
        go_wp2
        go_roundw
        case rel => exact ⟨d, j, P1 ++ V1, U1.drop j, U1.take j, Q1, by go_num, rfl, hdp, hj, hdm, hjb, by omega, HL2, HR2, HE2, hg3⟩
        case measure => simp [intOf]; omega
      · have t2 : decide ((j : Int) < (i : Int)) = false := by simp; omega
        obtain ⟨d, hd⟩ : ∃ d, d = j - i := ⟨_, rfl⟩
        have ed : (j : Int) - (i : Int) = (d : Int) := by omega
        have ed2 : (m : Int) + (j : Int) - (i : Int) = ((m + d : Nat) : Int) := by omega
        obtain ⟨md, hmd⟩ : ∃ md, md = m + d := ⟨_, rfl⟩
        rw [← hmd] at ed2
        have hVs : V1 = V1.take d ++ V1.drop d := (List.take_append_drop _ _).symm
        have hl1 : (V1.take d).length = d := by rw [List.length_take]; have := HL.out.2.1; omega
        have hl2 : (V1.drop d).length = i := by rw [List.length_drop]; have := HL.out.2.1; omega
        have HC := Lib.hid (swapRange_any g off n c cap k md i fv P1 U1 (V1.take d) (V1.drop d) Q1 wr HL.out.1 hl2 (by have := HL.out.2.2; omega) (by have := HL.out.2.2; rw [hl1]; omega) (by omega) hsz
          (HR.out.same (by conv => lhs; rw [hVs]
                           simp only [List.append_assoc])))
        have HL2 : Hid ((V1.drop d).length = i ∧ (V1.take d).length = d ∧ P1.length + i = off + m) := Lib.hid ⟨hl2, hl1, HL.out.2.2⟩
        have HE2 : Hid (P1 ++ (V1.take d ++ (V1.drop d ++ (U1 ++ Q1))) = P ++ (V ++ (U ++ Q))) := Lib.hid (by
          rw [← HE.out]
          conv => rhs; rw [hVs]
          simp only [List.append_assoc])
        have hdp : 0 < d := by omega
        have hdm : m + d ≤ b := by omega
        have hdi : d < j := by omega
        clear hk hd hVs hl1 hl2 hmd
        go_wp2_with fail
        try rw [ek]
        try rw [ed2]
        refine HC.out.mono ?_
        rintro e w2 ⟨rfl, hr2, hg2⟩
        have HR2 := Lib.hid (hr2.same (L' := P1 ++ (V1.drop d ++ (V1.take d ++ (U1 ++ Q1)))) (by simp))
        have hg3 := grown_trans hg hg2
        clear hr2 hg2 hg
        go_wp2
        go_roundw
        case rel => exact ⟨i, d, P1, V1.drop d, V1.take d, U1 ++ Q1, rfl, by go_num, hi, hdp, him, hdm, by omega, HL2, HR2, HE2, hg3⟩
        case measure => simp [intOf]; omega

end Go.Proofs.YtbnchnbblchmnaaGreatDoor

namespace Go.Proofs.YtbnchnbblchmnaaGreatDoor
open Go.RowKit

/-- The class of a mark, as the program asks it (3 for what is no mark). -/
def pcl (c : Nat) : Nat := if c = 807 then 1 else if c = 808 then 1 else if c = 803 then 2 else 3
def cmpN (x y : Nat) : Int := if x < y then -1 else if y < x then 1 else 0
theorem cmpN_neg {x y : Nat} (h : x < y) : decide (cmpN x y < 0) = true := by unfold cmpN; rw [if_pos h]; rfl
theorem cmpN_pos {x y : Nat} (h : ¬ x < y) : decide (cmpN x y < 0) = false := by
  unfold cmpN
  rw [if_neg h]
  split <;> rfl

set_option maxRecDepth 20000 in
set_option maxHeartbeats 1600000 in
theorem prCls_any (c : Nat) (w : World) :
    Calls Tryz.prog 144 #[.int .i64 (c : Int)] w fun e w' => e = .returned (.int .i64 (pcl c : Int)) ∧ w' = w := by
  obtain ⟨R, hR⟩ : ∃ R, pcl c = R := ⟨_, rfl⟩
  rw [hR]
  unfold pcl at hR
  by_cases h1 : c = 807
  · have t1 : ((c : Int) == 807) = true := eqb_true (by omega)
    have HE : Hid (R = 1) := Lib.hid (by rw [← hR, if_pos h1])
    clear hR h1
    go_enter Tryz.func144, Tryz.ntmps144
    go_wp2
    go_ret
    rw [HE.out]
    exact ⟨rfl, rfl⟩
  have t1 : ((c : Int) == 807) = false := eqb_false (by omega)
  rw [if_neg h1] at hR
  by_cases h2 : c = 808
  · have t2 : ((c : Int) == 808) = true := eqb_true (by omega)
    have HE : Hid (R = 1) := Lib.hid (by rw [← hR, if_pos h2])
    clear hR h1 h2
    go_enter Tryz.func144, Tryz.ntmps144
    go_wp2
    go_ret
    rw [HE.out]
    exact ⟨rfl, rfl⟩
  have t2 : ((c : Int) == 808) = false := eqb_false (by omega)
  rw [if_neg h2] at hR
  by_cases h3 : c = 803
  · have t3 : ((c : Int) == 803) = true := eqb_true (by omega)
    have HE : Hid (R = 2) := Lib.hid (by rw [← hR, if_pos h3])
    clear hR h1 h2 h3
    go_enter Tryz.func144, Tryz.ntmps144
    go_wp2
    go_ret
    rw [HE.out]
    exact ⟨rfl, rfl⟩
  · have t3 : ((c : Int) == 803) = false := eqb_false (by omega)
    have HE : Hid (R = 3) := Lib.hid (by rw [← hR, if_neg h3])
    clear hR h1 h2 h3
    go_enter Tryz.func144, Tryz.ntmps144
    go_wp2
    go_ret
    rw [HE.out]
    exact ⟨rfl, rfl⟩

set_option maxRecDepth 20000 in
set_option maxHeartbeats 1600000 in
theorem isNaN_any (c : Nat) (w : World) :
    Calls Tryz.prog 135 #[.int .i64 (c : Int)] w fun e w' => e = .returned (.bool false) ∧ w' = w := by
  have t1 : ((c : Int) != (c : Int)) = false := by simp
  go_enter Tryz.func135, Tryz.ntmps135
  go_wp2
  go_ret
  exact ⟨by simp, rfl⟩

set_option maxRecDepth 20000 in
set_option maxHeartbeats 1600000 in
theorem compare_any (x y : Nat) (w : World) :
    Calls Tryz.prog 143 #[.int .i64 (x : Int), .int .i64 (y : Int)] w fun e w' => e = .returned (.int .i64 (cmpN x y)) ∧ w' = w := by
  obtain ⟨R, hR⟩ : ∃ R, cmpN x y = R := ⟨_, rfl⟩
  rw [hR]
  unfold cmpN at hR
  have HX := Lib.hid (fun W => isNaN_any x W)
  have HY := Lib.hid (fun W => isNaN_any y W)
  by_cases h1 : x < y
  · have t1 : decide (x < y) = true := by simpa using h1
    have HE : Hid (R = -1) := Lib.hid (by rw [← hR, if_pos h1])
    clear hR h1
    go_enter Tryz.func143, Tryz.ntmps143
    go_wp2_with fail
    refine (HX.out _).mono ?_
    rintro e w1 ⟨rfl, rfl⟩
    go_wp2_with fail
    refine (HY.out _).mono ?_
    rintro e w1 ⟨rfl, rfl⟩
    go_wp2
    go_ret
    rw [HE.out]
    exact ⟨rfl, rfl⟩
  have t1 : decide (x < y) = false := by simpa using h1
  rw [if_neg h1] at hR
  by_cases h2 : y < x
  · have t2 : decide (y < x) = true := by simpa using h2
    have HE : Hid (R = 1) := Lib.hid (by rw [← hR, if_pos h2])
    clear hR h1 h2
    go_enter Tryz.func143, Tryz.ntmps143
    go_wp2_with fail
    refine (HX.out _).mono ?_
    rintro e w1 ⟨rfl, rfl⟩
    go_wp2_with fail
    refine (HY.out _).mono ?_
    rintro e w1 ⟨rfl, rfl⟩
    go_wp2
    go_ret
    rw [HE.out]
    exact ⟨rfl, rfl⟩
  · have t2 : decide (y < x) = false := by simpa using h2
    have HE : Hid (R = 0) := Lib.hid (by rw [← hR, if_neg h2])
    clear hR h1 h2
    go_enter Tryz.func143, Tryz.ntmps143
    go_wp2_with fail
    refine (HX.out _).mono ?_
    rintro e w1 ⟨rfl, rfl⟩
    go_wp2_with fail
    refine (HY.out _).mono ?_
    rintro e w1 ⟨rfl, rfl⟩
    go_wp2
    go_ret
    rw [HE.out]
    exact ⟨rfl, rfl⟩

/-- The comparison that the program hands to the sort. -/
def cmpV : Value := .func (.func 142) #[] #[]
set_option maxRecDepth 20000 in
set_option maxHeartbeats 1600000 in
theorem byClass_any (x y : Nat) (w : World) :
    Calls Tryz.prog 142 #[.int .i64 (x : Int), .int .i64 (y : Int)] w fun e w' => e = .returned (.int .i64 (cmpN (pcl x) (pcl y))) ∧ ∃ q, w' = w.drewN q := by
  have HX := Lib.hid (fun W => prCls_any x W)
  have HY := Lib.hid (fun W => prCls_any y W)
  have HC := Lib.hid (fun W => compare_any (pcl x) (pcl y) W)
  obtain ⟨a, ha⟩ : ∃ a, pcl x = a := ⟨_, rfl⟩
  obtain ⟨b, hb⟩ : ∃ b, pcl y = b := ⟨_, rfl⟩
  rw [ha] at HX HC ⊢
  rw [hb] at HY HC ⊢
  obtain ⟨K, hK⟩ : ∃ K, cmpN a b = K := ⟨_, rfl⟩
  rw [hK] at HC ⊢
  clear ha hb hK
  go_enter Tryz.func142, Tryz.ntmps142
  go_wp2_with fail
  refine (HX.out _).mono ?_
  rintro e w1 ⟨rfl, rfl⟩
  go_wp2_with fail
  refine (HY.out _).mono ?_
  rintro e w1 ⟨rfl, rfl⟩
  go_wp2_with fail
  refine (HC.out _).mono ?_
  rintro e w1 ⟨rfl, rfl⟩
  go_wp2
  go_ret
  exact ⟨rfl, 0, rfl⟩

end Go.Proofs.YtbnchnbblchmnaaGreatDoor
