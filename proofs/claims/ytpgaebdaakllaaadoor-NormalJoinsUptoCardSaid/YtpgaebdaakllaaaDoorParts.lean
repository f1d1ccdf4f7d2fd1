/-
  The program's isMark and appendParts.
-/
import Derived.Test.YtpgaebdaakllaaaDoorDivJoin
namespace Go.Proofs.YtpgaebdaakllaaaDoor
open Go.RowKit

theorem isM_kind (c : Nat) : isM c = decide ((clsR (c : Int)).2 = 2) := by
  by_cases h : (clsR (c : Int)).2 = 2
  · rw [decide_eq_true h]
    have hk : (clsF c).2 = 2 := by rw [← clsF_eq]; exact h
    unfold isM
    rw [Nat.blt_eq]
    exact mark_pos (kind_mark hk)
  · rw [decide_eq_false h]
    unfold isM
    rw [← Bool.not_eq_true, Nat.blt_eq]
    have hk : clM c = 0 := by
      unfold clM kindR
      rw [if_neg h]
    omega

set_option maxRecDepth 20000 in
set_option maxHeartbeats 1600000 in
theorem prIsMark_any (c : Nat) (w : World) (hS : Spans w) :
    Calls Tryd.prog 35 #[.int .i64 (c : Int)] w fun e w' => e = .returned (.bool (isM c)) ∧ Below w.heap.size w w' := by
  have hcl := prClass_any (c : Int) w hS
  obtain ⟨a, ha⟩ : ∃ a, a = (clsR (c : Int)).1 := ⟨_, rfl⟩
  obtain ⟨k, hk⟩ : ∃ k, k = (clsR (c : Int)).2 := ⟨_, rfl⟩
  rw [← ha, ← hk] at hcl
  have HC := Lib.hid hcl
  have HB : Hid (isM c = ((k : Int) == 2)) := Lib.hid (by
    rw [isM_kind, hk]
    by_cases h : (clsR (c : Int)).2 = 2
    · rw [decide_eq_true h, eqb_true (by omega)]
    · rw [decide_eq_false h, eqb_false (by omega)])
  clear hcl ha hk
  go_enter Tryd.func35, Tryd.ntmps35
  go_wp2_with fail
  refine HC.out.mono ?_
  rintro e w1 ⟨rfl, k1⟩
  unfold two
  go_wp2
  go_ret
  exact ⟨ret_bool HB.out.symm, k1⟩

/-- append of two integers. -/
theorem append_two {ops : Array Oper} {rest : List Oper} {o : Oper} {a : Act} {Q : Exit → Act → World → Prop} (w : World) (hgd : o.guard = none) (s x : Operand)
    (ho : o.op = .call { callee := .builtin .append, args := #[s, x], argTypes := #[27, 27] })
    (base : Nat) (v : Value) (xs : List Nat) (hs : a.eval s = v) (hown : w.ownsRow base 3 1 v xs.length (xs.map nv)) (y z : Nat) (u u' : Value) (hu : u = nv y) (hu' : u' = nv z)
    (hx : a.eval x = .slice (some ⟨w.heap.size, 0, none⟩) 2 2) (hlen : xs.length ≤ 1000000000000 - 2) (hbase : base ≤ w.heap.size)
    (h : ∀ v' w', w'.ownsRow base 3 1 v' (xs ++ [y, z]).length ((xs ++ [y, z]).map nv) → Below base w w' → wpList Tryd.prog ops Q rest (a.put o.dst v') w') : wpList Tryd.prog ops Q (o :: rest) a (w.alloc (.cells #[u, u'] 3)) := by
  refine append_ints (w.alloc (.cells #[u, u'] 3)) hgd s x ho base (w.heap.size + 1) v xs hs (own_keep_below hown ((Below.refl _ _).alloc (Nat.le_refl _) _)) [y, z] _ hx (Arr.of_box (Box.made _ _ _) rfl (Nat.le_refl _) ?_) (by simp; omega) (by simp; omega) ?_
  · intro i q hq
    match i, hq with
    | 0, hq => simp at hq; subst hq; rw [hu]; rfl
    | 1, hq => simp at hq; subst hq; rw [hu']; rfl
    | i + 2, hq => simp at hq
  · intro v' w' h1 h2
    exact h v' w' h1 (((Below.refl _ _).alloc hbase _).trans h2)

theorem pairs_nz : (pairL.all fun x => !Nat.beq x.2.1 0 && Nat.ble 192 x.1) = true := by kernel_rfl
theorem whole_lo {c : Nat} (h : c < 128) : wholeR c = [c] := by
  unfold wholeR
  rw [beq_false (by omega : c ≠ 160), beq_false (by omega : c ≠ 185), beq_false (by omega : c ≠ 178), beq_false (by omega : c ≠ 179), beq_false (by omega : c ≠ 383), beq_false (by omega : c ≠ 64257), beq_false (by omega : c ≠ 64258)]
  have h1 : inN c 65281 65374 = false := by
    unfold inN
    rw [← Bool.not_eq_true, Bool.and_eq_true, Nat.ble_eq, Nat.ble_eq]
    omega
  have h2 : Nat.blt c 192 = true := by rw [Nat.blt_eq]; omega
  rw [h1, h2]
  rfl
theorem whole_parts {c : Nat} (h1 : c ≠ 160) (h2 : c ≠ 185) (h3 : c ≠ 178) (h4 : c ≠ 179) (h5 : c ≠ 383) (h6 : c ≠ 64257) (h7 : c ≠ 64258) (h8 : ¬ (65281 ≤ c ∧ c ≤ 65374)) :
    wholeR c = if (pairL.any fun x => Nat.beq x.1 c) = true then [(pairR c).1, (pairR c).2] else [c] := by
  unfold wholeR
  rw [beq_false h1, beq_false h2, beq_false h3, beq_false h4, beq_false h5, beq_false h6, beq_false h7]
  have hi : inN c 65281 65374 = false := by
    unfold inN
    rw [← Bool.not_eq_true, Bool.and_eq_true, Nat.ble_eq, Nat.ble_eq]
    omega
  rw [hi]
  simp only [Bool.or_self, Bool.false_eq_true, if_false]
  cases hf : pairL.find? (fun x => Nat.beq x.1 c) with
  | none =>
    have ha : (pairL.any fun x => Nat.beq x.1 c) = false := by
      rw [List.any_eq_false]
      exact List.find?_eq_none.1 hf
    rw [ha, pairR_none hf]
    simp
  | some x =>
    have hm := List.mem_of_find?_eq_some hf
    have hp := List.find?_some hf
    have hx : x.1 = c := by simpa using hp
    have ha : (pairL.any fun x => Nat.beq x.1 c) = true := List.any_eq_true.2 ⟨x, hm, hp⟩
    have hz := List.all_eq_true.1 pairs_nz x hm
    rw [Bool.and_eq_true, Nat.ble_eq, Bool.not_eq_true', ← Bool.not_eq_true, Nat.beq_eq] at hz
    have hlt : Nat.blt c 192 = false := by rw [← Bool.not_eq_true, Nat.blt_eq]; omega
    rw [ha, pairR_some hf, hlt, beq_false hz.1]
    simp
theorem ok_small {c : Nat} (h : okC c) : c < 1536 ∨ c = 64257 ∨ c = 64258 ∨ (65281 ≤ c ∧ c ≤ 65374) := by
  have hn := has_of_ok h
  unfold hasN at hn
  split at hn
  · rename_i hi
    unfold inN at hi
    rw [Bool.and_eq_true, Nat.ble_eq, Nat.ble_eq] at hi
    omega
  · rcases hasA_range hn with h | h | h
    · exact .inl h
    · exact .inr (.inl h)
    · exact .inr (.inr (.inl h))

/-- What appending leaves: a row of the call's own that holds these. -/
def OwnEnd (base : Nat) (w : World) (xs : List Nat) (e : Ending) (w' : World) : Prop := ∃ v', e = .returned v' ∧ w'.ownsRow base 3 1 v' xs.length (xs.map nv) ∧ Below base w w'

set_option maxRecDepth 100000 in
set_option maxHeartbeats 6400000 in
theorem prParts_any (base : Nat) (v : Value) (xs : List Nat) (c : Nat) (w : World) (hc : okC c) (hbase : base ≤ w.heap.size) (hlen : xs.length ≤ 1000000) (hown : w.ownsRow base 3 1 v xs.length (xs.map nv)) :
    Calls Tryd.prog 42 #[v, .int .i64 (c : Int)] w (OwnEnd base w (xs ++ wholeR c)) := by
  have hcs := ok_small hc
  obtain ⟨R, hR⟩ : ∃ R, wholeR c = R := ⟨_, rfl⟩
  rw [hR]
  have hown0 := hown
  by_cases h0 : c < 128
  · have t0 : decide ((c : Int) < 128) = true := by simp; omega
    have HE : Hid (R = [c]) := Lib.hid (by rw [← hR, whole_lo h0])
    clear hR hcs
    go_enter Tryd.func42, Tryd.ntmps42
    go_wp2_with (at_builtin; refine append_int w rfl (.tmp 11) (.tmp 13) rfl base v xs rfl hown0 c _ rfl rfl (by omega) hbase ?_; intro v1 w1 hown1 hb1)
    go_ret
    rw [HE.out]
    exact ⟨v1, rfl, hown1, hb1⟩
  have t0 : decide ((c : Int) < 128) = false := by simp; omega
  by_cases h1 : c = 160
  · have t1 : ((c : Int) == 160) = true := eqb_true (by omega)
    have HE : Hid (R = [32]) := Lib.hid (by rw [← hR, h1]; rfl)
    clear hR hcs
    go_enter Tryd.func42, Tryd.ntmps42
    go_wp2_with (at_builtin; refine append_int w rfl (.tmp 18) (.tmp 19) rfl base v xs rfl hown0 32 _ rfl rfl (by omega) hbase ?_; intro v1 w1 hown1 hb1)
    go_ret
    rw [HE.out]
    exact ⟨v1, rfl, hown1, hb1⟩
  have t1 : ((c : Int) == 160) = false := eqb_false (by omega)
  by_cases h2 : c = 185
  · have t2 : ((c : Int) == 185) = true := eqb_true (by omega)
    have HE : Hid (R = [49]) := Lib.hid (by rw [← hR, h2]; rfl)
    clear hR hcs
    go_enter Tryd.func42, Tryd.ntmps42
    go_wp2_with (at_builtin; refine append_int w rfl (.tmp 24) (.tmp 25) rfl base v xs rfl hown0 49 _ rfl rfl (by omega) hbase ?_; intro v1 w1 hown1 hb1)
    go_ret
    rw [HE.out]
    exact ⟨v1, rfl, hown1, hb1⟩
  have t2 : ((c : Int) == 185) = false := eqb_false (by omega)
  by_cases h3 : c = 178
  · have t3 : ((c : Int) == 178) = true := eqb_true (by omega)
    have HE : Hid (R = [50]) := Lib.hid (by rw [← hR, h3]; rfl)
    clear hR hcs
    go_enter Tryd.func42, Tryd.ntmps42
    go_wp2_with (at_builtin; refine append_int w rfl (.tmp 30) (.tmp 31) rfl base v xs rfl hown0 50 _ rfl rfl (by omega) hbase ?_; intro v1 w1 hown1 hb1)
    go_ret
    rw [HE.out]
    exact ⟨v1, rfl, hown1, hb1⟩
  have t3 : ((c : Int) == 178) = false := eqb_false (by omega)
  by_cases h4 : c = 179
  · have t4 : ((c : Int) == 179) = true := eqb_true (by omega)
    have HE : Hid (R = [51]) := Lib.hid (by rw [← hR, h4]; rfl)
    clear hR hcs
    go_enter Tryd.func42, Tryd.ntmps42
    go_wp2_with (at_builtin; refine append_int w rfl (.tmp 36) (.tmp 37) rfl base v xs rfl hown0 51 _ rfl rfl (by omega) hbase ?_; intro v1 w1 hown1 hb1)
    go_ret
    rw [HE.out]
    exact ⟨v1, rfl, hown1, hb1⟩
  have t4 : ((c : Int) == 179) = false := eqb_false (by omega)
  by_cases h5 : c = 383
  · have t5 : ((c : Int) == 383) = true := eqb_true (by omega)
    have HE : Hid (R = [115]) := Lib.hid (by rw [← hR, h5]; rfl)
    clear hR hcs
    go_enter Tryd.func42, Tryd.ntmps42
    go_wp2_with (at_builtin; refine append_int w rfl (.tmp 42) (.tmp 43) rfl base v xs rfl hown0 115 _ rfl rfl (by omega) hbase ?_; intro v1 w1 hown1 hb1)
    go_ret
    rw [HE.out]
    exact ⟨v1, rfl, hown1, hb1⟩
  have t5 : ((c : Int) == 383) = false := eqb_false (by omega)
  by_cases h6 : c = 64257
  · have t6 : ((c : Int) == 64257) = true := eqb_true (by omega)
    have HE : Hid (R = [102, 105]) := Lib.hid (by rw [← hR, h6]; rfl)
    clear hR hcs
    go_enter Tryd.func42, Tryd.ntmps42
    go_wp2_with (at_builtin; refine append_two w rfl (.tmp 48) (.tmp 49) rfl base v xs rfl hown0 102 105 _ _ rfl rfl rfl (by omega) hbase ?_; intro v1 w1 hown1 hb1)
    go_ret
    rw [HE.out]
    exact ⟨v1, rfl, hown1, hb1⟩
  have t6 : ((c : Int) == 64257) = false := eqb_false (by omega)
  by_cases h7 : c = 64258
  · have t7 : ((c : Int) == 64258) = true := eqb_true (by omega)
    have HE : Hid (R = [102, 108]) := Lib.hid (by rw [← hR, h7]; rfl)
    clear hR hcs
    go_enter Tryd.func42, Tryd.ntmps42
    go_wp2_with (at_builtin; refine append_two w rfl (.tmp 54) (.tmp 55) rfl base v xs rfl hown0 102 108 _ _ rfl rfl rfl (by omega) hbase ?_; intro v1 w1 hown1 hb1)
    go_ret
    rw [HE.out]
    exact ⟨v1, rfl, hown1, hb1⟩
  have t7 : ((c : Int) == 64258) = false := eqb_false (by omega)
  by_cases h8 : 65281 ≤ c ∧ c ≤ 65374
  · have t8 : decide (65281 ≤ (c : Int)) = true := by simp; omega
    have t9 : decide ((c : Int) ≤ 65374) = true := by simp; omega
    have HE : Hid (R = [c - 65248]) := Lib.hid (by
      rw [← hR]
      unfold wholeR
      rw [beq_false h1, beq_false h2, beq_false h3, beq_false h4, beq_false h5, beq_false h6, beq_false h7]
      have hi : inN c 65281 65374 = true := by
        unfold inN
        rw [Bool.and_eq_true, Nat.ble_eq, Nat.ble_eq]
        exact h8
      rw [hi]
      rfl)
    have e1 : (c : Int) - 65248 = ((c - 65248 : Nat) : Int) := by omega
    obtain ⟨d, hd⟩ : ∃ d, c - 65248 = d := ⟨_, rfl⟩
    rw [hd] at HE e1
    have hdb : d ≤ 1000000 := by omega
    clear hR hcs hd
    go_enter Tryd.func42, Tryd.ntmps42
    go_wp2_with (at_builtin; refine append_int w rfl (.tmp 64) (.tmp 67) rfl base v xs rfl hown0 d _ (by first | rfl | (rw [e1]; rfl)) rfl (by omega) hbase ?_; intro v1 w1 hown1 hb1)
    go_ret
    rw [HE.out]
    exact ⟨v1, rfl, hown1, hb1⟩
  have hdec := whole_parts h1 h2 h3 h4 h5 h6 h7 h8
  rw [hR] at hdec
  have HD := Lib.hid (prDivide_any c w (by omega))
  obtain ⟨x, hx⟩ : ∃ x, (pairR c).1 = x := ⟨_, rfl⟩
  obtain ⟨y, hy⟩ : ∃ y, (pairR c).2 = y := ⟨_, rfl⟩
  rw [hx, hy] at HD hdec
  have t89 : ¬ (65281 ≤ c) ∨ ¬ (c ≤ 65374) := by omega
  cases hB : (pairL.any fun x => Nat.beq x.1 c) with
  | true =>
    rw [hB] at HD hdec
    have HE : Hid (R = [x, y]) := Lib.hid (by rw [hdec, if_pos rfl])
    clear hR hcs hdec hB hx hy
    rcases t89 with t8 | t8
    all_goals
      go_enter Tryd.func42, Tryd.ntmps42
      go_wp2_with fail
      refine HD.out.mono ?_
      rintro e w2 ⟨rfl, k2⟩
      have hown2 := own_keep_below hown0 k2
      have hbase2 : base ≤ w2.heap.size := Nat.le_trans hbase k2.size
      go_wp2_with (at_builtin; refine append_two w2 rfl (.tmp 76) (.tmp 79) rfl base v xs rfl hown2 x y _ _ rfl rfl rfl (by omega) hbase2 ?_; intro v1 w1 hown1 hb1)
      go_ret
      rw [HE.out]
      exact ⟨v1, rfl, hown1, (k2.mono hbase).trans hb1⟩
  | false =>
    rw [hB] at HD hdec
    have HE : Hid (R = [c]) := Lib.hid (by rw [hdec, if_neg (by simp)])
    clear hR hcs hdec hB hx hy
    rcases t89 with t8 | t8
    all_goals
      go_enter Tryd.func42, Tryd.ntmps42
      go_wp2_with fail
      refine HD.out.mono ?_
      rintro e w2 ⟨rfl, k2⟩
      have hown2 := own_keep_below hown0 k2
      have hbase2 : base ≤ w2.heap.size := Nat.le_trans hbase k2.size
      go_wp2_with (at_builtin; refine append_int w2 rfl (.tmp 81) (.tmp 83) rfl base v xs rfl hown2 c _ rfl rfl (by omega) hbase2 ?_; intro v1 w1 hown1 hb1)
      go_ret
      rw [HE.out]
      exact ⟨v1, rfl, hown1, (k2.mono hbase).trans hb1⟩

end Go.Proofs.YtpgaebdaakllaaaDoor
