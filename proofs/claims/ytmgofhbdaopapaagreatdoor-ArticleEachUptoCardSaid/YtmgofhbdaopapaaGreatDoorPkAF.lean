/-
  The reference's class and whole.
  append onto a row of the call's own: where the new row lies. (Other rows of the same kind stay apart from it.)
  The reference's decomposed.
-/
import Derived.Test.YtmgofhbdaopapaaGreatDoorPkAE
import Derived.Test.YtmgofhbdaopapaaGreatDoorWords
import Derived.BigRegion
import Derived.BigQuiet
namespace Go.Proofs.YtmgofhbdaopapaaGreatDoor
open Go.RowKit

set_option maxRecDepth 20000 in
set_option maxHeartbeats 1600000 in
theorem refClassM_any (c : Nat) (w : World) :
    Calls Tryz.prog 110 #[.int .i64 (c : Int)] w fun e w' => e = .returned (.int .i64 (clM c : Int)) ∧ ∃ q, w' = w.drewN q := by
  have hcl := class_any (c : Int) w
  obtain ⟨a, ha⟩ : ∃ a, a = (clsR (c : Int)).1 := ⟨_, rfl⟩
  obtain ⟨k, hk⟩ : ∃ k, k = (clsR (c : Int)).2 := ⟨_, rfl⟩
  rw [← ha, ← hk] at hcl
  have HC := Lib.hid hcl
  obtain ⟨R, hR⟩ : ∃ R, clM c = R := ⟨_, rfl⟩
  rw [hR]
  unfold clM kindR at hR
  rw [← hk] at hR
  clear hcl ha
  by_cases h2 : k = 2
  · have t1 : ((k : Int) != 2) = false := by rw [h2]; rfl
    rw [if_pos h2] at hR
    by_cases h3 : c = 807
    · have t2 : ((c : Int) == 807) = true := eqb_true (by omega)
      have HE : Hid (R = 1) := Lib.hid (by rw [← hR, h3]; rfl)
      clear hR h3 h2 hk
      go_enter Tryz.func110, Tryz.ntmps110
      go_wp2_with fail
      refine HC.out.mono ?_
      rintro e w1 ⟨rfl, q, rfl⟩
      unfold two
      go_wp2
      go_ret
      rw [HE.out]
      exact ⟨rfl, q, rfl⟩
    have t2 : ((c : Int) == 807) = false := eqb_false (by omega)
    by_cases h4 : c = 808
    · have t3 : ((c : Int) == 808) = true := eqb_true (by omega)
      have HE : Hid (R = 1) := Lib.hid (by rw [← hR, h4]; rfl)
      clear hR h3 h4 h2 hk
      go_enter Tryz.func110, Tryz.ntmps110
      go_wp2_with fail
      refine HC.out.mono ?_
      rintro e w1 ⟨rfl, q, rfl⟩
      unfold two
      go_wp2
      go_ret
      rw [HE.out]
      exact ⟨rfl, q, rfl⟩
    have t3 : ((c : Int) == 808) = false := eqb_false (by omega)
    rw [beq_false h3, beq_false h4] at hR
    by_cases h5 : c = 803
    · have t4 : ((c : Int) == 803) = true := eqb_true (by omega)
      have HE : Hid (R = 2) := Lib.hid (by rw [← hR, h5]; rfl)
      clear hR h3 h4 h5 h2 hk
      go_enter Tryz.func110, Tryz.ntmps110
      go_wp2_with fail
      refine HC.out.mono ?_
      rintro e w1 ⟨rfl, q, rfl⟩
      unfold two
      go_wp2
      go_ret
      rw [HE.out]
      exact ⟨rfl, q, rfl⟩
    · have t4 : ((c : Int) == 803) = false := eqb_false (by omega)
      have HE : Hid (R = 3) := Lib.hid (by rw [← hR, beq_false h5]; rfl)
      clear hR h3 h4 h5 h2 hk
      go_enter Tryz.func110, Tryz.ntmps110
      go_wp2_with fail
      refine HC.out.mono ?_
      rintro e w1 ⟨rfl, q, rfl⟩
      unfold two
      go_wp2
      go_ret
      rw [HE.out]
      exact ⟨rfl, q, rfl⟩
  · have t1 : ((k : Int) != 2) = true := by simp; omega
    have HE : Hid (R = 0) := Lib.hid (by rw [← hR, if_neg h2])
    clear hR h2 hk
    go_enter Tryz.func110, Tryz.ntmps110
    go_wp2_with fail
    refine HC.out.mono ?_
    rintro e w1 ⟨rfl, q, rfl⟩
    unfold two
    go_wp2
    go_ret
    rw [HE.out]
    exact ⟨rfl, q, rfl⟩

/-- A new slice of the call's own that holds these characters. -/
def NewNats (w : World) (l : List Nat) (e : Ending) (w' : World) : Prop :=
  ∃ (b c : Nat) (cs : Array Value), e = .returned (.slice (some ⟨b, 0, none⟩) l.length c) ∧ w.heap.size ≤ b ∧ Box w' b 3 cs ∧ (∀ (i u : Nat), l[i]? = some u → cs[i]? = some (nv u)) ∧ Below w.heap.size w w'
theorem new_one (w : World) (x : Int) (y : Nat) (h : x = (y : Int)) : NewNats w [y] (.returned (.slice (some ⟨w.heap.size, 0, none⟩) 1 1)) (w.alloc (.cells #[.int .i64 x] 3)) := by
  subst h
  refine ⟨_, 1, _, rfl, Nat.le_refl _, Box.made w 3 #[.int .i64 (y : Int)], fun i u hu => ?_, below_new (Below.refl _ _) _⟩
  cases i with
  | zero => simp at hu; subst hu; rfl
  | succ i => simp at hu
theorem new_two (w : World) (x x' : Int) (y z : Nat) (h : x = (y : Int)) (h' : x' = (z : Int)) : NewNats w [y, z] (.returned (.slice (some ⟨w.heap.size, 0, none⟩) 2 2)) (w.alloc (.cells #[.int .i64 x, .int .i64 x'] 3)) := by
  subst h h'
  refine ⟨_, 2, _, rfl, Nat.le_refl _, Box.made w 3 #[.int .i64 (y : Int), .int .i64 (z : Int)], fun i u hu => ?_, below_new (Below.refl _ _) _⟩
  match i with
  | 0 => simp at hu; subst hu; rfl
  | 1 => simp at hu; subst hu; rfl
  | i + 2 => simp at hu
theorem NewNats.from {w w1 : World} {l : List Nat} {e : Ending} {w' : World} (h : NewNats w1 l e w') (hb : Below w.heap.size w w1) : NewNats w l e w' := by
  obtain ⟨b, c, cs, h1, h2, h3, h4, h5⟩ := h
  exact ⟨b, c, cs, h1, Nat.le_trans hb.size h2, h3, h4, below_next hb h5⟩

set_option maxRecDepth 20000 in
set_option maxHeartbeats 1600000 in
theorem refWhole_any (c : Nat) (w : World) (hc : c < 65536) :
    Calls Tryz.prog 109 #[.int .i64 (c : Int)] w (NewNats w (wholeR c)) := by
  obtain ⟨R, hR⟩ : ∃ R, wholeR c = R := ⟨_, rfl⟩
  rw [hR]
  unfold wholeR at hR
  by_cases h1 : c = 160
  · have t1 : ((c : Int) == 160) = true := eqb_true (by omega)
    have HE : Hid (R = [32]) := Lib.hid (by rw [← hR, h1]; rfl)
    clear hR h1
    go_enter Tryz.func109, Tryz.ntmps109
    go_wp2
    go_ret
    rw [HE.out]
    exact new_one w _ _ rfl
  have t1 : ((c : Int) == 160) = false := eqb_false (by omega)
  rw [beq_false h1, if_neg (by decide)] at hR
  by_cases h2 : c = 185
  · have t2 : ((c : Int) == 185) = true := eqb_true (by omega)
    have HE : Hid (R = [49]) := Lib.hid (by rw [← hR, h2]; rfl)
    clear hR h1 h2
    go_enter Tryz.func109, Tryz.ntmps109
    go_wp2
    go_ret
    rw [HE.out]
    exact new_one w _ _ rfl
  have t2 : ((c : Int) == 185) = false := eqb_false (by omega)
  rw [beq_false h2, if_neg (by decide)] at hR
  by_cases h3 : c = 178
  · have t3 : ((c : Int) == 178) = true := eqb_true (by omega)
    have HE : Hid (R = [c - 128]) := Lib.hid (by rw [← hR, h3]; rfl)
    have hz : 128 ≤ c := by omega
    clear hR h1 h2 h3
    go_enter Tryz.func109, Tryz.ntmps109
    go_wp2
    go_ret
    rw [HE.out]
    exact new_one w _ _ (by omega)
  have t3 : ((c : Int) == 178) = false := eqb_false (by omega)
  by_cases h4 : c = 179
  · have t4 : ((c : Int) == 179) = true := eqb_true (by omega)
    have HE : Hid (R = [c - 128]) := Lib.hid (by rw [← hR, h4]; rfl)
    have hz : 128 ≤ c := by omega
    clear hR h1 h2 h3 h4
    go_enter Tryz.func109, Tryz.ntmps109
    go_wp2
    go_ret
    rw [HE.out]
    exact new_one w _ _ (by omega)
  have t4 : ((c : Int) == 179) = false := eqb_false (by omega)
  rw [beq_false h3, beq_false h4, if_neg (by decide)] at hR
  by_cases h5 : c = 383
  · have t5 : ((c : Int) == 383) = true := eqb_true (by omega)
    have HE : Hid (R = [115]) := Lib.hid (by rw [← hR, h5]; rfl)
    clear hR h1 h2 h3 h4 h5
    go_enter Tryz.func109, Tryz.ntmps109
    go_wp2
    go_ret
    rw [HE.out]
    exact new_one w _ _ rfl
  have t5 : ((c : Int) == 383) = false := eqb_false (by omega)
  rw [beq_false h5, if_neg (by decide)] at hR
  by_cases h6 : c = 64257
  · have t6 : ((c : Int) == 64257) = true := eqb_true (by omega)
    have HE : Hid (R = [102, 105]) := Lib.hid (by rw [← hR, h6]; rfl)
    clear hR h1 h2 h3 h4 h5 h6
    go_enter Tryz.func109, Tryz.ntmps109
    go_wp2
    go_ret
    rw [HE.out]
    exact new_two w _ _ _ _ rfl rfl
  have t6 : ((c : Int) == 64257) = false := eqb_false (by omega)
  rw [beq_false h6, if_neg (by decide)] at hR
  by_cases h7 : c = 64258
  · have t7 : ((c : Int) == 64258) = true := eqb_true (by omega)
    have HE : Hid (R = [102, 108]) := Lib.hid (by rw [← hR, h7]; rfl)
    clear hR h1 h2 h3 h4 h5 h6 h7
    go_enter Tryz.func109, Tryz.ntmps109
    go_wp2
    go_ret
    rw [HE.out]
    exact new_two w _ _ _ _ rfl rfl
  have t7 : ((c : Int) == 64258) = false := eqb_false (by omega)
  rw [beq_false h7, if_neg (by decide)] at hR
  by_cases h8 : 65281 ≤ c
  · have t8 : decide (65281 ≤ (c : Int)) = true := by simp; omega
    by_cases h9 : c ≤ 65374
    · have t9 : decide ((c : Int) ≤ 65374) = true := by simp; omega
      have HE : Hid (R = [c - 65248]) := Lib.hid (by
        rw [← hR, if_pos]
        unfold inN
        rw [Bool.and_eq_true, Nat.ble_eq, Nat.ble_eq]
        exact ⟨h8, h9⟩)
      clear hR h1 h2 h3 h4 h5 h6 h7
      go_enter Tryz.func109, Tryz.ntmps109
      go_wp2
      go_ret
      rw [HE.out]
      exact new_one w _ _ (by omega)
    · have t9 : decide ((c : Int) ≤ 65374) = false := by simp; omega
      have t10 : decide ((c : Int) < 192) = false := by simp; omega
      have hin : inN c 65281 65374 = false := by
        unfold inN
        rw [← Bool.not_eq_true, Bool.and_eq_true, Nat.ble_eq, Nat.ble_eq]
        omega
      have hlt : Nat.blt c 192 = false := by rw [← Bool.not_eq_true, Nat.blt_eq]; omega
      rw [hin, if_neg (by decide), hlt, if_neg (by decide)] at hR
      have hp := refPair_any c w
      obtain ⟨b, hb⟩ : ∃ b, (pairR c).1 = b := ⟨_, rfl⟩
      obtain ⟨m, hm⟩ : ∃ m, (pairR c).2 = m := ⟨_, rfl⟩
      rw [hb, hm] at hR hp
      have HP := Lib.hid hp
      clear hp hb hm h1 h2 h3 h4 h5 h6 h7 hin hlt
      by_cases hb0 : b = 0
      · have t11 : ((b : Int) != 0) = false := by rw [hb0]; rfl
        have HE : Hid (R = [c]) := Lib.hid (by rw [← hR, hb0]; rfl)
        clear hR hb0
        go_enter Tryz.func109, Tryz.ntmps109
        go_wp2_with fail
        refine HP.out.mono ?_
        rintro e w1 ⟨rfl, k1⟩
        unfold two
        go_wp2
        go_ret
        rw [HE.out]
        exact (new_one w1 _ _ rfl).from k1
      · have t11 : ((b : Int) != 0) = true := by simp; omega
        have HE : Hid (R = [b, m]) := Lib.hid (by rw [← hR, beq_false hb0]; rfl)
        clear hR hb0
        go_enter Tryz.func109, Tryz.ntmps109
        go_wp2_with fail
        refine HP.out.mono ?_
        rintro e w1 ⟨rfl, k1⟩
        unfold two
        go_wp2
        go_ret
        rw [HE.out]
        exact (new_two w1 _ _ _ _ rfl rfl).from k1
  · have t8 : decide (65281 ≤ (c : Int)) = false := by simp; omega
    have hin : inN c 65281 65374 = false := by
      unfold inN
      rw [← Bool.not_eq_true, Bool.and_eq_true, Nat.ble_eq, Nat.ble_eq]
      omega
    rw [hin, if_neg (by decide)] at hR
    by_cases h9 : c < 192
    · have t10 : decide ((c : Int) < 192) = true := by simp; omega
      have HE : Hid (R = [c]) := Lib.hid (by
        rw [← hR, if_pos]
        rw [Nat.blt_eq]
        exact h9)
      clear hR h1 h2 h3 h4 h5 h6 h7 hin
      go_enter Tryz.func109, Tryz.ntmps109
      go_wp2
      go_ret
      rw [HE.out]
      exact new_one w _ _ rfl
    · have t10 : decide ((c : Int) < 192) = false := by simp; omega
      have hlt : Nat.blt c 192 = false := by rw [← Bool.not_eq_true, Nat.blt_eq]; omega
      rw [hlt, if_neg (by decide)] at hR
      have hp := refPair_any c w
      obtain ⟨b, hb⟩ : ∃ b, (pairR c).1 = b := ⟨_, rfl⟩
      obtain ⟨m, hm⟩ : ∃ m, (pairR c).2 = m := ⟨_, rfl⟩
      rw [hb, hm] at hR hp
      have HP := Lib.hid hp
      clear hp hb hm h1 h2 h3 h4 h5 h6 h7 hin hlt
      by_cases hb0 : b = 0
      · have t11 : ((b : Int) != 0) = false := by rw [hb0]; rfl
        have HE : Hid (R = [c]) := Lib.hid (by rw [← hR, hb0]; rfl)
        clear hR hb0
        go_enter Tryz.func109, Tryz.ntmps109
        go_wp2_with fail
        refine HP.out.mono ?_
        rintro e w1 ⟨rfl, k1⟩
        unfold two
        go_wp2
        go_ret
        rw [HE.out]
        exact (new_one w1 _ _ rfl).from k1
      · have t11 : ((b : Int) != 0) = true := by simp; omega
        have HE : Hid (R = [b, m]) := Lib.hid (by rw [← hR, beq_false hb0]; rfl)
        clear hR hb0
        go_enter Tryz.func109, Tryz.ntmps109
        go_wp2_with fail
        refine HP.out.mono ?_
        rintro e w1 ⟨rfl, k1⟩
        unfold two
        go_wp2
        go_ret
        rw [HE.out]
        exact (new_two w1 _ _ _ _ rfl rfl).from k1

end Go.Proofs.YtmgofhbdaopapaaGreatDoor

namespace Go.Proofs.YtmgofhbdaopapaaGreatDoor
open Go.RowKit

section
variable {P : Program} (w : World)
theorem run_append_where (base : Nat) (t ty e : TypeId) (i : TypeInfo) (z : Value) (bytes : Nat) (ht : P.underlying t = some (.slice e)) (hi : P.info? e = some i) (hz : i.zero = some z)
    (hsize : i.size = 1) (hby : i.bytes = bytes) (hzs : z.cells.size = 1)
    (v : Value) (n : Nat) (xs : List Value) (hown : w.ownsRow base e 1 v n xs)
    (a : Addr) (m c : Nat) (news : List Value) (hl : news.length = m) (hm : 0 < m) (hnews : ∀ j u, news[j]? = some u → w.cell? (a.add j) = some u) (h1 : ∀ u ∈ news, u.oneCell' = true)
    (h63 : n + m ≤ maxLen) (hbytes : (n + m) * bytes ≤ 140737488355328) (hbase : base ≤ w.heap.size) :
    ∃ v' w', (Builtin.append_ #[t, t] ty #[v, .slice (some a) m c]).run P w = .ok v' w' ∧ w'.ownsRow base e 1 v' (n + m) (xs ++ news) ∧ w.grownBy w' v.ownBlock ∧
      (∀ g, v'.ownBlock = some g → v.ownBlock = some g ∨ w.heap.size ≤ g) := by
  have hsmall : n + m ≤ 9223372036854775807 := by simp only [maxLen] at h63; omega
  obtain ⟨v', w', hr, h2, h3, _⟩ := run_append_own (P := P) w base t ty e i z 1 bytes ht hi hz hsize hby hzs (by decide) v n xs hown a m c news (by omega) hnews h1 h63 hbytes hbase
  refine ⟨v', w', hr, h2, h3, ?_⟩
  rcases hown.2 with ⟨rfl, rfl⟩ | ⟨g, cap, cur, rfl, hbg, hg, hnc, hcm, hcs, htake⟩
  · have hr2 := run_append_nil (P := P) w t ty e i z ht hi hz a m c news (by rw [hsize]; omega) hnews hm (by omega) (by have hb := hbytes; rw [hby]; simp only [Nat.zero_add] at hb; omega)
    rw [hr] at hr2
    injection hr2 with hv _
    intro k hk
    rw [hv] at hk
    simp only [Value.ownBlock, Option.some.injEq] at hk
    exact .inr (by omega)
  · by_cases hroom : n + m ≤ cap
    · have hr2 := run_append_room (P := P) w t ty e i ht hi g n cap cur hg a m c news (by rw [hsize]; omega) hnews h1 hroom (by rw [hsize]; omega)
      rw [hr] at hr2
      injection hr2 with hv _
      intro k hk
      rw [hv] at hk
      exact .inl hk
    · have holds : ∀ j u, xs[j]? = some u → w.cell? ((⟨g, 0, none⟩ : Addr).add j) = some u := hown.cells (g := g) rfl
      have hxl := hown.1
      have hr2 := run_append_grow (P := P) w t ty e i z ht hi hz ⟨g, 0, none⟩ n cap xs (by rw [hsize]; exact hxl) holds a m c news (by rw [hsize]; omega) hnews (by omega) (by omega) (by rw [hby]; exact growslice_fits (by omega) hbytes)
      rw [hr] at hr2
      injection hr2 with hv _
      intro k hk
      rw [hv] at hk
      simp only [Value.ownBlock, Option.some.injEq] at hk
      exact .inr (by omega)
end

theorem append_one_where {P : Program} {α : Type} {val : α → Value} (t e : TypeId) (z : Value) (bytes : Nat) (ht : P.underlying t = some (.slice e)) (info : (P.info? e).map (fun i => (i.zero, i.size, i.bytes)) = some (some z, 1, bytes))
    (hzs : z.cells.size = 1) (hbytes : bytes ≤ 100) (hval : ∀ x, (val x).oneCell' = true)
    {ops : Array Oper} {rest : List Oper} {o : Oper} {a : Act} {Q : Exit → Act → World → Prop} (w : World) (hgd : o.guard = none) (s x : Operand)
    (ho : o.op = .call { callee := .builtin .append, args := #[s, x], argTypes := #[t, t] })
    (base : Nat) (v : Value) (xs : List α) (hs : a.eval s = v) (hown : w.ownsRow base e 1 v xs.length (xs.map val)) (y : α) (u : Value) (hu : u = val y)
    (hx : a.eval x = .slice (some ⟨w.heap.size, 0, none⟩) 1 1) (hlen : xs.length ≤ 1000000000000 - 1) (hbase : base ≤ w.heap.size)
    (h : ∀ v' w', w'.ownsRow base e 1 v' (xs ++ [y]).length ((xs ++ [y]).map val) → w.grownBy w' v.ownBlock → (∀ g, v'.ownBlock = some g → v.ownBlock = some g ∨ w.heap.size ≤ g) → wpList P ops Q rest (a.put o.dst v') w') : wpList P ops Q (o :: rest) a (w.alloc (.cells #[u] e)) := by
  obtain ⟨i0, hi, hz0, hz1, hz2⟩ := info_parts info
  subst hu
  have hown1 : (w.alloc (.cells #[val y] e)).ownsRow base e 1 v xs.length (xs.map val) := own_keep_below hown ((Below.refl _ _).alloc (Nat.le_refl _) _)
  refine wpList_plain hgd fun K hK => ?_
  have hcell : ∀ j u, [val y][j]? = some u → (w.alloc (.cells #[val y] e)).cell? ((⟨w.heap.size, 0, none⟩ : Addr).add j) = some u := by
    intro j u hu
    cases j with
    | zero => simp at hu; subst hu; rw [plain_add]; exact (Box.made w e #[val y]).cell 0
    | succ j => simp at hu
  obtain ⟨v', w', hr, h2, h3, h4⟩ := run_append_where (P := P) (w.alloc (.cells #[val y] e)) base t o.type e i0 z bytes ht hi hz0 hz1 hz2 hzs v xs.length (xs.map val) hown1 ⟨w.heap.size, 0, none⟩ 1 1 [val y] rfl (by decide) hcell
    (by intro u hu; rw [List.mem_singleton] at hu; subst hu; exact hval y) (by unfold maxLen; omega) (by have := Nat.mul_le_mul (show xs.length + 1 ≤ 1000000000000 by omega) hbytes; omega) (by simp; omega)
  unfold Oper.wp execOp
  simp only [ho, resolve, invoke, builtin, Sem.run_bind, Sem.run_pure, Result.andThen_ok, List.map_toArray, List.map_cons, List.map_nil, hs, hx, hr]
  refine hK _ _ (h v' w' (by rw [List.length_append, List.map_append]; exact h2) (grown_trans (grown_of_below _ ((Below.refl _ _).alloc (Nat.le_refl _) _)) h3) fun g hg => ?_)
  rcases h4 g hg with h5 | h5
  · exact .inl h5
  · simp at h5
    exact .inr (by omega)

end Go.Proofs.YtmgofhbdaopapaaGreatDoor

namespace Go.Proofs.YtmgofhbdaopapaaGreatDoor
open Go.RowKit

/-- append of one integer; the new row is the old one, or a new block. -/
theorem append_int_w {ops : Array Oper} {rest : List Oper} {o : Oper} {a : Act} {Q : Exit → Act → World → Prop} (w : World) (hgd : o.guard = none) (s x : Operand)
    (ho : o.op = .call { callee := .builtin .append, args := #[s, x], argTypes := #[35, 35] })
    (base : Nat) (v : Value) (xs : List Nat) (hs : a.eval s = v) (hown : w.ownsRow base 3 1 v xs.length (xs.map nv)) (y : Nat) (u : Value) (hu : u = nv y)
    (hx : a.eval x = .slice (some ⟨w.heap.size, 0, none⟩) 1 1) (hlen : xs.length ≤ 1000000000000 - 1) (hbase : base ≤ w.heap.size)
    (h : ∀ v' w', w'.ownsRow base 3 1 v' (xs ++ [y]).length ((xs ++ [y]).map nv) → w.grownBy w' v.ownBlock → (∀ g, v'.ownBlock = some g → v.ownBlock = some g ∨ w.heap.size ≤ g) → wpList Tryz.prog ops Q rest (a.put o.dst v') w') : wpList Tryz.prog ops Q (o :: rest) a (w.alloc (.cells #[u] 3)) :=
  append_one_where 35 3 (.int .i64 0) 8 Tryz.underlying35 info_int rfl (by decide) one_nv w hgd s x ho base v xs hs hown y u hu hx hlen hbase h

section
variable {w : World} {B e n : Nat} {v : Value} {xs : List Value}
/-- A row of the call's own with elements, written out. -/
theorem own_open (h : w.ownsRow B e 1 v n xs) (h0 : 0 < n) : ∃ g cap cur, v = .slice (some ⟨g, 0, none⟩) n cap ∧ B ≤ g ∧ Box w g e cur ∧ n ≤ cap ∧ cap ≤ maxLen ∧ cur.size = cap ∧ cur.toList.take n = xs := by
  rcases h.2 with ⟨_, h1⟩ | ⟨g, cap, cur, hv, hb, hg, hc, hm, hsz, htake⟩
  · omega
  · exact ⟨g, cap, cur, hv, hb, hg, hc, hm, by simpa using hsz, by simpa using htake⟩
end
theorem own_shut {w : World} {B g n cap : Nat} {e : TypeId} {cur : Array Value} {xs : List Value} (hl : xs.length = n) (hb : B ≤ g) (hg : Box w g e cur) (hc : n ≤ cap) (hm : cap ≤ maxLen) (hs : cur.size = cap) (ht : cur.toList.take n = xs) :
    w.ownsRow B e 1 (.slice (some ⟨g, 0, none⟩) n cap) n xs :=
  ⟨by simp; omega, .inr ⟨g, cap, cur, rfl, hb, hg, hc, hm, by simp [hs], by simp [ht]⟩⟩
theorem take_cell {cur : Array Value} {n j x : Nat} {xs : List Nat} (ht : cur.toList.take n = xs.map nv) (hx : xs[j]? = some x) : cur[j]? = some (nv x) := by
  have h : (xs.map nv)[j]? = some (nv x) := by rw [List.getElem?_map, hx]; rfl
  rw [← ht, List.getElem?_take] at h
  split at h
  · rw [← Array.getElem?_toList]; exact h
  · cases h
theorem swap_take {cur : Array Value} {n : Nat} {P Q : List Nat} {p c : Nat} (ht : cur.toList.take n = (P ++ p :: c :: Q).map nv) :
    ((cur.setIfInBounds P.length (nv c)).setIfInBounds (P.length + 1) (nv p)).toList.take n = (P ++ c :: p :: Q).map nv := by
  rw [Array.toList_setIfInBounds, Array.toList_setIfInBounds, List.take_set, List.take_set, ht, ← List.map_set, ← List.map_set]
  congr 1
  rw [List.set_append_right _ _ (by omega), List.set_append_right _ _ (by omega)]
  simp
theorem quiet_add {P : Program} {f : FuncId} {args : Array Value} {w : World} {q n : Nat} {v : Value}
    (h : Calls P f args (w.drewN (q + n)) fun e w' => e = .returned v ∧ ∃ m, w' = (w.drewN (q + n)).drewN m) : Calls P f args (w.drewN (q + n)) fun e w' => e = .returned v ∧ ∃ m, w' = w.drewN (q + m) :=
  h.mono fun _ _ ⟨he, m, hm⟩ => ⟨he, n + m, by rw [hm, World.drewN_drewN, Nat.add_assoc]⟩

/-- append of one integer, the new row written out. -/
theorem append_int_open {ops : Array Oper} {rest : List Oper} {o : Oper} {a : Act} {Q : Exit → Act → World → Prop} (w : World) (hgd : o.guard = none) (s x : Operand)
    (ho : o.op = .call { callee := .builtin .append, args := #[s, x], argTypes := #[35, 35] })
    (base : Nat) (v : Value) (xs : List Nat) (M : Nat) (hM : xs.length = M) (hs : a.eval s = v) (hown : w.ownsRow base 3 1 v xs.length (xs.map nv)) (y : Nat) (u : Value) (hu : u = nv y)
    (hx : a.eval x = .slice (some ⟨w.heap.size, 0, none⟩) 1 1) (hlen : M ≤ 1000000000000 - 1) (hbase : base ≤ w.heap.size)
    (h : ∀ (g cap : Nat) (cur : Array Value) (w' : World), base ≤ g → Box w' g 3 cur → M + 1 ≤ cap → cap ≤ maxLen → cur.size = cap → cur.toList.take (M + 1) = (xs ++ [y]).map nv → w.grownBy w' v.ownBlock → (v.ownBlock = some g ∨ w.heap.size ≤ g) →
      wpList Tryz.prog ops Q rest (a.put o.dst (.slice (some ⟨g, 0, none⟩) (M + 1) cap)) w') : wpList Tryz.prog ops Q (o :: rest) a (w.alloc (.cells #[u] 3)) := by
  refine append_int_w w hgd s x ho base v xs hs hown y u hu hx (by omega) hbase ?_
  intro v' w' h1 h2 h3
  have hl : (xs ++ [y]).length = M + 1 := by rw [List.length_append, hM]; rfl
  rw [hl] at h1
  obtain ⟨g, cap, cur, rfl, k1, k2, k3, k4, k5, k6⟩ := own_open h1 (by omega)
  exact h g cap cur w' k1 k2 k3 k4 k5 k6 h2 (h3 g rfl)

end Go.Proofs.YtmgofhbdaopapaaGreatDoor
