/-
  The body of the statement RepertoireInverse.
-/
import Derived.Test.YtidbkllhlllnnaaDoorEncodeLaw
namespace Go.Proofs.YtidbkllhlllnnaaDoor
open Go.RowKit

theorem enc_cast {s : List UInt8} {l : List Nat} (h : decR s = some l) : encR (castL l) = some s := by
  obtain ⟨h1, h2⟩ := enc_dec h
  have := encR_nats h2
  rw [h1] at this
  exact this
theorem dec_both {s t : List UInt8} {l : List Nat} {r : Option (List Nat)} (h : decR s = some l) (h2 : decR t = r) : decR (s ++ t) = r.map (l ++ ·) := by rw [dec_app h, h2]
theorem castL_short {s : List UInt8} {l : List Nat} (h : decR s = some l) : (castL l).length ≤ s.length := by rw [castL_len]; exact dec_len h

/-- append of a whole slice, where a guard asks for it. -/
theorem append_want {ops : Array Oper} {rest : List Oper} {o : Oper} {a : Act} {Q : Exit → Act → World → Prop} (w : World) (hw : Region.wanted o (yielded ops a.tmps) = true) (s x : Operand)
    (ho : o.op = .call { callee := .builtin .append, args := #[s, x], argTypes := #[26, 26] })
    (base B : Nat) (v : Value) (xs : List Int) (hs : a.eval s = v) (hown : w.ownsRow base 3 1 v xs.length (xs.map iv))
    (news : List Int) (src : Value) (hx : a.eval x = src) (hsl : Arr iv w B src news) (hlen : xs.length + news.length ≤ 1000000000000) (hbase : base ≤ w.heap.size)
    (h : ∀ v' w', w'.ownsRow base 3 1 v' (xs ++ news).length ((xs ++ news).map iv) → Below base w w' → wpList Tryd.prog ops Q rest (a.put o.dst v') w') : wpList Tryd.prog ops Q (o :: rest) a w := by
  refine wpList_step fun K hK => ?_
  rw [if_pos hw]
  obtain ⟨i0, hi, hz0, hz1, hz2⟩ := info_parts info_int
  have ht : Tryd.prog.underlying 26 = some (.slice 3) := Tryd.underlying26
  rcases hsl with ⟨rfl, rfl⟩ | ⟨ad, c, rfl, _, _, hc⟩
  · have hrun := run_append_owned_none (P := Tryd.prog) (w := w) base 26 o.type 3 i0 1 ht hi v xs.length (xs.map iv) hown
    unfold Oper.wp
    simp [execOp, ho, resolve, invoke, builtin, hs, hx, hrun, Result.andThen]
    exact hK _ _ (h v w (by rw [List.append_nil]; exact hown) (Below.refl _ _))
  · refine wp_append_own w s x 26 ho base 3 i0 (.int .i64 0) 1 8 ht hi hz0 hz1 hz2 rfl (by decide) v xs.length (xs.map iv) hs hown ad news.length c (news.map iv) hx (by simp) ?_ ?_ (by unfold maxLen; omega) (by omega) hbase ?_
    · intro j u hu
      rw [List.getElem?_map] at hu
      cases hj : news[j]? with
      | none => rw [hj] at hu; simp at hu
      | some y => rw [hj] at hu; simp at hu; rw [hc j y hj, hu]
    · intro u hu
      obtain ⟨y, _, rfl⟩ := List.mem_map.1 hu
      exact one_iv y
    · intro v' w' h1 h2 _
      exact hK _ _ (h v' w' (by rw [List.length_append, List.map_append]; exact h1) ((Below.refl _ _).grown h2 hbase fun k hk => (hown.lt k hk).1))
theorem Ints.of_own {w : World} {base : Nat} {v : Value} {xs : List Int} (h : w.ownsRow base 3 1 v xs.length (xs.map iv)) (hl : xs.length ≤ 9223372036854775807) : Ints w v xs := by
  have hA := Arr.of_own h
  obtain ⟨A, c, rfl⟩ := hA.form
  exact ⟨A, _, c, rfl, hl, hA⟩

set_option maxRecDepth 20000 in
set_option maxHeartbeats 3200000 in
theorem repInverse_v (s t : List UInt8) (w : World) (hS : Spans w) (hlen : s.length ≤ 9223372036854775807) (hlen2 : t.length ≤ 9223372036854775807) :
    Calls Tryd.prog 6 #[.string (str s), .string (str t)] w fun e w' => e = .returned (.bool true) ∧ Below w.heap.size w w' := by
  have hsz : (str s).size = s.length := rfl
  have hsz2 : (str t).size = t.length := rfl
  by_cases h5 : 200 < s.length
  · have t1 : decide (200 < (s.length : Int)) = true := by simp; omega
    go_enter Tryd.func6, Tryd.ntmps6
    go_wp2_with fail
    refine (awake_any _ hS).mono ?_
    rintro e w1 ⟨rfl, n1⟩
    have k1 := n1
    go_wp2
    go_ret
    exact ⟨rfl, k1⟩
  have t1 : decide (200 < (s.length : Int)) = false := by simp; omega
  by_cases h6 : 200 < t.length
  · have t2 : decide (200 < (t.length : Int)) = true := by simp; omega
    go_enter Tryd.func6, Tryd.ntmps6
    go_wp2_with fail
    refine (awake_any _ hS).mono ?_
    rintro e w1 ⟨rfl, n1⟩
    have k1 := n1
    go_wp2
    go_ret
    exact ⟨rfl, k1⟩
  have t2 : decide (200 < (t.length : Int)) = false := by simp; omega
  have hs2 : s.length ≤ 10000 := by omega
  have ht2 : t.length ≤ 10000 := by omega
  cases hr : decR s with
  | none =>
    have HS := Lib.hid hr
    obtain ⟨r2, HT⟩ : ∃ r, Hid (decR t = r) := ⟨_, Lib.hid rfl⟩
    obtain ⟨r3, HB⟩ : ∃ r, Hid (decR (s ++ t) = r) := ⟨_, Lib.hid rfl⟩
    clear hr
    go_enter Tryd.func6, Tryd.ntmps6
    go_wp2_with fail
    refine (awake_any _ hS).mono ?_
    rintro e w1 ⟨rfl, n1⟩
    have k1 := n1
    go_wp2_with fail
    refine (prDecode_at w hS s _ _ k1 hs2 HS.out).mono ?_
    rintro e w2 ⟨u1, rfl, h_u1, k2, n2⟩
    go_wp2_with fail
    refine (prDecode_at w hS t _ _ k2 ht2 HT.out).mono ?_
    rintro e w3 ⟨u2, rfl, h_u2, k3, n3⟩
    replace h_u1 := h_u1.up n3
    have hadd := add_str (P := Tryd.prog) (w := w3) s t (by omega)
    go_wp2_with fail
    refine (prDecode_at w hS (s ++ t) _ _ k3 (by rw [List.length_append]; omega) HB.out).mono ?_
    rintro e w4 ⟨u3, rfl, h_u3, k4, n4⟩
    replace h_u1 := h_u1.up n4
    replace h_u2 := h_u2.up n4
    go_wp2_with fail
    refine (prEncode_at w hS _ _ _ _ k4 h_u1 (by decide) (by rfl : encR (resL none) = some [])).mono ?_
    rintro e w5 ⟨rfl, k5, n5⟩
    go_wp2
    go_ret
    exact ⟨rfl, k5⟩
  | some l =>
    have HS := Lib.hid hr
    have HE := Lib.hid (enc_cast hr)
    have HL : Hid ((resL (some l)).length ≤ 10000) := Lib.hid (by have := castL_short hr; show (castL l).length ≤ 10000; omega)
    cases hr2 : decR t with
    | none =>
      have HT := Lib.hid hr2
      have HB := Lib.hid (dec_both hr hr2)
      clear hr hr2
      go_enter Tryd.func6, Tryd.ntmps6
      go_wp2_with fail
      refine (awake_any _ hS).mono ?_
      rintro e w1 ⟨rfl, n1⟩
      have k1 := n1
      go_wp2_with fail
      refine (prDecode_at w hS s _ _ k1 hs2 HS.out).mono ?_
      rintro e w2 ⟨u1, rfl, h_u1, k2, n2⟩
      go_wp2_with fail
      refine (prDecode_at w hS t _ _ k2 ht2 HT.out).mono ?_
      rintro e w3 ⟨u2, rfl, h_u2, k3, n3⟩
      replace h_u1 := h_u1.up n3
      have hadd := add_str (P := Tryd.prog) (w := w3) s t (by omega)
      go_wp2_with fail
      refine (prDecode_at w hS (s ++ t) _ _ k3 (by rw [List.length_append]; omega) HB.out).mono ?_
      rintro e w4 ⟨u3, rfl, h_u3, k4, n4⟩
      replace h_u1 := h_u1.up n4
      replace h_u2 := h_u2.up n4
      go_wp2_with fail
      refine (prEncode_at w hS _ _ _ _ k4 h_u1 HL.out HE.out).mono ?_
      rintro e w5 ⟨rfl, k5, n5⟩
      have hss : ((str (resS (some s))).toList == (str s).toList) = true := beq_self_eq_true _
      go_wp2
      go_ret
      exact ⟨rfl, k5⟩
    | some m =>
      have HT := Lib.hid hr2
      have HM : Hid ((castL m).length ≤ 10000) := Lib.hid (by have := castL_short hr2; omega)
      have HB := Lib.hid (dec_both hr hr2)
      clear hr hr2
      go_enter Tryd.func6, Tryd.ntmps6
      go_wp2_with fail
      refine (awake_any _ hS).mono ?_
      rintro e w1 ⟨rfl, n1⟩
      have k1 := n1
      go_wp2_with fail
      refine (prDecode_at w hS s _ _ k1 hs2 HS.out).mono ?_
      rintro e w2 ⟨u1, rfl, h_u1, k2, n2⟩
      go_wp2_with fail
      refine (prDecode_at w hS t _ _ k2 ht2 HT.out).mono ?_
      rintro e w3 ⟨u2, rfl, h_u2, k3, n3⟩
      replace h_u1 := h_u1.up n3
      have hadd := add_str (P := Tryd.prog) (w := w3) s t (by omega)
      go_wp2_with fail
      refine (prDecode_at w hS (s ++ t) _ _ k3 (by rw [List.length_append]; omega) HB.out).mono ?_
      rintro e w4 ⟨u3, rfl, h_u3, k4, n4⟩
      replace h_u1 := h_u1.up n4
      replace h_u2 := h_u2.up n4
      obtain ⟨A1, m1, c1, rfl, hm1, ha1⟩ := h_u1
      obtain ⟨A2, m2, c2, rfl, hm2, ha2⟩ := h_u2
      have hl1 : (castL l).length ≤ 10000 := HL.out
      have hl2 : (castL m).length ≤ 10000 := HM.out
      have h_u1 : Ints w4 (.slice A1 m1 c1) (castL l) := ⟨A1, m1, c1, rfl, hm1, ha1⟩
      have ha1' := ha1.up ((Below.refl _ _).alloc (Nat.le_refl _) (.cells #[] 3))
      have hown0 := own_empty w4 3
      have hnew : Below w4.heap.size w4 (w4.alloc (.cells #[] 3)) := (Below.refl _ _).alloc (Nat.le_refl _) _
      go_wp2_with (first
        | (at_builtin; refine append_want (w4.alloc (.cells #[] 3)) rfl (.tmp 53) (.tmp 54) rfl w4.heap.size _ (.slice (some ⟨w4.heap.size, 0, none⟩) 0 0) [] rfl hown0 (castL l) (.slice A1 m1 c1) rfl ha1' (by simp; omega) (by simp) ?_; intro r1 w5 hown1 hb1; have hb5 := hnew.trans hb1; have ha2' := ha2.up hb5; have hs5 := hb5.size)
        | (at_builtin; refine append_want w5 rfl (.tmp 55) (.tmp 56) rfl w4.heap.size _ r1 _ rfl hown1 (castL m) (.slice A2 m2 c2) rfl ha2' (by simp; omega) hs5 ?_; intro r2 w6 hown2 hb2))
      have hb6 := hb5.trans hb2
      have h_r2 : Ints w6 r2 (castL l ++ castL m) := Ints.of_own hown2 (by rw [List.length_append]; omega)
      refine (same_at w _ _ _ _ true _ (below_next k4 hb6) (h_u3.up hb6) h_r2 (decide_eq_true (castL_app l m))).mono ?_
      rintro e w7 ⟨rfl, k7, n7⟩
      have h_u1 := (h_u1.up hb6).up n7
      clear ha1 ha1' ha2 ha2' hown0 hown1 hown2 h_r2
      go_wp2_with fail
      refine (prEncode_at w hS _ _ _ _ k7 h_u1 HL.out HE.out).mono ?_
      rintro e w8 ⟨rfl, k8, n8⟩
      have hss : ((str (resS (some s))).toList == (str s).toList) = true := beq_self_eq_true _
      go_wp2
      go_ret
      exact ⟨rfl, k8⟩

end Go.Proofs.YtidbkllhlllnnaaDoor
