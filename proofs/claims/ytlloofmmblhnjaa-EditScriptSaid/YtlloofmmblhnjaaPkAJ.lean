/-
  The program's iterator over rows: its contract.
  The program's Within, Distance.
-/
import Derived.Test.YtlloofmmblhnjaaPkAI
import Derived.Test.YtlloofmmblhnjaaPkAC
namespace Go.Proofs.Ytlloofmmblhnjaa
open Go.RowKit Go.Shelf
attribute [local go_sem] Oper.semAt_some

set_option maxRecDepth 20000 in
set_option maxHeartbeats 12800000 in
theorem rows_seq {a b : List Int} {R : Nat} {T : Nat → Nat → Nat} {S : Nat → Nat → List OpI} (gr : Grid a b R T S) (n : Nat) (hn5 : 5 ≤ n) (A A' : Option Addr) (la ca lb cb : Nat) (most : Int) (c0 n0 Bp Bf B0 : Nat) (w0 : World)
    (hA : Arr iv w0 n0 (.slice A la ca) a) (hB : Arr iv w0 n0 (.slice A' lb cb) b) (hla : la ≤ 100000) (hlb : lb ≤ 100000) (hmost : most ≤ 400000) (hen : dz (enZ a b) ≤ most) (hc0 : (c0 : Int) ≤ most)
    (hn0 : n0 ≤ w0.heap.size) (hf : Box w0 Bf 57 (rowCells a b most (c0, B0))) (hp : Box w0 Bp 52 #[.slice A la ca, .slice A' lb cb, .int .i64 (R : Int), .int .i64 most]) (hrow : RowB w0 B0 (rowL a b T most c0)) :
    SeqV Fence.wide n Try.prog 42 #[.pointer (some ⟨Bf, 0, none⟩), .pointer (some ⟨Bp, 0, none⟩)] (fun x : RowX => #[rowVal a b most x]) (fun k => k < n0 ∨ k = Bp ∨ k = B0)
      (fun pre x W => x.1 = c0 + pre.length ∧ RowB W x.2 (rowL a b T most x.1) ∧ (x.2 = B0 ∨ w0.heap.size ≤ x.2)) (fun xs => xs.length = rowCnt (T 0 0) most c0) (rowCnt (T 0 0) most c0) w0 := by
  intro l J g0 W hW hJc hJa hY h0
  have hWs := hW.size
  have hfW := hf.below hW hf.lt
  have hI0 : RowsI a b T most #[.slice A la ca, .slice A' lb cb, .int .i64 (R : Int), .int .i64 most] n0 Bp B0 W.heap.size w0 J (c0, B0) W.heap.size g0 [] (W.alloc (.cells (rowCells a b most (c0, B0)) 57)) := by
    have hb := (Below.refl W.heap.size W).alloc (Nat.le_refl _) (.cells (rowCells a b most (c0, B0)) 57)
    exact {
      j := hJa _ _ _ _ h0 (Soft.of_below hb)
      row := (hrow.keep (hW.block _ hrow.lt)).keep (hb.block _ (by have := hrow.lt; omega))
      box := Box.made _ _ _
      br := Nat.le_refl _
      gr := fun e => by
        obtain ⟨o, h2, _⟩ := hJc _ _ _ h0 _ e
        have := (Array.getElem?_eq_some_iff.1 h2).1
        omega
      gb := .inl rfl
      pair := (hp.below hW hp.lt).below hb (by have := hp.lt; omega)
      old := fun k hk => (hb.block k (by omega)).trans (hW.block k (by omega))
      size := hb.size
      bp := by have := hp.lt; omega
      bn := by omega }
  have k0 := hfW.cell 0
  have k1 := hfW.cell 1
  have k2 := hfW.cell 2
  simp [rowCells] at k0 k1 k2
  have hA0 : a.length = la ∧ b.length = lb := ⟨hA.len, hB.len⟩
  have HI0 := Lib.hid hI0
  have w1 : Fence.wide.fn 43 := trivial
  have w2 : Fence.wide.fn 44 := trivial
  have hn1 : 1 ≤ n := by omega
  have HA := Lib.hid hA
  have HB := Lib.hid hB
  have HY := Lib.hid hY
  have HJa := Lib.hid hJa
  have HJc := Lib.hid hJc
  clear hA hB hf hp hrow hfW hI0 h0 hY hJa hJc
  refine callsIn_of_wp Try.func42 rfl trivial ?_ rfl
  simp only [Try.ntmps42, List.size_toArray, List.length_cons, List.length_nil, Nat.reduceAdd, Nat.reduceSub, Array.replicate_succ, Array.replicate_zero, List.push_toArray, List.append_toArray, List.nil_append, List.cons_append]
  gi_wp2
  clear k0 k1 k2
  gi_loopw [4] (fun v wr => ∃ (t k Br B : Nat) (g : Option Nat) (pre : List RowX), v = .pointer (some ⟨Br, 0, none⟩) ∧ pre.length = t ∧ c0 + t = k ∧ (k : Int) ≤ most ∧ (t = 0 ∨ k ≤ T 0 0) ∧
      Hid (RowsI a b T most #[.slice A la ca, .slice A' lb cb, .int .i64 (R : Int), .int .i64 most] n0 Bp B0 W.heap.size w0 J (k, B) Br g pre wr)) (fun v wr => most.toNat + 1 - costAt v wr)
  case atStart => exact ⟨0, c0, _, B0, g0, [], rfl, rfl, rfl, hc0, .inl rfl, HI0⟩
  case round =>
    obtain ⟨t, k, Br, B, g, pre, rfl, hpre, hk, hkm, htD, HI⟩ := hrel
    have hMe : costAt (.pointer (some ⟨Br, 0, none⟩)) wr = k := costAt_box HI.out.box
    have hat := at_any (k : Int) (rowLo a b most k) 0 (some ⟨B, 0, none⟩) (rowN a b most k) (rowN a b most k) (rowL a b T most k) wr (HI.out.row.arr' (rowL_len _ _ _ _ _))
      (by unfold rowN rowLo; omega) (by have := hA0.1; have := hA0.2; unfold rowLo enZ; omega) (by omega)
    rw [rowAt_val (by omega) (by omega)] at hat
    obtain ⟨lo, hlo⟩ : ∃ lo, rowLo a b most k = lo := ⟨_, rfl⟩
    obtain ⟨L, hL⟩ : ∃ L, rowN a b most k = L := ⟨_, rfl⟩
    obtain ⟨p0, hp0⟩ : ∃ p, plc a b T k 0 = p := ⟨_, rfl⟩
    have hpz : 0 < p0 ↔ (k : Int) < (T 0 0 : Int) := by rw [← hp0]; exact plc_zero gr (by omega)
    rw [hlo, hL, hp0] at hat
    have HAt := Lib.hid hat
    have hbx := HI.out.box
    have e0 := hbx.cell 0
    have e1 := hbx.cell 1
    have e2 := hbx.cell 2
    simp [rowCells, hlo, hL] at e0 e1 e2
    have HLo := Lib.hid hlo
    have HL := Lib.hid hL
    clear hat hbx hp0 hlo hL
    by_cases hD : (k : Int) < (T 0 0 : Int)
    · have hp : 0 < p0 := hpz.2 hD
      have hcnt : t < rowCnt (T 0 0) most c0 := by unfold rowCnt; omega
      have HPre := Lib.hid hpre
      have HK := Lib.hid hk
      have HM := Lib.hid hMe
      clear hpz hpre hk htD hMe
      gi_wp2_with fail
      refine (callsIn_wide.2 HAt.out).mono ?_
      rintro e w1 ⟨rfl, k1⟩
      have HI1 := Lib.hid (HI.out.below HJa.out k1)
      have hbx := HI1.out.box
      have e0 := hbx.cell 0
      have e1 := hbx.cell 1
      have e2 := hbx.cell 2
      simp [rowCells, HLo.out, HL.out] at e0 e1 e2
      obtain ⟨fn, tmps, assign, body, hy, hRn⟩ := HY.out g pre (k, B) w1 HI1.out.j ⟨by rw [HPre.out]; exact HK.out.symm, HI1.out.row, by
        rcases HI1.out.gb with e | e
        · exact .inl e
        · exact .inr (Nat.le_trans hWs e.1)⟩ (by rw [HPre.out]; exact hcnt)
      dsimp only [rowVal, rowCells] at hy
      rw [HLo.out, HL.out] at hy
      clear HI HAt hbx k1
      gi_wp2
      refine (round_wideE hRn).mono ?_
      rintro e W3 ⟨rfl, g3, hJ3, hR3⟩
      have HI3 := Lib.hid (HI1.out.round hJ3 hR3)
      clear hJ3 hR3 hRn hy e0 e1 e2 HI1
      have hbx := HI3.out.box
      have hpx := HI3.out.pair
      have e0 := hbx.cell 0
      have e1 := hbx.cell 1
      have e2 := hbx.cell 2
      have f0 := hbx.free 0
      have f1 := hbx.free 1
      have f2 := hbx.free 2
      have d0 := hpx.cell 0
      have d1 := hpx.cell 1
      have d2 := hpx.cell 2
      have d3 := hpx.cell 3
      simp [rowCells, HLo.out, HL.out] at e0 e1 e2 d0 d1 d2 d3
      clear hpx
      by_cases hm : (k : Int) < most
      · have t1 : decide ((k : Int) < most) = true := decide_eq_true hm
        obtain ⟨k', hk'⟩ : ∃ k', k + 1 = k' := ⟨_, rfl⟩
        have HN := Lib.hid (next_any gr A A' la ca lb cb most k B W3 ((HA.out.keep fun p hp => by simp [World.cell?, HI3.out.old p.block hp]).more (by have := HI3.out.size; have := HI3.out.bn; omega)) ((HB.out.keep fun p hp => by simp [World.cell?, HI3.out.old p.block hp]).more (by have := HI3.out.size; have := HI3.out.bn; omega)) hla hlb hmost hen (by omega) HI3.out.row)
        rw [HLo.out, HL.out, hk'] at HN
        obtain ⟨lo', hlo'⟩ : ∃ lo, rowLo a b most (k' : Int) = lo := ⟨_, rfl⟩
        obtain ⟨L', hL'⟩ : ∃ L, rowN a b most (k' : Int) = L := ⟨_, rfl⟩
        rw [hlo', hL'] at HN
        have HLo' := Lib.hid hlo'
        have HL' := Lib.hid hL'
        have HK' := Lib.hid hk'
        clear hlo' hL' hk' hbx
        gi_wp2_with fail
        refine (callsIn_wide.2 HN.out).mono ?_
        rintro e w4 ⟨B', rfl, hB', hrow', kb⟩
        have hbx4 := Box.below HI3.out.box kb HI3.out.box.lt
        have y0 := hbx4.cell 0
        have y1 := hbx4.cell 1
        have y2 := hbx4.cell 2
        have f0 := hbx4.free 0
        have f1 := hbx4.free 1
        have f2 := hbx4.free 2
        simp [rowCells, HLo.out, HL.out] at y0 y1 y2
        have hbx5 : Box (((w4.setCell ⟨Br, 0, none⟩ (.int .i64 (k' : Int))).setCell ⟨Br, 1, none⟩ (.int .i64 lo')).setCell ⟨Br, 2, none⟩ (.slice (some ⟨B', 0, none⟩) L' L')) Br 57 (rowCells a b most (k', B')) := by
          have := ((hbx4.put 0 (.int .i64 (k' : Int))).put 1 (.int .i64 lo')).put 2 (.slice (some ⟨B', 0, none⟩) L' L')
          have e : (((rowCells a b most (k, B)).setIfInBounds 0 (.int .i64 (k' : Int))).setIfInBounds 1 (.int .i64 lo')).setIfInBounds 2 (.slice (some ⟨B', 0, none⟩) L' L') = rowCells a b most (k', B') := by
            simp [rowCells, HLo'.out, HL'.out]
          rwa [e] at this
        have kg := grown_trans (grown_trans (grown_set w4 Br 0 (.int .i64 (k' : Int))) (grown_set _ Br 1 (.int .i64 lo'))) (grown_set _ Br 2 (.slice (some ⟨B', 0, none⟩) L' L'))
        have HI5 := Lib.hid (HI3.out.step HJa.out HJc.out (x' := (k', B')) kb hB' hrow' kg hbx5)
        have z0 := hbx5.cell 0
        have z1 := hbx5.cell 1
        have z2 := hbx5.cell 2
        simp [rowCells, HLo'.out, HL'.out] at z0 z1 z2
        clear kb hbx4 hbx5 kg hrow' hB'
        gi_wp2
        have HI6 := HI5.out.anew HJa.out HJc.out
        simp only [World.size_setCell] at HI6
        have hMe6 := costAt_box HI6.box
        simp only [rowCells, HLo'.out, HL'.out] at HI6 hMe6
        refine ⟨⟨t + 1, k', _, B', g3, pre ++ [(k, B)], rfl, by rw [List.length_append, List.length_singleton, HPre.out], by rw [← HK'.out, ← HK.out]; omega, by have := HK'.out; omega, .inr (by have := HK'.out; omega), Lib.hid HI6⟩, ?_⟩
        rw [hMe6, HM.out]
        have := HK'.out
        omega
      · have t1 : decide ((k : Int) < most) = false := decide_eq_false hm
        clear hbx
        gi_wp2
        go_end0
        refine ⟨⟨_, rfl⟩, _, ?_, _, HI3.out.j⟩
        rw [List.length_append, List.length_singleton, HPre.out]
        have := HK.out
        unfold rowCnt
        omega
    · have hp : decide (0 < p0) = false := decide_eq_false fun h => hD (hpz.1 h)
      have HE : Hid (pre.length = rowCnt (T 0 0) most c0) := Lib.hid (by unfold rowCnt; omega)
      clear hpz hpre hk htD hMe
      gi_wp2_with fail
      refine (callsIn_wide.2 HAt.out).mono ?_
      rintro e w1 ⟨rfl, k1⟩
      gi_wp2
      refine ⟨fun _ h => (by cases h), ?_⟩
      gi_wp2
      go_end0
      exact ⟨⟨_, rfl⟩, _, HE.out, _, (HI.out.below HJa.out k1).j⟩

end Go.Proofs.Ytlloofmmblhnjaa

namespace Go.Proofs.Ytlloofmmblhnjaa
open Go.RowKit Go.Shelf
attribute [local go_sem] Oper.semAt_some

theorem rows_any (pc rc : Array Value) (w : World) (A A' : Option Addr) (la ca lb cb : Nat) (R most : Int) (c lo : Int) (B L : Nat) (hpc : pc = #[.slice A la ca, .slice A' lb cb, .int .i64 R, .int .i64 most]) (hrc : rc = #[.int .i64 c, .int .i64 lo, .slice (some ⟨B, 0, none⟩) L L]) :
    Calls Try.prog 34 #[.agg pc, .agg rc] w fun e w' => e = .returned (.func (.func 42) #[] #[.pointer (some ⟨w.heap.size + 1, 0, none⟩), .pointer (some ⟨w.heap.size, 0, none⟩)]) ∧ w' = (w.alloc (.cells pc 52)).alloc (.cells rc 57) := by
  subst hpc hrc
  go_enter Try.func34, Try.ntmps34
  go_wp2
  go_ret
  exact ⟨rfl, rfl⟩

set_option maxRecDepth 20000 in
set_option maxHeartbeats 12800000 in
theorem prWithin_any (A A' : Option Addr) (n c m c' : Nat) (a b : List Int) (k : Int) (w : World) (h : Arr iv w w.heap.size (.slice A n c) a) (h' : Arr iv w w.heap.size (.slice A' m c') b) (hn : n ≤ 100000) (hm : m ≤ 100000) (hk0 : -9223372036854775808 ≤ k) (hk1 : k < 9223372036854775808) :
    Calls Try.prog 13 #[.slice A n c, .slice A' m c', .int .i64 k] w fun e w' => e = .returned (.tuple #[.int .i64 ((withinE a b k).1 : Int), .bool (withinE a b k).2]) ∧ Below w.heap.size w w' := by
  have hla := h.len
  have hlb := h'.len
  have hlow1 := ed_low a b
  have hlow2 := ed_low2 a b
  have hhigh := ed_high a b
  obtain ⟨M, hM⟩ : ∃ M, max n m = M := ⟨_, rfl⟩
  have hMz : max (n : Int) (m : Int) = (M : Int) := by omega
  obtain ⟨most, hmo⟩ : ∃ x, min k (M : Int) = x := ⟨_, rfl⟩
  obtain ⟨z1, hz1⟩ : ∃ x, (n : Int) - (m : Int) = x := ⟨_, rfl⟩
  obtain ⟨z2, hz2⟩ : ∃ x, (m : Int) - (n : Int) = x := ⟨_, rfl⟩
  have wz1 : IntKind.i64.wrap z1 = z1 := wraps_i64 _ (by omega) (by omega)
  have wz2 : IntKind.i64.wrap z2 = z2 := wraps_i64 _ (by omega) (by omega)
  by_cases h1 : most < z1
  · have hw : withinE a b k = (0, false) := by unfold withinE; rw [if_neg (by omega)]
    rw [hw]
    clear h h' hlow1 hlow2 hhigh hla hlb hM hw
    go_enter Try.func13, Try.ntmps13
    go_wp2
    go_ret2
    exact ⟨rfl, Below.refl _ _⟩
  by_cases h2 : most < z2
  · have hw : withinE a b k = (0, false) := by unfold withinE; rw [if_neg (by omega)]
    rw [hw]
    clear h h' hlow1 hlow2 hhigh hla hlb hM hw
    go_enter Try.func13, Try.ntmps13
    go_wp2
    go_ret2
    exact ⟨rfl, Below.refl _ _⟩
  have hen : dz (enZ a b) ≤ most := by unfold dz enZ; omega
  have hmo0 : 0 ≤ most := by omega
  have hmoM : most ≤ 100000 := by omega
  obtain ⟨W2, hW2⟩ : ∃ W2, (w.alloc (.cells #[.slice A n c, .slice A' m c', .int .i64 1, .int .i64 most] 52)).alloc (.cells #[.int .i64 0] 3) = W2 := ⟨_, rfl⟩
  have hs2 : W2.heap.size = w.heap.size + 2 := by rw [← hW2]; simp
  have kb2 : Below w.heap.size w W2 := by rw [← hW2]; exact ((Below.refl _ w).alloc (Nat.le_refl _) _).alloc (by simp) _
  have hbp : Box W2 w.heap.size 52 #[.slice A n c, .slice A' m c', .int .i64 1, .int .i64 most] := by rw [← hW2]; exact (Box.made w _ _).alloc _
  have hbc : Box W2 (w.heap.size + 1) 3 #[.int .i64 0] := by
    rw [← hW2]
    have := Box.made (w.alloc (.cells #[.slice A n c, .slice A' m c', .int .i64 1, .int .i64 most] 52)) 3 #[.int .i64 0]
    rwa [World.size_alloc] at this
  have HA := Lib.hid h
  have HB := Lib.hid h'
  have HF : Hid (∀ W, Below W2.heap.size W2 W → Calls Try.prog 35 #[.agg #[.slice A n c, .slice A' m c', .int .i64 1, .int .i64 most]] W fun e w' => ∃ B : Nat, e = .returned (.agg #[.int .i64 0, .int .i64 (enZ a b), .slice (some ⟨B, 0, none⟩) 1 1]) ∧ W2.heap.size ≤ B ∧ RowB w' B [plc a b (tabE a b) 0 (enZ a b)] ∧ Below W2.heap.size W2 w') := Lib.hid fun W hW => by
    refine (first_any A A' n c m c' 1 most a b W (h.up (kb2.trans (hW.mono (by omega)))) (h'.up (kb2.trans (hW.mono (by omega)))) hn hm).mono ?_
    rintro e w' ⟨B, he, hB, hr, hb⟩
    rw [first_plc (grid1 a b)] at hr
    exact ⟨B, he, Nat.le_trans hW.size hB, hr, below_next hW hb⟩
  have HKeep : Hid (∀ W, Below W2.heap.size W2 W → Below W2.heap.size W2 W ∧ W.cell? ⟨w.heap.size, 0, none⟩ = some (.slice A n c) ∧ W.cell? ⟨w.heap.size, 1, none⟩ = some (.slice A' m c') ∧ W.cell? ⟨w.heap.size, 2, none⟩ = some (.int .i64 1) ∧ W.cell? ⟨w.heap.size, 3, none⟩ = some (.int .i64 most)) := Lib.hid fun W hW => by
    have k1 := hbp.below hW hbp.lt
    have l0 := k1.cell 0
    have l1 := k1.cell 1
    have l2 := k1.cell 2
    have l3 := k1.cell 3
    simp at l0 l1 l2 l3
    exact ⟨hW, l0, l1, l2, l3⟩
  have HNum : Hid (a.length = n ∧ b.length = m ∧ edD a b ≤ max n m ∧ most = min k (M : Int) ∧ M = max n m) := Lib.hid ⟨hla, hlb, by rw [← hla, ← hlb]; exact hhigh, hmo.symm, hM.symm⟩
  obtain ⟨en, hen'⟩ : ∃ x, enZ a b = x := ⟨_, rfl⟩
  rw [hen'] at HF
  have HEn := Lib.hid hen'
  have HDz := Lib.hid hen
  have HW2 := Lib.hid hW2
  clear h h' hlow1 hlow2 hhigh hla hlb hM hen hen' hW2
  refine (callsIn_wide (n := 100)).1 ?_
  refine callsIn_of_wp_marks Try.func13 rfl trivial ?_ rfl
  simp only [Try.ntmps13, List.size_toArray, List.length_cons, List.length_nil, Nat.reduceAdd, Nat.reduceSub, Array.replicate_succ, Array.replicate_zero, List.push_toArray, List.append_toArray, List.nil_append, List.cons_append]
  gi_wp2_with fail
  rw [HW2.out]
  refine wpIn_wide.2 ?_
  go_region_held3 (fun v => Below W2.heap.size W2 v ∧ v.cell? ⟨w.heap.size, 0, none⟩ = some (.slice A n c) ∧ v.cell? ⟨w.heap.size, 1, none⟩ = some (.slice A' m c') ∧ v.cell? ⟨w.heap.size, 2, none⟩ = some (.int .i64 1) ∧ v.cell? ⟨w.heap.size, 3, none⟩ = some (.int .i64 most)) (first | exact HKeep.out _ (Below.refl _ _).drew | exact HKeep.out _ hbI | exact HKeep.out _ hbJ)
    (first
      | (go_at_call 35; (with_reducible refine (HF.out _ ?_).mono ?_); go_must (first | exact (Below.refl _ _).drew); rintro e wI ⟨BI, rfl, hBI, hrI, hbI⟩)
      | (go_at_call 34; (with_reducible refine (rows_any _ _ _ A A' n c m c' 1 most 0 en BI 1 rfl rfl).mono ?_); rintro e wJ ⟨rfl, rfl⟩; have hbJ := below_next hbI (below_new (below_new (Below.refl _ wI) (.cells #[.slice A n c, .slice A' m c', .int .i64 1, .int .i64 most] 52)) (.cells #[.int .i64 0, .int .i64 en, .slice (some ⟨BI, 0, none⟩) 1 1] 57))))
  have q0 := row_zero (tabE a b) HDz.out
  rw [HEn.out] at q0
  have hszI := hbI.size
  have hpW : Box ((wI.alloc (.cells #[.slice A n c, .slice A' m c', .int .i64 1, .int .i64 most] 52)).alloc (.cells #[.int .i64 0, .int .i64 en, .slice (some ⟨BI, 0, none⟩) 1 1] 57)) wI.heap.size 52 #[.slice A n c, .slice A' m c', .int .i64 ((1 : Nat) : Int), .int .i64 most] := (Box.made wI _ _).alloc _
  have hfW : Box ((wI.alloc (.cells #[.slice A n c, .slice A' m c', .int .i64 1, .int .i64 most] 52)).alloc (.cells #[.int .i64 0, .int .i64 en, .slice (some ⟨BI, 0, none⟩) 1 1] 57)) (wI.heap.size + 1) 57 (rowCells a b most (0, BI)) := by
    have := Box.made (wI.alloc (.cells #[.slice A n c, .slice A' m c', .int .i64 1, .int .i64 most] 52)) 57 #[.int .i64 0, .int .i64 en, .slice (some ⟨BI, 0, none⟩) 1 1]
    rw [World.size_alloc] at this
    have e : rowCells a b most (0, BI) = #[.int .i64 0, .int .i64 en, .slice (some ⟨BI, 0, none⟩) 1 1] := by simp [rowCells, q0.1, q0.2.1]
    rwa [e]
  have hrW : RowB ((wI.alloc (.cells #[.slice A n c, .slice A' m c', .int .i64 1, .int .i64 most] 52)).alloc (.cells #[.int .i64 0, .int .i64 en, .slice (some ⟨BI, 0, none⟩) 1 1] 57)) BI (rowL a b (tabE a b) most ((0 : Nat) : Int)) := by
    have e : rowL a b (tabE a b) most ((0 : Nat) : Int) = [plc a b (tabE a b) 0 en] := q0.2.2
    rw [e]
    exact (Box.alloc (Box.alloc hrI _) _)
  have hsJ : ((wI.alloc (.cells #[.slice A n c, .slice A' m c', .int .i64 1, .int .i64 most] 52)).alloc (.cells #[.int .i64 0, .int .i64 en, .slice (some ⟨BI, 0, none⟩) 1 1] 57)).heap.size = wI.heap.size + 2 := by simp
  have hlI := hrI.lt
  generalize (wI.alloc (.cells #[.slice A n c, .slice A' m c', .int .i64 1, .int .i64 most] 52)).alloc (.cells #[.int .i64 0, .int .i64 en, .slice (some ⟨BI, 0, none⟩) 1 1] 57) = wJ at hbJ hpW hfW hrW hsJ ⊢
  have kbJ := kb2.trans (hbJ.mono (by omega))
  have hcJ := hbc.below hbJ hbc.lt
  have HSeq := Lib.hid (rows_seq (grid1 a b) 99 (by omega) A A' n c m c' most 0 w.heap.size wI.heap.size (wI.heap.size + 1) BI wJ (HA.out.below kbJ) (HB.out.below kbJ) hn hm (by omega) HDz.out hmo0 kbJ.size hfW hpW hrW)
  have HcJ := Lib.hid hcJ
  clear hpW hfW hrW hbI hrI hbp hbc hcJ q0 HKeep HF HA HB
  gi_wp2
  refine wpIn_rangeFunc_vsep rfl (by omega) (gf := 42) (lb := #[.pointer (some ⟨wI.heap.size + 1, 0, none⟩), .pointer (some ⟨wI.heap.size, 0, none⟩)]) rfl trivial (enters_of Try.func42 (by kernel_rfl) rfl) HSeq.out (Below.refl _ _) (fun _ => rfl)
    (fun g pre W => g = none ∧ Box W (w.heap.size + 1) 3 #[.int .i64 (pre.length : Int)] ∧ Below w.heap.size w W)
    (fun g s A h k e => by rw [h.1] at e; cases e) (fun g s A B h ha => ⟨h.1, ha.block _ _ h.2.1 (.inl (by omega)), ha.below h.2.2 (by omega) (Nat.le_refl _)⟩) none ⟨rfl, HcJ.out, kbJ⟩
    (fun pre x a' W => a' = { tmps := #[.slice A n c, .slice A' m c', .int .i64 k, undef, undef, undef, .int .i64 0,
          .bool false, .int .i64 most, .pointer (some ⟨w.heap.size, 0, none⟩), .pointer (some ⟨w.heap.size + 1, 0, none⟩), .int .i64 k, .slice A n c,
          .int .i64 (n : Int), .slice A' m c', .int .i64 (m : Int), .int .i64 (M : Int), .int .i64 most, .int .i64 most, .slice A n c, .int .i64 (n : Int),
          .slice A' m c', .int .i64 (m : Int), .int .i64 z1, .bool false, .bool false, .int .i64 most, .slice A' m c', .int .i64 (m : Int), .slice A n c,
          .int .i64 (n : Int), .int .i64 z2, .bool false, .bool false, .slice A n c, .slice A' m c', .int .i64 most,
          .agg #[.slice A n c, .slice A' m c', .int .i64 1, .int .i64 most], .agg #[.slice A n c, .slice A' m c', .int .i64 1, .int .i64 most], .agg #[.slice A n c, .slice A' m c', .int .i64 1, .int .i64 most],
          .agg #[.int .i64 0, .int .i64 en, .slice (some ⟨BI, 0, none⟩) 1 1],
          .func (.func 42) #[] #[.pointer (some ⟨wI.heap.size + 1, 0, none⟩), .pointer (some ⟨wI.heap.size, 0, none⟩)],
          rowVal a b most x, undef, undef, undef, undef, undef, undef], defers := [] })
    (fun pre x a' A k o o' hx _ _ => hx) ?assign ?body ?done
  case assign =>
    intro l go pre x W K hi hV hN hK
    gi_wp2
    exact hK _ _ (RoundV.of_below (Below.refl _ _)) hi rfl
  case body =>
    rintro l go pre x a' W hl hr ⟨rfl, hbx, hbw⟩ rfl hlt
    have hlen : pre.length ≤ 200000 := by unfold rowCnt at hlt; omega
    obtain ⟨q, hq⟩ : ∃ q, pre.length = q := ⟨_, rfl⟩
    rw [hq] at hbx hlen
    have e0 := hbx.cell 0
    have f0 := hbx.free 0
    simp at e0
    obtain ⟨q1, hq1⟩ : ∃ q1, q + 1 = q1 := ⟨_, rfl⟩
    have eq1 : (q : Int) + 1 = (q1 : Int) := by omega
    have wq1 : IntKind.i64.wrap (q1 : Int) = (q1 : Int) := wraps_i64 _ (by omega) (by omega)
    have HQ : Hid ((pre ++ [x]).length = q1) := Lib.hid (by rw [List.length_append, List.length_singleton]; omega)
    clear hq hq1
    gi_wp2
    have hput := hbx.put 0 (.int .i64 (q1 : Int))
    have kg := grown_set W (w.heap.size + 1) 0 (.int .i64 (q1 : Int))
    refine ⟨none, ⟨rfl, ?_, below_of_row hbw kg (by omega)⟩, .inl rfl, kg.size, fun k' hk' hU => kg.block k' hk' (fun e => ?_)⟩
    · rw [HQ.out]
      simpa using hput
    · have e' := Option.some.inj e
      rcases hU with (h | h | h) | ⟨h, _⟩ <;> omega
  case done =>
    rintro D xs go W hD hS ⟨rfl, hbx, hbw⟩ hDef
    rw [hS] at hbx
    rw [tab_zero] at hbx
    obtain ⟨n1, n2, n3, n4, n5⟩ := HNum.out
    have HW := Lib.hid (hbw.grown (grownBy_putObj' W D (.deferred none)) hbw.size (fun k e => by cases e; omega))
    obtain ⟨C, hC⟩ : ∃ C, rowCnt (edD a b) most 0 = C := ⟨_, rfl⟩
    rw [hC] at hbx
    have e0 := hbx.cell 0
    simp at e0
    unfold rowCnt at hC
    by_cases hd : (edD a b : Int) ≤ most
    · have hCe : C = edD a b := by omega
      have hle : (C : Int) ≤ most := by omega
      have t1 : decide (most < (C : Int)) = false := decide_eq_false (by omega)
      have HE : Hid (withinE a b k = (C, true)) := Lib.hid (by unfold withinE; rw [if_pos (by omega), hCe])
      clear hbx n1 n2 n3 n4 n5 hC hd hCe hbw hS
      gi_wp2
      refine ⟨by simp, .inl ⟨_, _, rfl, run_takeDeferred hDef, ?_⟩⟩
      rw [HE.out]
      exact ⟨_, results_tmp2 rfl _ _ _, rfl, HW.out⟩
    · have hle : most < (C : Int) := by omega
      have t1 : decide (most < (C : Int)) = true := decide_eq_true hle
      have HE : Hid (withinE a b k = (0, false)) := Lib.hid (by unfold withinE; rw [if_neg (by omega)])
      clear hbx n1 n2 n3 n4 n5 hC hd hbw hS
      gi_wp2
      refine ⟨by simp, .inl ⟨_, _, rfl, run_takeDeferred hDef, ?_⟩⟩
      rw [HE.out]
      exact ⟨_, results_tmp2 rfl _ _ _, rfl, HW.out⟩

set_option maxRecDepth 20000 in
set_option maxHeartbeats 3200000 in
theorem prDistance_any (A A' : Option Addr) (n c m c' : Nat) (a b : List Int) (w : World) (h : Arr iv w w.heap.size (.slice A n c) a) (h' : Arr iv w w.heap.size (.slice A' m c') b) (hn : n ≤ 100000) (hm : m ≤ 100000) :
    Calls Try.prog 15 #[.slice A n c, .slice A' m c'] w fun e w' => e = .returned (.int .i64 (edD a b : Int)) ∧ Below w.heap.size w w' := by
  have hla := h.len
  have hlb := h'.len
  obtain ⟨M, hM⟩ : ∃ M, max n m = M := ⟨_, rfl⟩
  have hMz : max (n : Int) (m : Int) = (M : Int) := by omega
  have HW := prWithin_any A A' n c m c' a b (M : Int) w h h' hn hm (by omega) (by omega)
  have hw : withinE a b (M : Int) = (edD a b, true) := by
    have := ed_high a b
    unfold withinE
    rw [if_pos (by omega)]
  rw [hw] at HW
  have HW' := Lib.hid HW
  obtain ⟨d, hd⟩ : ∃ d, edD a b = d := ⟨_, rfl⟩
  rw [hd] at HW' ⊢
  clear h h' hla hlb hM HW hw hd
  go_enter Try.func15, Try.ntmps15
  go_wp2_with fail
  refine HW'.out.mono ?_
  rintro e w1 ⟨rfl, k1⟩
  go_wp2
  go_ret
  exact ⟨rfl, k1⟩

end Go.Proofs.Ytlloofmmblhnjaa
