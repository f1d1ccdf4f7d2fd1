/-
  The program's quotient.
-/
import Derived.Test.YtheadamdhjhnpaaDoorEst
import Derived.Laws.CopyOwn
import Derived.Lib.MinMax
namespace Go.Proofs.YtheadamdhjhnpaaDoor
open Go.RowKit

theorem size_int : (Tryd.prog.info? 3).map (·.size) = some 1 := by kernel_rfl
/-- copy of digits into zeros of a block made by the call. -/
theorem copy_nat {ops : Array Oper} {rest : List Oper} {o : Oper} {a : Act} {Q : Exit → Act → World → Prop} (w : World) (hgd : o.guard = none) (d s : Operand)
    (ho : o.op = .call { callee := .builtin .copy, args := #[d, s], argTypes := #[25, 25] })
    (g N n c : Nat) (A : Option Addr) (l : List Nat) (hd : a.eval d = .slice (some ⟨g, 0, none⟩) N N) (hs : a.eval s = .slice A n c) (hb : Box w g 3 (cellsOf (List.replicate N 0))) (B : Nat) (hl : Arr nv w B (.slice A n c) l) (hn : n ≤ N)
    (h : ∀ w', Box w' g 3 (cellsOf (l ++ List.replicate (N - n) 0)) → Below g w w' → wpList Tryd.prog ops Q rest (a.put o.dst (goInt l.length)) w') : wpList Tryd.prog ops Q (o :: rest) a w := by
  have hll := hl.len
  refine wpList_copy_splice hgd d s 25 25 ho 3 Tryd.underlying25 size_int (some ⟨g, 0, none⟩) A N N n c hd hs g 0 ((List.replicate N 0).map nv) 3 hb (l.map nv) ?_ ?_ ?_ ?_ g w (Below.refl _ _) (Nat.le_refl _) ?_
  · rw [List.length_map, hll]; exact (Nat.min_eq_left hn).symm
  · intro h0
    rw [List.length_map] at h0
    rcases hl with ⟨e, rfl⟩ | ⟨ad, c', e, _, _, hcell⟩
    · simp at h0
    · injection e with e1 _ _
      subst e1
      refine ⟨rfl, ad, rfl, fun j v hv => ?_⟩
      rw [List.getElem?_map] at hv
      cases hj : l[j]? with
      | none => rw [hj] at hv; simp at hv
      | some y => rw [hj] at hv; simp at hv; rw [hcell j y hj, hv]
  · simp; omega
  · intro v hv
    obtain ⟨y, _, rfl⟩ := List.mem_map.1 hv
    rfl
  · intro w' hw hk
    rw [List.length_map]
    refine h w' ?_ hk
    have e : splice ((List.replicate N 0).map nv) 0 (l.map nv) = (l ++ List.replicate (N - n) 0).map nv := by
      simp [splice, hll, List.drop_replicate]
    have h1 : w'.heap[g]? = _ := hw
    rw [e] at h1
    exact h1

theorem quo_call (g k n n' c' b1 o1 a b : Nat) (R Q : List Nat) (w : World) (hb : Box w g 3 (cellsOf R)) (hR : R.length = n + 1) (hm : Arr nv w g (.slice (some ⟨b1, o1, none⟩) n' c') (dg b)) (hq : Quo a b (k + 1) R Q)
    (hkn : k + n' ≤ n) (hQ : k < Q.length) (hn : n ≤ 900) (hb0 : 0 < b) :
    Calls Tryd.prog 69 #[.slice (some ⟨g, k, none⟩) (k + n' + 1 - k) (n + 1 - k), .slice (some ⟨b1, o1, none⟩) n' c'] w fun e w' =>
      ∃ (t : Nat) (R' : List Nat), e = .returned (.int .i64 (t : Int)) ∧ R'.length = n + 1 ∧ Quo a b k R' (Q.set k t) ∧ Box w' g 3 (cellsOf R') ∧ w.grownBy w' (some g) := by
  have hml := hm.len
  have hbp : b < pw n' := by
    have := vl_lt' (dig_dg b)
    rwa [vl_dg, hml] at this
  obtain ⟨pre, D, post, rfl, hp, hDl, hDd, hlt⟩ := hq.split (nb := n') (by omega) hbp
  have e2 : k + n' + 1 - k = n' + 1 := by omega
  rw [e2]
  refine (takeMul_any g k (n' + 1) (n + 1 - k) b1 o1 n' c' b pre D post w hb hp hDl hDd hm rfl (by omega) (by omega) (by omega) hb0 hlt).mono ?_
  rintro e w' ⟨ds, rfl, hl, hd, hv, hb2, hg⟩
  refine ⟨_, _, rfl, ?_, hq.next hp hDl hbp hb0 hl hd hv hQ hlt, hb2, hg⟩
  simp only [List.length_append] at hR ⊢
  omega

theorem box_both (w : World) (t : TypeId) (cs : Array Value) (o : Obj) : Box ((w.alloc o).alloc (.cells cs t)) (w.heap.size + 1) t cs := box_second w t cs o
theorem box_fst (w : World) (t : TypeId) (cs : Array Value) (o : Obj) : Box ((w.alloc (.cells cs t)).alloc o) w.heap.size t cs := box_first w t cs o
theorem below_both (w : World) (o p : Obj) : Below w.heap.size w ((w.alloc o).alloc p) := below_new ((Below.refl _ w).alloc (Nat.le_refl _) o) p
theorem size_both (w : World) (o p : Obj) : ((w.alloc o).alloc p).heap.size = w.heap.size + 2 := by simp
theorem vl_pad (l : List Nat) (k : Nat) : vl (l ++ List.replicate k 0) = vl l := by rw [vl_app, vl_zeros, Nat.mul_zero, Nat.add_zero]
theorem dig_pad {l : List Nat} (h : Dig l) (k : Nat) : Dig (l ++ List.replicate k 0) := h.append (by intro d hd; have := List.eq_of_mem_replicate hd; omega)

set_option maxRecDepth 20000 in
set_option maxHeartbeats 1600000 in
theorem quotient_any (A : Option Addr) (n c b1 o1 n' c' a b : Nat) (w : World) (h : Arr nv w w.heap.size (.slice A n c) (dg a)) (h' : Arr nv w w.heap.size (.slice (some ⟨b1, o1, none⟩) n' c') (dg b)) (hn : n ≤ 900) (hn' : n' ≤ 900) (hb0 : 0 < b) :
    Calls Tryd.prog 57 #[.slice A n c, .slice (some ⟨b1, o1, none⟩) n' c'] w fun e w' => ∃ q r, e = .returned (.tuple #[q, r]) ∧ Num w' q (a / b) ∧ Num w' r (a % b) ∧ Below w.heap.size w w' := by
  have HL := Lib.hid h.len
  have HM := Lib.hid h'.len
  have HB0 := Lib.hid hb0
  obtain ⟨nq, hnq⟩ : ∃ nq, nq = n + 1 - n' := ⟨_, rfl⟩
  have hq900 : nq ≤ 901 := by omega
  have hmx : max ((n : Int) - (n' : Int) + 1) 0 = (nq : Int) := by omega
  have hmk1 : ∀ W : World, (Instr.makeSlice 25 (.int .i64 (max ((n : Int) - (n' : Int) + 1) 0)) (.int .i64 (max ((n : Int) - (n' : Int) + 1) 0))).run Tryd.prog W = .ok (.slice (some ⟨W.heap.size, 0, none⟩) nq nq) (W.alloc (.cells (cellsOf (List.replicate nq 0)) 3)) := fun W => by
    rw [hmx]; exact make_nat nq (by omega) W
  have hmk2 : ∀ W : World, (Instr.makeSlice 25 (.int .i64 ((n : Int) + 1)) (.int .i64 ((n : Int) + 1))).run Tryd.prog W = .ok (.slice (some ⟨W.heap.size, 0, none⟩) (n + 1) (n + 1)) (W.alloc (.cells (cellsOf (List.replicate (n + 1) 0)) 3)) := fun W => make_nat (n + 1) (by omega) W
  have hquo : ∀ R : List Nat, Dig R → vl R = a → Quo a b nq R (List.replicate nq 0) := fun R hR hv => by
    have e : nq = (dg a).length + 1 - (dg b).length := by rw [HL.out, HM.out]; exact hnq
    rw [e]
    exact Quo.start hR hv rfl hb0
  have HQ := Lib.hid (hquo (dg a ++ List.replicate (n + 1 - n) 0) (dig_pad (dig_dg a) _) (by rw [vl_pad, vl_dg]))
  have HNQ : Hid (∀ k, k < nq → k + n' ≤ n) := Lib.hid (by intro k hk; omega)
  clear hb0 hnq hmx hquo
  have s1 : IntKind.i64.wrap ((n : Int) - (n' : Int)) = (n : Int) - (n' : Int) := wraps_i64 _ (by omega) (by omega)
  have s2 : IntKind.i64.wrap ((n : Int) - (n' : Int) + 1) = (n : Int) - (n' : Int) + 1 := wraps_i64 _ (by omega) (by omega)
  go_enter Tryd.func57, Tryd.ntmps57
  go_wp2_with (refine copy_nat _ rfl (.tmp 20) (.tmp 21) rfl (w.heap.size + 1) (n + 1) n c A (dg a) rfl rfl (box_both _ _ _ _) w.heap.size (h.below (below_both w _ _)) (by omega) ?_; intro w1 hbR k1)
  have hbQ : Box w1 w.heap.size 3 (cellsOf (List.replicate nq 0)) := (box_fst w 3 (cellsOf (List.replicate nq 0)) _).below k1 (by omega)
  have hk1 : Below w.heap.size w w1 := (below_both w _ _).trans (k1.mono (by omega))
  have hR0 : (dg a ++ List.replicate (n + 1 - n) 0).length = n + 1 := by rw [List.length_append, List.length_replicate, HL.out]; omega
  have HR0 := Lib.hid hR0
  clear hmk1 hmk2 s1 s2 k1 hR0
  go_wp2
  go_loopw [6, 7, 25] (fun _ _ i wr => ∃ (j k : Nat) (R Q : List Nat), k + j = nq ∧ i = .int .i64 (j : Int) ∧ Hid (R.length = n + 1) ∧ Hid (Q.length = nq) ∧ Hid (Quo a b k R Q) ∧ Box wr (w.heap.size + 1) 3 (cellsOf R) ∧ Box wr w.heap.size 3 (cellsOf Q) ∧ Below w.heap.size w wr) (fun _ _ i _ => nq - (intOf i).toNat)
  case atStart => exact ⟨0, nq, _, _, by omega, rfl, HR0, Lib.hid (by simp), HQ, hbR, hbQ, hk1⟩
  case round =>
    obtain ⟨j, k, R, Q, hk, rfl, HRL, HQL, HQuo, hboxR, hboxQ, hbel⟩ := hrel
    have hszR := hboxR.lt
    cases k with
    | zero =>
      obtain rfl : j = nq := by omega
      obtain ⟨t1, t2⟩ := HQuo.out.done HB0.out
      have HT1 := Lib.hid t1
      have HT2 := Lib.hid t2
      have hAQ := (arr_cells hboxQ HQL.out).more hboxQ.lt
      have hAR := (arr_cells hboxR HRL.out).more hboxR.lt
      clear t1 t2
      go_wp2_with fail
      refine (trimmed_at _ _ _ _ _ _ hAQ HT1.out (by omega)).mono ?_
      rintro e w2 ⟨rfl, hA1, rfl⟩
      go_wp2_with fail
      refine (trimmed_at _ _ _ _ _ _ hAR HT2.out (by omega)).mono ?_
      rintro e w2 ⟨rfl, hA2, rfl⟩
      go_wp2
      go_ret2
      exact ⟨_, _, rfl, ⟨_, _, rfl, hA1⟩, ⟨_, _, rfl, hA2⟩, hbel⟩
    | succ k =>
      have hkn := HNQ.out k (by omega)
      have i0 : (j : Int) < (nq : Int) := by omega
      have i1 : (nq : Int) - 1 - (j : Int) = (k : Int) := by omega
      have s1 : IntKind.i64.wrap ((nq : Int) - 1) = (nq : Int) - 1 := wraps_i64 _ (by omega) (by omega)
      have s2 : IntKind.i64.wrap ((nq : Int) - 1 - (j : Int)) = (k : Int) := by rw [i1]; exact wraps_i64 _ (by omega) (by omega)
      have s3 : IntKind.i64.wrap ((k : Int) + (n' : Int)) = (k : Int) + (n' : Int) := wraps_i64 _ (by omega) (by omega)
      have s4 : IntKind.i64.wrap ((k : Int) + (n' : Int) + 1) = (k : Int) + (n' : Int) + 1 := wraps_i64 _ (by omega) (by omega)
      have hsl := mid_nat (w.heap.size + 1) 0 (n + 1) k (k + n' + 1) (n + 1) (by omega) (by omega) (by omega) ((k : Int) + (n' : Int) + 1) (by omega)
      have hm2 : Arr nv wr (w.heap.size + 1) (.slice (some ⟨b1, o1, none⟩) n' c') (dg b) := (h'.at_ hbel).more (by omega)
      have HKQ : Hid (k < Q.length) := Lib.hid (by rw [HQL.out]; omega)
      go_wp2_with fail
      refine (quo_call (w.heap.size + 1) k n n' c' b1 o1 a b R Q wr hboxR HRL.out hm2 HQuo.out hkn HKQ.out hn HB0.out).mono ?_
      rintro e w2 ⟨t, R', rfl, hR', hquo2, hboxR2, hg2⟩
      have hboxQ2 := hboxQ.grown hg2 (by simp)
      have hk2 : Below w.heap.size w w2 := below_only hbel hg2 (by omega) (Nat.le_refl _)
      obtain ⟨x2, hx2⟩ : ∃ v, (cellsOf Q)[k]? = some v := ⟨_, Array.getElem?_eq_getElem (by rw [cellsOf_size]; exact HKQ.out)⟩
      have d3 := hboxQ2.cell k
      rw [hx2] at d3
      have hf := hboxQ2.free k
      have i2 : (k : Int) < (nq : Int) := by omega
      have HR2 := Lib.hid hR'
      have HQ2 := Lib.hid hquo2
      clear hx2 hR' hquo2 hsl
      go_wp2
      go_roundw
      case rel =>
        refine ⟨j + 1, k, R', Q.set k t, by omega, by go_num, HR2, Lib.hid (by rw [List.length_set]; exact HQL.out), HQ2, hboxR2.put_other _ _ (by simp), ?_, hk2.setCell (Nat.le_refl _) _⟩
        rw [← cellsOf_set]
        exact hboxQ2.put _ _
      case measure => simp [intOf]; omega

end Go.Proofs.YtheadamdhjhnpaaDoor
