/-
  The body of the statement RepertoireList.
-/
import Derived.Test.YtidbkllhlllnnaaDoorEncodeLaw
import Derived.BigQuiet
namespace Go.Proofs.YtidbkllhlllnnaaDoor
open Go.RowKit

/-- Is the number among the first k of a list? -/
def amid (xs : List Int) (c : Int) (k : Nat) : Bool := decide (c ∈ xs.take k)
theorem amid_zero (xs : List Int) (c : Int) : amid xs c 0 = false := by unfold amid; simp
theorem amid_next {xs : List Int} {c x : Int} {k : Nat} (h : xs[k]? = some x) : amid xs c (k + 1) = (amid xs c k || x == c) := by
  have h1 : xs.take (k + 1) = xs.take k ++ [x] := by
    rw [List.take_add_one, h]
    rfl
  unfold amid
  rw [h1, Bool.eq_iff_iff]
  simp only [List.mem_append, List.mem_singleton, Bool.or_eq_true, decide_eq_true_eq, beq_iff_eq]
  constructor
  · rintro (h | h)
    · exact .inl h
    · exact .inr h.symm
  · rintro (h | h)
    · exact .inl h
    · exact .inr h.symm
theorem amid_all {xs : List Int} {c : Int} {k : Nat} (h : xs.length = k) : amid xs c k = decide (c ∈ xs) := by
  unfold amid
  rw [List.take_of_length_le (by omega)]
theorem quiet_add {P : Program} {f : FuncId} {args : Array Value} {w : World} {q n : Nat} {v : Value}
    (h : Calls P f args (w.drewN (q + n)) fun e w' => e = .returned v ∧ ∃ m, w' = (w.drewN (q + n)).drewN m) : Calls P f args (w.drewN (q + n)) fun e w' => e = .returned v ∧ ∃ m, w' = w.drewN (q + m) :=
  h.mono fun _ _ ⟨he, m, hm⟩ => ⟨he, n + m, by rw [hm, World.drewN_drewN, Nat.add_assoc]⟩
structure Listing (xs : List Int) : Prop where
  len : xs.length = 536
  asc : ∀ (i : Nat) (x y : Int), xs[i]? = some x → xs[i + 1]? = some y → x < y
  has : ∀ (i : Nat) (x : Int), xs[i]? = some x → hasR x = true
  mem : ∀ c : Int, decide (c ∈ xs) = hasR c

set_option maxRecDepth 20000 in
set_option maxHeartbeats 3200000 in
theorem repList_v (c : Int) (w : World) (hS : Spans w) (xs : List Int) (HX : Hid (Listing xs))
    (HList : Hid (∀ w : World, Spans w → Calls Tryd.prog 26 #[] w fun e w' => ∃ v, e = .returned v ∧ Ints w' v xs ∧ Below w.heap.size w w')) :
    Calls Tryd.prog 8 #[.int .i64 c] w fun e w' => e = .returned (.bool true) ∧ Below w.heap.size w w' := by
  obtain ⟨b, hb⟩ : ∃ b, hasR c = b := ⟨_, rfl⟩
  have HB := Lib.hid hb
  clear hb
  go_enter Tryd.func8, Tryd.ntmps8
  go_wp2_with fail
  refine (awake_any _ hS).mono ?_
  rintro e w1 ⟨rfl, n1⟩
  have k1 := n1
  go_wp2_with fail
  refine (HList.out _ (hS.below k1)).mono ?_
  rintro e w2 ⟨v, rfl, ⟨A, n, cp, rfl, hn, hA⟩, k2⟩
  have k2 := below_next k1 k2
  have hl := hA.len
  have hn2 : n = 536 := by rw [← hl]; exact HX.out.len
  subst hn2
  have HL := Lib.hid hl
  clear hl
  obtain ⟨b0, o0, rfl, hB0, hc0⟩ := hA.some_ (by omega)
  have HC0 := Lib.hid hc0
  clear hA hc0
  go_wp2
  go_loopw [4, 11] (fun f i wr => ∃ (k q : Nat) (fb : Bool), k ≤ 536 ∧ i = .int .i64 (k : Int) ∧ f = .bool fb ∧ Hid (amid xs c k = fb) ∧ wr = w2.drewN q) (fun _ i _ => 536 - (intOf i).toNat)
  case atStart => exact ⟨0, 0, false, by omega, rfl, rfl, Lib.hid (amid_zero _ _), rfl⟩
  case round =>
    obtain ⟨k, q, fb, hk, rfl, rfl, HF, rfl⟩ := hrel
    by_cases hlt : k < 536
    · have i1 : decide ((k : Int) < 536) = true := by simp; omega
      have ik : (k : Int) < ((536 : Nat) : Int) := by omega
      obtain ⟨x, hx⟩ : ∃ a, xs[k]? = some a := ⟨_, List.getElem?_eq_getElem (by have := HL.out; omega)⟩
      have d0 := HC0.out k x hx
      simp only [iv] at d0
      have HH := Lib.hid fun w' => has_any x w'
      rw [HX.out.has k x hx] at HH
      have HN := amid_next (c := c) hx
      rw [HF.out] at HN
      have HN := Lib.hid HN
      cases k with
      | zero =>
        rw [Nat.add_zero] at d0
        cases fb with
        | true =>
          clear hx
          go_wp2
          go_big_quiet ((go_at_call 27; exact quiet_add (HH.out _)))
          go_wp2
          go_roundw
          case rel => exact ⟨1, _, true, by omega, by go_num, rfl, Lib.hid (by rw [HN.out]; rfl), rfl⟩
          case measure => simp [intOf]
        | false =>
          clear hx
          obtain ⟨e, he⟩ : ∃ e, (x == c) = e := ⟨_, rfl⟩
          have HE := Lib.hid he
          go_wp2
          go_big_quiet ((go_at_call 27; exact quiet_add (HH.out _)))
          go_wp2
          go_roundw
          case rel => exact ⟨1, _, e, by omega, by go_num, rfl, Lib.hid (by rw [HN.out, HE.out]; rfl), rfl⟩
          case measure => simp [intOf]
      | succ j =>
        have j0 : decide (0 < ((j + 1 : Nat) : Int)) = true := by simp
        obtain ⟨y, hy⟩ : ∃ a, xs[j]? = some a := ⟨_, List.getElem?_eq_getElem (by have := HL.out; omega)⟩
        have d1 := HC0.out j y hy
        simp only [iv] at d1
        have hyx := HX.out.asc j y x hy hx
        have j1 : decide (x ≤ y) = false := by simp; omega
        have j2 : (((j + 1 : Nat) : Int) - 1) = (j : Int) := by omega
        have j3 : (j : Int) < ((536 : Nat) : Int) := by omega
        cases fb with
        | true =>
          clear hx hy hyx
          go_wp2
          go_big_quiet ((go_at_call 27; exact quiet_add (HH.out _)))
          go_wp2
          go_roundw
          case rel => exact ⟨j + 1 + 1, _, true, by omega, by go_num, rfl, Lib.hid (by rw [HN.out]; rfl), rfl⟩
          case measure => simp [intOf]; omega
        | false =>
          clear hx hy hyx
          obtain ⟨e, he⟩ : ∃ e, (x == c) = e := ⟨_, rfl⟩
          have HE := Lib.hid he
          go_wp2
          go_big_quiet ((go_at_call 27; exact quiet_add (HH.out _)))
          go_wp2
          go_roundw
          case rel => exact ⟨j + 1 + 1, _, e, by omega, by go_num, rfl, Lib.hid (by rw [HN.out, HE.out]; rfl), rfl⟩
          case measure => simp [intOf]; omega
    · obtain rfl : k = 536 := by omega
      have HE : Hid (fb = b) := Lib.hid (by rw [← HF.out, ← HB.out, amid_all HL.out]; exact HX.out.mem c)
      obtain rfl := HE.out
      clear HE
      go_wp2_with fail
      refine (prHas_at w hS c fb _ (below_drewN k2 _) HB.out).mono ?_
      rintro e w4 ⟨rfl, k4, n4⟩
      have e1 : (fb == fb) = true := beq_self_eq_true _
      go_wp2
      go_ret
      exact ⟨rfl, k4⟩

end Go.Proofs.YtidbkllhlllnnaaDoor
