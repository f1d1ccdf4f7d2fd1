/-
  The reference's listed, Lower, plain of fold.
  The reference's Lower.
  The reference's plain, folded, Fold, Search, Is, Alike.
  Words for strings, over any program: beginnings, rests, comparing.
-/
import Derived.Test.YtmgofhbdaopapaaGreatDoorPkAG
import Derived.Test.YtmgofhbdaopapaaGreatDoorPkAH
import Derived.Test.YtmgofhbdaopapaaGreatDoorWords
namespace Go.Proofs.YtmgofhbdaopapaaGreatDoor
open Go.RowKit

/-- The value at a character; 0 if there is none. -/
def lkI (ps : List (Nat × Nat)) (c : Int) : Int := match ps.find? fun x => (x.1 : Int) == c with | some x => (x.2 : Int) | none => 0
theorem find_take2 (p : Nat × Nat → Bool) : ∀ (l : List (Nat × Nat)) (k : Nat) (x : Nat × Nat), l[k]? = some x → (l.take k).find? p = none → (p x = true → l.find? p = some x) ∧ (p x = false → (l.take (k + 1)).find? p = none)
  | [], k, x, h, _ => by simp at h
  | y :: l, 0, x, h, _ => by
    simp only [List.getElem?_cons_zero, Option.some.injEq] at h
    subst h
    refine ⟨fun h1 => by rw [List.find?_cons, h1], fun h1 => ?_⟩
    rw [List.take_succ_cons, List.take_zero, List.find?_cons, h1]
    rfl
  | y :: l, k + 1, x, h, hn => by
    rw [List.getElem?_cons_succ] at h
    rw [List.take_succ_cons, List.find?_cons] at hn
    cases hy : p y with
    | true => rw [hy] at hn; cases hn
    | false =>
      rw [hy] at hn
      obtain ⟨h1, h2⟩ := find_take2 p l k x h hn
      refine ⟨fun h3 => by rw [List.find?_cons, hy]; exact h1 h3, fun h3 => ?_⟩
      rw [List.take_succ_cons, List.find?_cons, hy]
      exact h2 h3
theorem lk_some {ps : List (Nat × Nat)} {c : Int} {x : Nat × Nat} (h : ps.find? (fun x => (x.1 : Int) == c) = some x) : lkI ps c = (x.2 : Int) := by unfold lkI; rw [h]
theorem lk_none {ps : List (Nat × Nat)} {c : Int} (h : ps.find? (fun x => (x.1 : Int) == c) = none) : lkI ps c = 0 := by unfold lkI; rw [h]

set_option maxRecDepth 20000 in
set_option maxHeartbeats 3200000 in
theorem refListed6_any (ps : List (Nat × Nat)) (a b : List UInt8) (ha : encL (ps.map Prod.fst) = a) (hb : encL (ps.map Prod.snd) = b) (c : Int) (w : World) (h1 : ∀ x ∈ ps, okC x.1 ∧ okC x.2) (hl : ps.length ≤ 1000) :
    Calls Tryz.prog 87 #[.string (str a), .string (str b), .int .i64 c] w fun e w' => e = .returned (.int .i64 (lkI ps c)) ∧ Below w.heap.size w w' := by
  subst ha hb
  obtain ⟨N, hN⟩ : ∃ N, ps.length = N := ⟨_, rfl⟩
  rw [hN] at hl
  have HL := Lib.hid hN
  obtain ⟨R, hR⟩ : ∃ R, lkI ps c = R := ⟨_, rfl⟩
  rw [hR]
  have HR := Lib.hid hR
  have HD1 := Lib.hid fun W => decode_own (ps.map Prod.fst) N W (fun x hx => by obtain ⟨p, hp, rfl⟩ := List.mem_map.1 hx; exact (h1 p hp).1) (by rw [List.length_map]; exact hN) (by omega)
  have HD2 := Lib.hid fun W => decode_own (ps.map Prod.snd) N W (fun x hx => by obtain ⟨p, hp, rfl⟩ := List.mem_map.1 hx; exact (h1 p hp).2) (by rw [List.length_map]; exact hN) (by omega)
  clear hN hR h1
  go_enter Tryz.func87, Tryz.ntmps87
  go_wp2_with fail
  refine (HD1.out _).mono ?_
  rintro e w2 ⟨A1, n1, rfl, ha1, k2⟩
  go_wp2_with fail
  refine (HD2.out _).mono ?_
  rintro e w3 ⟨A2, n2, rfl, ha2, k3⟩
  have ha1 := ha1.up k3
  go_wp2
  go_loopw [11] (fun s wr => ∃ k : Nat, k ≤ N ∧ s = .int .i64 (k : Int) ∧ Hid ((ps.take k).find? (fun x => (x.1 : Int) == c) = none) ∧ wr = w3) (fun s _ => N - (intOf s).toNat)
  case atStart => exact ⟨0, by omega, rfl, Lib.hid rfl, rfl⟩
  case round =>
    obtain ⟨k, hk, rfl, HG, rfl⟩ := hrel
    by_cases hkl : k < N
    · have t2 : decide ((k : Int) < (N : Int)) = true := by simp; omega
      have kz : (k : Int) < (N : Int) := by omega
      obtain ⟨b1, o1, rfl, hB1, hc1⟩ := ha1.some_ (by omega)
      obtain ⟨b2, o2, rfl, hB2, hc2⟩ := ha2.some_ (by omega)
      obtain ⟨⟨x, y⟩, hx⟩ : ∃ p, ps[k]? = some p := ⟨_, List.getElem?_eq_getElem (by have := HL.out; omega)⟩
      have d1 := hc1 k x (by rw [List.getElem?_map, hx]; rfl)
      have d2 := hc2 k y (by rw [List.getElem?_map, hx]; rfl)
      simp only [nv] at d1 d2
      obtain ⟨f1, f2⟩ := find_take2 (fun x => (x.1 : Int) == c) ps k (x, y) hx HG.out
      by_cases hxc : (x : Int) = c
      · have t3 : ((x : Int) == c) = true := by rw [hxc]; simp
        have HE : Hid (R = (y : Int)) := Lib.hid (by rw [← HR.out, lk_some (f1 t3)])
        clear hc1 hc2 hx f1 f2 hxc
        go_wp2
        go_ret
        rw [HE.out]
        exact ⟨rfl, below_next k2 k3⟩
      · have t3 : ((x : Int) == c) = false := eqb_false hxc
        have HG2 := Lib.hid (f2 t3)
        clear hc1 hc2 hx f1 f2 hxc
        go_wp2
        go_roundw
        case rel => exact ⟨k + 1, by omega, by go_num, HG2, trivial⟩
        case measure => simp [intOf]; omega
    · obtain rfl : k = N := by omega
      have t2 : decide ((k : Int) < (k : Int)) = false := by simp
      have HE : Hid (R = 0) := Lib.hid (by
        have h := HG.out
        rw [List.take_of_length_le (by rw [HL.out]; omega)] at h
        rw [← HR.out, lk_none h])
      go_wp2
      go_ret
      rw [HE.out]
      exact ⟨rfl, below_next k2 k3⟩

/-! Lower. -/
def lowI (c : Int) : Int := if (65 ≤ c ∧ c ≤ 90) ∨ (913 ≤ c ∧ c ≤ 937 ∧ c ≠ 930) ∨ (1040 ≤ c ∧ c ≤ 1071) then c + 32 else if c = 962 then 963 else if lkI lowL c = 0 then c else lkI lowL c
theorem low_ok : ∀ x ∈ lowL, okC x.1 ∧ okC x.2 := by
  have h : (lowL.all fun x => hasN x.1 && hasN x.2) = true := by kernel_rfl
  intro x hx
  have := List.all_eq_true.1 h x hx
  rw [Bool.and_eq_true] at this
  exact ⟨ok_of_has this.1, ok_of_has this.2⟩
theorem listed_low (c : Int) (w : World) :
    Calls Tryz.prog 87 #[.string (str [195, 134, 195, 152, 195, 144, 195, 158, 196, 144, 196, 166, 197, 129, 197, 146, 197, 138, 197, 166, 208, 134, 208, 132, 210, 144]), .string (str [195, 166, 195, 184, 195, 176, 195, 190, 196, 145, 196, 167, 197, 130, 197, 147, 197, 139, 197, 167, 209, 150, 209, 148, 210, 145]), .int .i64 c] w fun e w' => e = .returned (.int .i64 (lkI lowL c)) ∧ Below w.heap.size w w' :=
  refListed6_any lowL _ _ (by kernel_rfl) (by kernel_rfl) c w low_ok (by decide)

end Go.Proofs.YtmgofhbdaopapaaGreatDoor

namespace Go.Proofs.YtmgofhbdaopapaaGreatDoor
open Go.RowKit

set_option maxRecDepth 20000 in
set_option maxHeartbeats 6400000 in
theorem refLower_any (c : Int) (w : World) :
    Calls Tryz.prog 64 #[.int .i64 c] w fun e w' => e = .returned (.int .i64 (lowI c)) ∧ Below w.heap.size w w' := by
  obtain ⟨R, hR⟩ : ∃ R, lowI c = R := ⟨_, rfl⟩
  rw [hR]
  unfold lowI at hR
  have HLk := Lib.hid (listed_low c w)
  obtain ⟨x, hx⟩ : ∃ x, lkI lowL c = x := ⟨_, rfl⟩
  rw [hx] at hR HLk
  clear hx
  have hc : c < 65 ∨ (65 ≤ c ∧ c ≤ 90) ∨ (91 ≤ c ∧ c ≤ 912) ∨ (913 ≤ c ∧ c ≤ 929) ∨ c = 930 ∨ (931 ≤ c ∧ c ≤ 937) ∨ (938 ≤ c ∧ c ≤ 961) ∨ c = 962 ∨ (963 ≤ c ∧ c ≤ 1039) ∨ (1040 ≤ c ∧ c ≤ 1071) ∨ 1072 ≤ c := by omega
  rcases hc with hc | hc | hc | hc | hc | hc | hc | hc | hc | hc | hc
  · have t1 : decide (65 ≤ c) = false := by simp; omega
    have t3 : decide (913 ≤ c) = false := by simp; omega
    have t6 : decide (1040 ≤ c) = false := by simp; omega
    have t8 : (c == 962) = false := eqb_false (by omega)
    rw [if_neg (by omega), if_neg (by omega)] at hR
    have HR := Lib.hid hR
    clear hR hc
    go_enter Tryz.func64, Tryz.ntmps64
    go_wp2_with fail
    refine HLk.out.mono ?_
    rintro e w1 ⟨rfl, k1⟩
    by_cases h0 : x = 0
    · have t9 : (x != 0) = false := by simpa using h0
      have HE : Hid (R = c) := Lib.hid (by rw [← HR.out, if_pos h0])
      clear h0
      go_wp2
      go_ret
      rw [HE.out]
      exact ⟨rfl, k1⟩
    · have t9 : (x != 0) = true := by simpa using h0
      have HE : Hid (R = x) := Lib.hid (by rw [← HR.out, if_neg h0])
      clear h0
      go_wp2
      go_ret
      rw [HE.out]
      exact ⟨rfl, k1⟩
  · have t1 : decide (65 ≤ c) = true := by simp; omega
    have t2 : decide (c ≤ 90) = true := by simp; omega
    rw [if_pos (by omega)] at hR
    have HE : Hid (R = c + 32) := Lib.hid hR.symm
    have hz1 : 0 ≤ c := by omega
    have hz2 : c ≤ 2000 := by omega
    clear hR HLk hc
    go_enter Tryz.func64, Tryz.ntmps64
    go_wp2
    go_ret
    rw [HE.out]
    exact ⟨rfl, Below.refl _ _⟩
  · have t1 : decide (65 ≤ c) = true := by simp; omega
    have t2 : decide (c ≤ 90) = false := by simp; omega
    have t3 : decide (913 ≤ c) = false := by simp; omega
    have t6 : decide (1040 ≤ c) = false := by simp; omega
    have t8 : (c == 962) = false := eqb_false (by omega)
    rw [if_neg (by omega), if_neg (by omega)] at hR
    have HR := Lib.hid hR
    clear hR hc
    go_enter Tryz.func64, Tryz.ntmps64
    go_wp2_with fail
    refine HLk.out.mono ?_
    rintro e w1 ⟨rfl, k1⟩
    by_cases h0 : x = 0
    · have t9 : (x != 0) = false := by simpa using h0
      have HE : Hid (R = c) := Lib.hid (by rw [← HR.out, if_pos h0])
      clear h0
      go_wp2
      go_ret
      rw [HE.out]
      exact ⟨rfl, k1⟩
    · have t9 : (x != 0) = true := by simpa using h0
      have HE : Hid (R = x) := Lib.hid (by rw [← HR.out, if_neg h0])
      clear h0
      go_wp2
      go_ret
      rw [HE.out]
      exact ⟨rfl, k1⟩
  · have t1 : decide (65 ≤ c) = true := by simp; omega
    have t2 : decide (c ≤ 90) = false := by simp; omega
    have t3 : decide (913 ≤ c) = true := by simp; omega
    have t4 : decide (c ≤ 937) = true := by simp; omega
    have t5 : (c != 930) = true := by simp; omega
    rw [if_pos (by omega)] at hR
    have HE : Hid (R = c + 32) := Lib.hid hR.symm
    have hz1 : 0 ≤ c := by omega
    have hz2 : c ≤ 2000 := by omega
    clear hR HLk hc
    go_enter Tryz.func64, Tryz.ntmps64
    go_wp2
    go_ret
    rw [HE.out]
    exact ⟨rfl, Below.refl _ _⟩
  · have t1 : decide (65 ≤ c) = true := by simp; omega
    have t2 : decide (c ≤ 90) = false := by simp; omega
    have t3 : decide (913 ≤ c) = true := by simp; omega
    have t4 : decide (c ≤ 937) = true := by simp; omega
    have t5 : (c != 930) = false := by rw [hc]; rfl
    have t6 : decide (1040 ≤ c) = false := by simp; omega
    have t8 : (c == 962) = false := eqb_false (by omega)
    rw [if_neg (by omega), if_neg (by omega)] at hR
    have HR := Lib.hid hR
    clear hR hc
    go_enter Tryz.func64, Tryz.ntmps64
    go_wp2_with fail
    refine HLk.out.mono ?_
    rintro e w1 ⟨rfl, k1⟩
    by_cases h0 : x = 0
    · have t9 : (x != 0) = false := by simpa using h0
      have HE : Hid (R = c) := Lib.hid (by rw [← HR.out, if_pos h0])
      clear h0
      go_wp2
      go_ret
      rw [HE.out]
      exact ⟨rfl, k1⟩
    · have t9 : (x != 0) = true := by simpa using h0
      have HE : Hid (R = x) := Lib.hid (by rw [← HR.out, if_neg h0])
      clear h0
      go_wp2
      go_ret
      rw [HE.out]
      exact ⟨rfl, k1⟩
  · have t1 : decide (65 ≤ c) = true := by simp; omega
    have t2 : decide (c ≤ 90) = false := by simp; omega
    have t3 : decide (913 ≤ c) = true := by simp; omega
    have t4 : decide (c ≤ 937) = true := by simp; omega
    have t5 : (c != 930) = true := by simp; omega
    rw [if_pos (by omega)] at hR
    have HE : Hid (R = c + 32) := Lib.hid hR.symm
    have hz1 : 0 ≤ c := by omega
    have hz2 : c ≤ 2000 := by omega
    clear hR HLk hc
    go_enter Tryz.func64, Tryz.ntmps64
    go_wp2
    go_ret
    rw [HE.out]
    exact ⟨rfl, Below.refl _ _⟩
  · have t1 : decide (65 ≤ c) = true := by simp; omega
    have t2 : decide (c ≤ 90) = false := by simp; omega
    have t3 : decide (913 ≤ c) = true := by simp; omega
    have t4 : decide (c ≤ 937) = false := by simp; omega
    have t6 : decide (1040 ≤ c) = false := by simp; omega
    have t8 : (c == 962) = false := eqb_false (by omega)
    rw [if_neg (by omega), if_neg (by omega)] at hR
    have HR := Lib.hid hR
    clear hR hc
    go_enter Tryz.func64, Tryz.ntmps64
    go_wp2_with fail
    refine HLk.out.mono ?_
    rintro e w1 ⟨rfl, k1⟩
    by_cases h0 : x = 0
    · have t9 : (x != 0) = false := by simpa using h0
      have HE : Hid (R = c) := Lib.hid (by rw [← HR.out, if_pos h0])
      clear h0
      go_wp2
      go_ret
      rw [HE.out]
      exact ⟨rfl, k1⟩
    · have t9 : (x != 0) = true := by simpa using h0
      have HE : Hid (R = x) := Lib.hid (by rw [← HR.out, if_neg h0])
      clear h0
      go_wp2
      go_ret
      rw [HE.out]
      exact ⟨rfl, k1⟩
  · have t1 : decide (65 ≤ c) = true := by simp; omega
    have t2 : decide (c ≤ 90) = false := by simp; omega
    have t3 : decide (913 ≤ c) = true := by simp; omega
    have t4 : decide (c ≤ 937) = false := by simp; omega
    have t6 : decide (1040 ≤ c) = false := by simp; omega
    have t8 : (c == 962) = true := eqb_true hc
    rw [if_neg (by omega), if_pos (by omega)] at hR
    have HE : Hid (R = 963) := Lib.hid hR.symm
    have hz1 : 0 ≤ c := by omega
    have hz2 : c ≤ 2000 := by omega
    clear hR HLk hc
    go_enter Tryz.func64, Tryz.ntmps64
    go_wp2
    go_ret
    rw [HE.out]
    exact ⟨rfl, Below.refl _ _⟩
  · have t1 : decide (65 ≤ c) = true := by simp; omega
    have t2 : decide (c ≤ 90) = false := by simp; omega
    have t3 : decide (913 ≤ c) = true := by simp; omega
    have t4 : decide (c ≤ 937) = false := by simp; omega
    have t6 : decide (1040 ≤ c) = false := by simp; omega
    have t8 : (c == 962) = false := eqb_false (by omega)
    rw [if_neg (by omega), if_neg (by omega)] at hR
    have HR := Lib.hid hR
    clear hR hc
    go_enter Tryz.func64, Tryz.ntmps64
    go_wp2_with fail
    refine HLk.out.mono ?_
    rintro e w1 ⟨rfl, k1⟩
    by_cases h0 : x = 0
    · have t9 : (x != 0) = false := by simpa using h0
      have HE : Hid (R = c) := Lib.hid (by rw [← HR.out, if_pos h0])
      clear h0
      go_wp2
      go_ret
      rw [HE.out]
      exact ⟨rfl, k1⟩
    · have t9 : (x != 0) = true := by simpa using h0
      have HE : Hid (R = x) := Lib.hid (by rw [← HR.out, if_neg h0])
      clear h0
      go_wp2
      go_ret
      rw [HE.out]
      exact ⟨rfl, k1⟩
  · have t1 : decide (65 ≤ c) = true := by simp; omega
    have t2 : decide (c ≤ 90) = false := by simp; omega
    have t3 : decide (913 ≤ c) = true := by simp; omega
    have t4 : decide (c ≤ 937) = false := by simp; omega
    have t6 : decide (1040 ≤ c) = true := by simp; omega
    have t7 : decide (c ≤ 1071) = true := by simp; omega
    rw [if_pos (by omega)] at hR
    have HE : Hid (R = c + 32) := Lib.hid hR.symm
    have hz1 : 0 ≤ c := by omega
    have hz2 : c ≤ 2000 := by omega
    clear hR HLk hc
    go_enter Tryz.func64, Tryz.ntmps64
    go_wp2
    go_ret
    rw [HE.out]
    exact ⟨rfl, Below.refl _ _⟩
  · have t1 : decide (65 ≤ c) = true := by simp; omega
    have t2 : decide (c ≤ 90) = false := by simp; omega
    have t3 : decide (913 ≤ c) = true := by simp; omega
    have t4 : decide (c ≤ 937) = false := by simp; omega
    have t6 : decide (1040 ≤ c) = true := by simp; omega
    have t7 : decide (c ≤ 1071) = false := by simp; omega
    have t8 : (c == 962) = false := eqb_false (by omega)
    rw [if_neg (by omega), if_neg (by omega)] at hR
    have HR := Lib.hid hR
    clear hR hc
    go_enter Tryz.func64, Tryz.ntmps64
    go_wp2_with fail
    refine HLk.out.mono ?_
    rintro e w1 ⟨rfl, k1⟩
    by_cases h0 : x = 0
    · have t9 : (x != 0) = false := by simpa using h0
      have HE : Hid (R = c) := Lib.hid (by rw [← HR.out, if_pos h0])
      clear h0
      go_wp2
      go_ret
      rw [HE.out]
      exact ⟨rfl, k1⟩
    · have t9 : (x != 0) = true := by simpa using h0
      have HE : Hid (R = x) := Lib.hid (by rw [← HR.out, if_neg h0])
      clear h0
      go_wp2
      go_ret
      rw [HE.out]
      exact ⟨rfl, k1⟩

end Go.Proofs.YtmgofhbdaopapaaGreatDoor

namespace Go.Proofs.YtmgofhbdaopapaaGreatDoor
open Go.RowKit

/-! Small letters and plain letters of natural numbers. -/
def lkN (ps : List (Nat × Nat)) (c : Nat) : Nat := match ps.find? fun x => Nat.beq x.1 c with | some x => x.2 | none => 0
theorem lk_nat (ps : List (Nat × Nat)) (c : Nat) : lkI ps (c : Int) = (lkN ps c : Int) := by
  unfold lkI lkN
  have e : (fun x : Nat × Nat => (x.1 : Int) == (c : Int)) = fun x => Nat.beq x.1 c := by
    funext x
    rw [Bool.eq_iff_iff, Nat.beq_eq]
    exact ⟨fun h => by have := eq_of_beq h; omega, fun h => by rw [h]; exact beq_self_eq_true _⟩
  rw [e]
  cases ps.find? fun x => Nat.beq x.1 c <;> rfl
theorem low_nz : ∀ x ∈ lowL, x.2 ≠ 0 := by decide
theorem pl_nz : ∀ x ∈ plL, x.2 ≠ 0 := by decide
theorem lowN_if (c : Nat) : lowN c = if (65 ≤ c ∧ c ≤ 90) ∨ (913 ≤ c ∧ c ≤ 937 ∧ c ≠ 930) ∨ (1040 ≤ c ∧ c ≤ 1071) then c + 32 else if c = 962 then 963 else if lkN lowL c = 0 then c else lkN lowL c := by
  have e : ((inN c 65 90 || (inN c 913 937 && !Nat.beq c 930) || inN c 1040 1071) = true) = ((65 ≤ c ∧ c ≤ 90) ∨ (913 ≤ c ∧ c ≤ 937 ∧ c ≠ 930) ∨ (1040 ≤ c ∧ c ≤ 1071)) := by
    unfold inN
    apply propext
    simp only [Bool.or_eq_true, Bool.and_eq_true, Nat.ble_eq, Bool.not_eq_true', ← Bool.not_eq_true, Nat.beq_eq]
    omega
  unfold lowN lkN
  cases hf : lowL.find? fun x => Nat.beq x.1 c with
  | none => simp only [e, Nat.beq_eq, ↓reduceIte]
  | some x =>
    have h0 := low_nz _ (List.mem_of_find?_eq_some hf)
    simp only [e, Nat.beq_eq, h0, ↓reduceIte]
theorem lowI_nat (c : Nat) : lowI (c : Int) = (lowN c : Int) := by
  rw [lowN_if]
  unfold lowI
  rw [lk_nat]
  by_cases h1 : (65 ≤ c ∧ c ≤ 90) ∨ (913 ≤ c ∧ c ≤ 937 ∧ c ≠ 930) ∨ (1040 ≤ c ∧ c ≤ 1071)
  · rw [if_pos h1, if_pos (by omega)]
    omega
  · rw [if_neg h1, if_neg (show ¬ ((65 ≤ (c : Int) ∧ (c : Int) ≤ 90) ∨ (913 ≤ (c : Int) ∧ (c : Int) ≤ 937 ∧ (c : Int) ≠ 930) ∨ (1040 ≤ (c : Int) ∧ (c : Int) ≤ 1071)) by omega)]
    by_cases h2 : c = 962
    · rw [if_pos h2, if_pos (show (c : Int) = 962 by omega)]
      rfl
    · rw [if_neg h2, if_neg (show ¬ (c : Int) = 962 by omega)]
      by_cases h3 : lkN lowL c = 0
      · rw [if_pos h3, if_pos (show (lkN lowL c : Int) = 0 by omega)]
      · rw [if_neg h3, if_neg (show ¬ (lkN lowL c : Int) = 0 by omega)]
theorem refLower_nat (c : Nat) (w : World) :
    Calls Tryz.prog 64 #[.int .i64 (c : Int)] w fun e w' => e = .returned (.int .i64 (lowN c : Int)) ∧ Below w.heap.size w w' := by
  rw [← lowI_nat]
  exact refLower_any _ _
theorem pl_ok : ∀ x ∈ plL, okC x.1 ∧ okC x.2 := by
  have h : (plL.all fun x => hasN x.1 && hasN x.2) = true := by kernel_rfl
  intro x hx
  have := List.all_eq_true.1 h x hx
  rw [Bool.and_eq_true] at this
  exact ⟨ok_of_has this.1, ok_of_has this.2⟩
theorem listed_plain (c : Nat) (w : World) :
    Calls Tryz.prog 87 #[.string (str [195, 184, 195, 176, 196, 145, 196, 167, 196, 177, 197, 130, 197, 167]), .string (str [111, 100, 100, 104, 105, 108, 116]), .int .i64 (c : Int)] w fun e w' => e = .returned (.int .i64 (lkN plL c : Int)) ∧ Below w.heap.size w w' := by
  rw [← lk_nat]
  exact refListed6_any plL _ _ (by kernel_rfl) (by kernel_rfl) c w pl_ok (by decide)
theorem plain_if (c : Nat) : plainL c = if c = 230 then [97, 101] else if c = 339 then [111, 101] else if c = 254 then [116, 104] else if c = 331 then [110, 103] else if lkN plL c = 0 then [c] else [lkN plL c] := by
  unfold plainL lkN
  cases hf : plL.find? fun x => Nat.beq x.1 c with
  | none => simp only [Nat.beq_eq, ↓reduceIte]
  | some x =>
    have h0 := pl_nz _ (List.mem_of_find?_eq_some hf)
    simp only [Nat.beq_eq, h0, ↓reduceIte]

/-- A slice that holds these characters. -/
def NewArr (w : World) (l : List Nat) (e : Ending) (w' : World) : Prop := ∃ v, e = .returned v ∧ Arr nv w' w'.heap.size v l ∧ Below w.heap.size w w'
theorem arr_one (w : World) (x : Int) (y : Nat) (h : x = (y : Int)) : NewArr w [y] (.returned (.slice (some ⟨w.heap.size, 0, none⟩) 1 1)) (w.alloc (.cells #[.int .i64 x] 3)) := by
  subst h
  refine ⟨_, rfl, (Arr.of_box (val := nv) (xs := [y]) (n := 1) (c := 1) (Box.made w 3 #[.int .i64 (y : Int)]) rfl (Nat.le_refl _) fun i u hu => ?_).more (Box.made w 3 #[.int .i64 (y : Int)]).lt, below_new (Below.refl _ _) _⟩
  cases i with
  | zero => simp at hu; subst hu; rfl
  | succ i => simp at hu
theorem arr_two (w : World) (x x' : Int) (y z : Nat) (h : x = (y : Int)) (h' : x' = (z : Int)) : NewArr w [y, z] (.returned (.slice (some ⟨w.heap.size, 0, none⟩) 2 2)) (w.alloc (.cells #[.int .i64 x, .int .i64 x'] 3)) := by
  subst h h'
  refine ⟨_, rfl, (Arr.of_box (val := nv) (xs := [y, z]) (n := 2) (c := 2) (Box.made w 3 #[.int .i64 (y : Int), .int .i64 (z : Int)]) rfl (Nat.le_refl _) fun i u hu => ?_).more (Box.made w 3 #[.int .i64 (y : Int), .int .i64 (z : Int)]).lt, below_new (Below.refl _ _) _⟩
  match i with
  | 0 => simp at hu; subst hu; rfl
  | 1 => simp at hu; subst hu; rfl
  | i + 2 => simp at hu
theorem NewArr.from {w w1 : World} {l : List Nat} {e : Ending} {w' : World} (h : NewArr w1 l e w') (hb : Below w.heap.size w w1) : NewArr w l e w' := by
  obtain ⟨v, h1, h2, h3⟩ := h
  exact ⟨v, h1, h2, below_next hb h3⟩

/-- append of two integers. -/
theorem append_two6 {ops : Array Oper} {rest : List Oper} {o : Oper} {a : Act} {Q : Exit → Act → World → Prop} (w : World) (hgd : o.guard = none) (s x : Operand)
    (ho : o.op = .call { callee := .builtin .append, args := #[s, x], argTypes := #[35, 35] })
    (base : Nat) (v : Value) (xs : List Nat) (hs : a.eval s = v) (hown : w.ownsRow base 3 1 v xs.length (xs.map nv)) (y z : Nat) (u u' : Value) (hu : u = nv y) (hu' : u' = nv z)
    (hx : a.eval x = .slice (some ⟨w.heap.size, 0, none⟩) 2 2) (hlen : xs.length ≤ 1000000000000 - 2) (hbase : base ≤ w.heap.size)
    (h : ∀ v' w', w'.ownsRow base 3 1 v' (xs ++ [y, z]).length ((xs ++ [y, z]).map nv) → Below base w w' → wpList Tryz.prog ops Q rest (a.put o.dst v') w') : wpList Tryz.prog ops Q (o :: rest) a (w.alloc (.cells #[u, u'] 3)) := by
  refine append_ints (w.alloc (.cells #[u, u'] 3)) hgd s x ho base (w.heap.size + 1) v xs hs (own_keep_below hown ((Below.refl _ _).alloc (Nat.le_refl _) _)) [y, z] _ hx (Arr.of_box (Box.made _ _ _) rfl (Nat.le_refl _) ?_) (by simp; omega) (by simp; omega) ?_
  · intro i q hq
    match i, hq with
    | 0, hq => simp at hq; subst hq; rw [hu]; rfl
    | 1, hq => simp at hq; subst hq; rw [hu']; rfl
    | i + 2, hq => simp at hq
  · intro v' w' h1 h2
    exact h v' w' h1 (((Below.refl _ _).alloc hbase _).trans h2)

/-! folded. -/
theorem low1_len (c : Nat) : (low1 c).length ≤ 2 := by unfold low1; split <;> simp
theorem fold_len : ∀ l : List Nat, (foldL l).length ≤ 2 * l.length
  | [] => by simp [foldL]
  | c :: l => by
    have h := fold_len l
    have h2 := low1_len c
    rw [show foldL (c :: l) = low1 c ++ foldL l from List.flatMap_cons, List.length_append, List.length_cons]
    omega
theorem nFL_len (s : List UInt8) : (nFL s).length ≤ 4 * s.length := by
  have h1 := fold_len (dcF (nL s))
  have h2 := dcF_len (nL s)
  have h3 := nL_len s
  unfold nFL
  omega

set_option maxRecDepth 20000 in
set_option maxHeartbeats 6400000 in
theorem refFolded_any (s : List UInt8) (w : World) (hlen : s.length ≤ 100000) :
    Calls Tryz.prog 36 #[.string (str s)] w fun e w' => ∃ v, e = .returned v ∧ w'.ownsRow w.heap.size 3 1 v (nFL s).length ((nFL s).map nv) ∧ Below w.heap.size w w' := by
  have HD0 := refDecompose_any s w hlen
  obtain ⟨F, hF⟩ : ∃ F, nFL s = F := ⟨_, rfl⟩
  rw [hF]
  obtain ⟨l, hl⟩ : ∃ l, dcF (nL s) = l := ⟨_, rfl⟩
  have hl1 := dcF_len (nL s)
  have hl2 := nL_len s
  rw [hl] at hl1
  obtain ⟨n, hn⟩ : ∃ n, l.length = n := ⟨_, rfl⟩
  have hll : n ≤ 200000 := by omega
  have HF : Hid (F = foldL l) := Lib.hid (by rw [← hF, ← hl]; rfl)
  have HDec := Lib.hid fun W => decode_own l n W (by rw [← hl]; exact dcF_ok s) hn (by omega)
  have e : nD s = encL l := by rw [← hl]; rfl
  rw [e] at HD0
  have HD := Lib.hid HD0
  have HL := Lib.hid hn
  clear hF hl hl1 hl2 hn e HD0
  go_enter Tryz.func36, Tryz.ntmps36
  go_wp2_with fail
  refine HD.out.mono ?_
  rintro e w1 ⟨rfl, hb1⟩
  go_wp2_with fail
  refine (HDec.out _).mono ?_
  rintro e w2 ⟨A, cp, rfl, hA, hb2⟩
  go_wp2
  go_loopw [5, 6] (fun v i wr => ∃ (k : Nat) (O : List Nat), k ≤ n ∧ i = .int .i64 (k : Int) ∧ O.length ≤ 2 * k ∧ Hid (O = foldL (l.take k)) ∧ wr.ownsRow w2.heap.size 3 1 v O.length (O.map nv) ∧ Below w2.heap.size w2 wr) (fun _ i _ => n - (intOf i).toNat)
  case atStart => exact ⟨0, [], by omega, rfl, by simp, Lib.hid rfl, World.ownsRow_nil _ _ _ _, Below.refl _ _⟩
  case round =>
    obtain ⟨k, O, hk, rfl, hOl, HO, hown, hb⟩ := hrel
    have hbs := hb.size
    by_cases hlt : k < n
    · have t1 : decide ((k : Int) < (n : Int)) = true := by simp; omega
      obtain ⟨b0, o0, rfl, hB0, hc0⟩ := hA.some_ (by omega)
      obtain ⟨x, hx⟩ : ∃ a, l[k]? = some a := ⟨_, List.getElem?_eq_getElem (by have := HL.out; omega)⟩
      have d0 := (hb.cell (p := ⟨b0, o0 + k, none⟩) hB0).trans (hc0 k x hx)
      simp only [nv] at d0
      have kz : (k : Int) < (n : Int) := by omega
      have HN : Hid (O ++ low1 x = foldL (l.take (k + 1))) := Lib.hid (by rw [take_next hx, HO.out]; unfold foldL; rw [List.flatMap_append, List.flatMap_cons, List.flatMap_nil, List.append_nil])
      clear hc0 hx
      by_cases h223 : x = 223
      · have t2 : ((x : Int) == 223) = true := eqb_true (by omega)
        have HN2 : Hid (O ++ [115, 115] = foldL (l.take (k + 1))) := Lib.hid (by rw [← HN.out, h223]; rfl)
        have hOl2 : (O ++ [115, 115]).length ≤ 2 * (k + 1) := by rw [List.length_append]; simp; omega
        clear h223
        go_wp2_with (at_builtin; refine append_two6 wr rfl (.tmp 24) (.tmp 25) rfl w2.heap.size u5 O rfl hown 115 115 _ _ rfl rfl rfl (by omega) hbs ?_; intro r1 w3 hown3 hb3)
        go_roundw
        case rel => exact ⟨k + 1, _, by omega, by go_num, hOl2, HN2, hown3, hb.trans hb3⟩
        case measure => simp [intOf]; omega
      · have t2 : ((x : Int) == 223) = false := eqb_false (by omega)
        obtain ⟨y, hy⟩ : ∃ y, lowN x = y := ⟨_, rfl⟩
        have HLow := Lib.hid fun W => refLower_nat x W
        rw [hy] at HLow
        have HN2 : Hid (O ++ [y] = foldL (l.take (k + 1))) := Lib.hid (by rw [← HN.out, ← hy]; unfold low1; rw [beq_false h223]; rfl)
        have hOl2 : (O ++ [y]).length ≤ 2 * (k + 1) := by rw [List.length_append]; simp; omega
        clear h223 hy
        go_wp2_with fail
        refine (HLow.out _).mono ?_
        rintro e w3 ⟨rfl, hb3⟩
        have hown2 := own_keep_below hown hb3
        have hb3s := hb3.size
        go_wp2_with (at_builtin; refine append_int w3 rfl (.tmp 27) (.tmp 33) rfl w2.heap.size u5 O rfl hown2 y _ rfl rfl (by omega) (by omega) ?_; intro r1 w4 hown3 hb4)
        go_roundw
        case rel => exact ⟨k + 1, _, by omega, by go_num, hOl2, HN2, hown3, (below_next hb hb3).trans hb4⟩
        case measure => simp [intOf]; omega
    · obtain rfl : k = n := by omega
      have HE : Hid (F = O) := Lib.hid (by rw [HF.out, HO.out, List.take_of_length_le (by rw [HL.out]; omega)])
      go_wp2
      go_ret
      rw [HE.out]
      exact ⟨_, rfl, own_less (Nat.le_trans hb1.size hb2.size) hown, below_next hb1 (below_next hb2 hb)⟩

set_option maxHeartbeats 1600000 in
theorem refFold_any (s : List UInt8) (w : World) (hlen : s.length ≤ 100000) :
    Calls Tryz.prog 19 #[.string (str s)] w fun e w' => e = .returned (.string (str (nFold s))) ∧ Below w.heap.size w w' := by
  have HD := Lib.hid (refFolded_any s w hlen)
  obtain ⟨R, hR⟩ : ∃ R, nFold s = R := ⟨_, rfl⟩
  have HR : Hid (encL (nFL s) = R) := Lib.hid hR
  have HOK := Lib.hid (dec_ok (nFL_dec s))
  have hl := nFL_len s
  obtain ⟨l, hl0⟩ : ∃ l, nFL s = l := ⟨_, rfl⟩
  rw [hl0] at HD HR HOK hl
  have HL : Hid (l.length ≤ 1000000) := Lib.hid (by omega)
  rw [hR]
  clear hR hl hl0
  go_enter Tryz.func19, Tryz.ntmps19
  go_wp2_with fail
  refine HD.out.mono ?_
  rintro e w1 ⟨v, rfl, hown, hb1⟩
  have HE := Lib.hid (encode_own _ v _ w1 hown HOK.out HL.out)
  clear hown
  go_wp2_with fail
  refine HE.out.mono ?_
  rintro e w2 ⟨rfl, hb2⟩
  rw [HR.out]
  go_wp2
  go_ret
  exact ⟨rfl, below_next hb1 hb2⟩

end Go.Proofs.YtmgofhbdaopapaaGreatDoor

namespace Go.Proofs.YtmgofhbdaopapaaGreatDoor
open Go.RowKit

theorem str_pre {P : Program} (T : TypeId) (hT : P.underlying T = some .string) (s : List UInt8) (k : Nat) (h : k ≤ s.length) (W : World) :
    (Instr.sliceAt T (.string (str s)) none (some (.int .i64 (k : Int))) none).run P W = .ok (.string (str (s.take k))) W := by
  rw [run_sliceAt_string W _ _ _ _ _ hT, run_slice_string_h W _ _ hT .i64 (k : Int) (by omega) (by show (k : Int) ≤ (s.length : Int); omega)]
  congr 2
  apply ByteArray.ext
  simp [str]
theorem str_suf {P : Program} (T : TypeId) (hT : P.underlying T = some .string) (s : List UInt8) (k : Nat) (h : k ≤ s.length) (W : World) :
    (Instr.sliceAt T (.string (str s)) (some (.int .i64 (k : Int))) none none).run P W = .ok (.string (str (s.drop k))) W := by
  rw [run_sliceAt_string W _ _ _ _ _ hT, run_slice_string_l W _ _ hT .i64 (k : Int) (by omega) (by show (k : Int) ≤ (s.length : Int); omega)]
  congr 2
  apply ByteArray.ext
  simp [str]
  exact List.take_of_length_le (by rw [List.length_drop]; exact Nat.le_refl _)
theorem strs_beq (a b : List UInt8) : ((str a).toList == (str b).toList) = decide (a = b) := by
  rw [str_toList, str_toList]
  by_cases h : a = b
  · rw [h, decide_eq_true rfl]; simp
  · rw [decide_eq_false h]; simpa using h
theorem strs_some {a : List UInt8} (h : a ≠ []) : (str a).toList.isEmpty = false := by
  rw [str_toList]
  cases a with
  | nil => exact absurd rfl h
  | cons x a => rfl
theorem strs_ne {a : List UInt8} (h : a ≠ []) : ((str a).toList == []) = false := by
  rw [str_toList]
  cases a with
  | nil => exact absurd rfl h
  | cons x a => rfl
theorem add_strs {P : Program} {w : World} (a b : List UInt8) (h : a.length + b.length ≤ 9223372036854775807) : (Op.stringOp .add (str a) (str b)).run P w = .ok (.string (str (a ++ b))) w := by
  rw [run_string_add_sum w (str a) (str b) h, str_append]

end Go.Proofs.YtmgofhbdaopapaaGreatDoor
