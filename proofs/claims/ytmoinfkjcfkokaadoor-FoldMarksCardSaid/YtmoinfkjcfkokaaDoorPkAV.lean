/-
  The body of FoldCharacters.
  The body of FoldJoins.
  The body of FoldLower.
-/
import Derived.Test.YtmoinfkjcfkokaaDoorPkAU
import Derived.Deep.RegionHeld3
namespace Go.Proofs.YtmoinfkjcfkokaaDoor
open Go.RowKit

theorem nD_nSearch (s : List UInt8) : nD (nSearch s) = nSearch s := by
  unfold nD
  rw [nL_nSearch, dc_dec (nSL_dec s)]
  rfl
theorem nIs_nSearch (s : List UInt8) : nIs6 (nSearch s) = decide (nSearch s ≠ []) := by
  unfold nIs6
  rw [nSearch_nSearch]
  simp
theorem decS_at (W : World) (l : List Nat) (n : Nat) (w : World) (hk : Below W.heap.size W w) (hs : (encL l).length ≤ 60000) (hok : ∀ c ∈ l, okC c) (hn : l.length = n) (x : List UInt8) (hx : encL l = x) :
    Calls Tryd.prog 22 #[.string (str x)] w fun e w' => ∃ A c, e = .returned (.tuple #[.slice A n c, .bool true]) ∧ Arr nv w' w'.heap.size (.slice A n c) l ∧ Below W.heap.size W w' ∧ Below w.heap.size w w' := by
  subst hx hn
  refine (refDecode_any (encL l) w (by omega)).mono ?_
  rintro e w' ⟨h1, h2⟩
  rw [enc_some hok] at h1
  obtain ⟨v, rfl, hown⟩ := h1
  have hA := Arr.of_own hown
  obtain ⟨A, c, rfl⟩ := hA.form
  exact ⟨A, c, rfl, hA, below_next hk h2, h2⟩
theorem refDec_at (W : World) (s t : List UInt8) (w : World) (hk : Below W.heap.size W w) (hs : s.length ≤ 5000) (hr : nD s = t) :
    Calls Tryd.prog 24 #[.string (str s)] w fun e w' => e = .returned (.string (str t)) ∧ Below W.heap.size W w' ∧ Below w.heap.size w w' := by
  subst hr
  exact (refDecompose_any s w (by omega)).mono fun _ _ ⟨h1, h2⟩ => ⟨h1, below_next hk h2, h2⟩

set_option maxRecDepth 20000 in
set_option maxHeartbeats 6400000 in
theorem foldCharacters_v (s : List UInt8) (w : World) (hS : Ready6 w) (hlen : s.length ≤ 9223372036854775807) :
    Calls Tryd.prog 6 #[.string (str s)] w fun e w' => e = .returned (.bool true) ∧ Below w.heap.size w w' := by
  have hsz : (str s).size = s.length := rfl
  by_cases h5 : 80 < s.length
  · have t1 : decide (80 < (s.length : Int)) = true := by simp; omega
    go_enter Tryd.func6, Tryd.ntmps6
    go_wp2_with fail
    refine (awake6_any _ hS).mono ?_
    rintro e w1 ⟨rfl, k1⟩
    go_wp2
    go_ret
    exact ⟨rfl, k1⟩
  have t1 : decide (80 < (s.length : Int)) = false := by simp; omega
  have hs : s.length ≤ 5000 := by omega
  have hD0 := nD_nSearch s
  have hI0 := nIs_nSearch s
  have hC0 := fun (k y : Nat) (h : (nSL s)[k]? = some y) => search_chars s h
  have hl0 := nSearch_len s
  have hok0 := dec_ok (nSL_dec s)
  have hen : encL (nSL s) = nSearch s := rfl
  obtain ⟨x, hvx⟩ : ∃ x, nSearch s = x := ⟨_, rfl⟩
  obtain ⟨l, hvl⟩ : ∃ x, nSL s = x := ⟨_, rfl⟩
  have Hx := Lib.hid hvx
  rw [hvx] at hD0 hI0 hl0 hen
  rw [hvl] at hC0 hok0 hen
  obtain ⟨n, hn⟩ : ∃ n, l.length = n := ⟨_, rfl⟩
  have hxl : x.length ≤ 5000 := by omega
  have hxl2 : (encL l).length ≤ 60000 := by rw [hen]; omega
  have HD := Lib.hid hD0
  have HC := Lib.hid hC0
  have HL := Lib.hid hn
  have HOK := Lib.hid hok0
  have HEN := Lib.hid hen
  have HNB : Hid (n ≤ 100000) := Lib.hid (by
    have h1 := nFL_len s
    have h2 := toks_len (nFL s)
    have h3 := sq_len ((nFL s).flatMap tokL)
    have e : nSL s = sq ((nFL s).flatMap tokL) := rfl
    rw [← e, hvl] at h3
    omega)
  have qx := same_str6 x
  have HX0 : Hid (nIs6 x = true ∧ x ≠ [] ∨ nIs6 x = false ∧ x = []) := Lib.hid (by
    rw [hI0]
    by_cases h0 : x = []
    · right; exact ⟨by rw [h0]; rfl, h0⟩
    · left; exact ⟨decide_eq_true h0, h0⟩)
  clear hvx hvl hD0 hI0 hl0 hen hC0 hok0 hn
  go_enter Tryd.func6, Tryd.ntmps6
  go_wp2_with fail
  refine (awake6_any _ hS).mono ?_
  rintro e w1 ⟨rfl, k1⟩
  go_wp2_with fail
  refine (prSearch_at w hS s x _ k1 hs Hx.out).mono ?_
  rintro e w2 ⟨rfl, k2, n2⟩
  go_wp2_with fail
  refine (decS_at w l n _ k2 hxl2 HOK.out HL.out x HEN.out).mono ?_
  rintro e w3 ⟨A3, c3, rfl, hA, k3, n3⟩
  have hn3 := HNB.out
  go_wp2
  go_loopw [23] (fun i wr => ∃ k : Nat, k ≤ n ∧ i = .int .i64 (k : Int) ∧ Below w3.heap.size w3 wr) (fun i _ => n - (intOf i).toNat)
  case atStart => exact ⟨0, by omega, rfl, Below.refl _ _⟩
  case round =>
    obtain ⟨k, hk, rfl, hb⟩ := hrel
    have hbs := hb.size
    by_cases hlt : k < n
    · have i1 : decide ((k : Int) < (n : Int)) = true := by simp; omega
      obtain ⟨b0, o0, rfl, hB0, hc0⟩ := hA.some_ (by omega)
      obtain ⟨y, hy⟩ : ∃ a, l[k]? = some a := ⟨_, List.getElem?_eq_getElem (by have := HL.out; omega)⟩
      have HCell : Hid (∀ W, Below w3.heap.size w3 W → W.cell? ⟨b0, o0 + k, none⟩ = some (.int .i64 (y : Int))) := Lib.hid fun W hW => (hW.cell (p := ⟨b0, o0 + k, none⟩) hB0).trans (hc0 k y hy)
      have d0 := HCell.out wr hb
      have kz : (k : Int) < (n : Int) := by omega
      have hch := HC.out k y hy
      have hcl := class_any (y : Int) wr
      rw [clsF_eq] at hcl
      obtain ⟨a, ha⟩ : ∃ a, (clsF y).1 = a := ⟨_, rfl⟩
      obtain ⟨kd, hkd⟩ : ∃ kd, kN y = kd := ⟨_, rfl⟩
      rw [ha, show (clsF y).2 = kd from hkd] at hcl
      rw [hkd] at hch
      have HCl := Lib.hid hcl
      clear ha hcl hkd
      rcases hch with ⟨h32, hk0, hkn, hp⟩ | ⟨h32, hch⟩
      · have t2 : ((y : Int) == 32) = true := eqb_true (by omega)
        have hkn2 : k + 1 < n := by have := HL.out; omega
        obtain ⟨j, rfl⟩ : ∃ j, k = j + 1 := ⟨k - 1, by omega⟩
        obtain ⟨z, hz⟩ : ∃ a, l[j]? = some a := ⟨_, List.getElem?_eq_getElem (by have := HL.out; omega)⟩
        have hz32 : z ≠ 32 := fun e => hp (by rw [show j + 1 - 1 = j by omega, hz, e])
        have t3 : (((j + 1 : Nat) : Int) == 0) = false := eqb_false (by omega)
        have t4 : (((j + 1 : Nat) : Int) == (n : Int) - 1) = false := eqb_false (by omega)
        have t3' : ((j : Int) + 1 == 0) = false := eqb_false (by omega)
        have t4' : ((j : Int) + 1 == (n : Int) - 1) = false := eqb_false (by omega)
        have t5 : ((z : Int) == 32) = false := eqb_false (by omega)
        have e0 : ((j + 1 : Nat) : Int) - 1 = (j : Int) := by omega
        have z0 : (j : Int) < (n : Int) := by omega
        have dz := (hb.cell (p := ⟨b0, o0 + j, none⟩) hB0).trans (hc0 j z hz)
        simp only [nv] at dz
        clear hc0 hy hp hz h32
        go_wp2_with fail
        refine HCl.out.mono ?_
        rintro e w4 ⟨rfl, q4, rfl⟩
        unfold two
        go_wp2
        go_roundw
        case rel => exact ⟨j + 1 + 1, by omega, by go_num, below_drewN hb q4⟩
        case measure => simp [intOf]; omega
      · have t2 : ((y : Int) == 32) = false := eqb_false (by omega)
        rcases hch with ⟨hkd, h57⟩ | ⟨hkd, hlow⟩
        · subst hkd
          have t6 : decide (57 < (y : Int)) = false := by simp; omega
          have t6' : decide (57 < y) = false := by simp; omega
          clear hc0 hy h32
          go_wp2_with fail
          refine HCl.out.mono ?_
          rintro e w4 ⟨rfl, q4, rfl⟩
          unfold two
          go_wp2
          go_roundw
          case rel => exact ⟨k + 1, by omega, by go_num, below_drewN hb q4⟩
          case measure => simp [intOf]; omega
        · subst hkd
          have HLow : Hid (∀ W : World, Calls Tryd.prog 18 #[.int .i64 (y : Int)] W fun e w' => e = .returned (.int .i64 (y : Int)) ∧ Below W.heap.size W w') := Lib.hid fun W => by
            have h := refLower_nat y W
            rw [hlow] at h
            exact h
          clear hc0 hy h32 hlow
          go_wp2_with fail
          refine HCl.out.mono ?_
          rintro e w4 ⟨rfl, q4, rfl⟩
          unfold two
          have hbq := below_drewN hb q4
          have d4 := HCell.out (wr.drewN q4) hbq
          have hBq : b0 < (wr.drewN q4).heap.size := by have := hbq.size; omega
          obtain ⟨wq, hwq⟩ : ∃ wq, wr.drewN q4 = wq := ⟨_, rfl⟩
          rw [hwq] at d4 hbq hBq ⊢
          clear hwq d0
          go_wp2
          go_region_held3 (fun v => v.cell? ⟨b0, o0 + k, none⟩ = some (.int .i64 (y : Int))) (first | exact d4 | exact d5)
            (first | (go_at_call 18; (with_reducible refine (HLow.out _).mono ?_); rintro e w5 ⟨rfl, hb5⟩; have d5 := (hb5.cell (p := ⟨b0, o0 + k, none⟩) hBq).trans d4))
          all_goals
            go_wp2
            go_roundw
            case rel => exact ⟨k + 1, by omega, by go_num, below_next hbq.drew hb5⟩
            case measure => simp [intOf]; omega
    · obtain rfl : k = n := by omega
      rcases HX0.out with ⟨hi, h0⟩ | ⟨hi, h0⟩
      · have HI := Lib.hid hi
        have z0 : ¬ (str x).toList = [] := by rw [str_toList]; exact h0
        have z1 := str_beq_nil h0
        have z2 : (str x).toList.isEmpty = false := by rw [str_toList]; cases x; exact absurd rfl h0; rfl
        clear hi h0
        go_wp2_with fail
        refine (refDec_at w x x _ (below_next k3 hb) hxl HD.out).mono ?_
        rintro e w4 ⟨rfl, k4, n4⟩
        go_wp2_with fail
        refine (prIs6_at w hS x _ _ k4 hxl HI.out).mono ?_
        rintro e w5 ⟨rfl, k5, n5⟩
        go_wp2
        go_ret
        exact ⟨rfl, k5⟩
      · have HI := Lib.hid hi
        have z0 : (str x).toList = [] := by rw [str_toList]; exact h0
        clear hi h0
        go_wp2_with fail
        refine (refDec_at w x x _ (below_next k3 hb) hxl HD.out).mono ?_
        rintro e w4 ⟨rfl, k4, n4⟩
        go_wp2_with fail
        refine (prIs6_at w hS x _ _ k4 hxl HI.out).mono ?_
        rintro e w5 ⟨rfl, k5, n5⟩
        go_wp2
        go_ret
        exact ⟨rfl, k5⟩

end Go.Proofs.YtmoinfkjcfkokaaDoor

namespace Go.Proofs.YtmoinfkjcfkokaaDoor
open Go.RowKit

/-- Decode of any string that is not too long: what the statement looks at. -/
theorem decOk_at (W : World) (s : List UInt8) (b : Bool) (w : World) (hk : Below W.heap.size W w) (hs : s.length ≤ 5000) (hb : (decR s).isSome = b) :
    Calls Tryd.prog 22 #[.string (str s)] w fun e w' => ∃ A n c, e = .returned (.tuple #[.slice A n c, .bool b]) ∧ Below W.heap.size W w' := by
  subst hb
  refine (refDecode_any s w (by omega)).mono ?_
  rintro e w' ⟨h1, h2⟩
  obtain ⟨A, n, c, b, rfl, h⟩ := h1.form
  refine ⟨A, n, c, ?_, below_next hk h2⟩
  rcases h with ⟨rfl, l, h, _⟩ | ⟨rfl, h, _⟩
  · rw [h]; rfl
  · rw [h]; rfl
theorem prJoin_at (W : World) (hS : Ready6 W) (A : Option Addr) (n c : Nat) (xs : List (List UInt8)) (t : List UInt8) (w : World) (hk : Below W.heap.size W w) (h : Arr sv W W.heap.size (.slice A n c) xs) (hn : n ≤ 1000) (hx : ∀ x ∈ xs, x.length ≤ 1000) (hr : nJoin xs = t) :
    Calls Tryd.prog 25 #[.slice A n c] w fun e w' => e = .returned (.string (str t)) ∧ Below W.heap.size W w' := by
  subst hr
  exact (prJoin6_any A n c xs w (hS.below hk) (h.up hk) hn hx).mono fun _ _ ⟨h1, h2⟩ => ⟨h1, below_next hk h2⟩
theorem refJoin_at (W : World) (A : Option Addr) (n c : Nat) (xs : List (List UInt8)) (t : List UInt8) (w : World) (hk : Below W.heap.size W w) (h : Arr sv W W.heap.size (.slice A n c) xs) (hn : n ≤ 1000) (hx : ∀ x ∈ xs, x.length ≤ 1000) (hr : nJoin xs = t) :
    Calls Tryd.prog 26 #[.slice A n c] w fun e w' => e = .returned (.string (str t)) ∧ Below W.heap.size W w' := by
  subst hr
  exact (refJoin6_any A n c xs w (h.up hk) hn hx).mono fun _ _ ⟨h1, h2⟩ => ⟨h1, below_next hk h2⟩
theorem elem_texts : Tryd.prog.underlying 33 = some (.slice (Tryd.prog.elem 33)) := by kernel_rfl
theorem size_elem_text (W : World) : (sizeOf (Tryd.prog.elem 33)).run Tryd.prog W = .ok 1 W := by kernel_rfl

set_option maxRecDepth 20000 in
set_option maxHeartbeats 6400000 in
theorem foldJoins_v (A : Option Addr) (n c : Nat) (xs : List (List UInt8)) (w : World) (hS : Ready6 w) (h : Arr sv w w.heap.size (.slice A n c) xs) (hn : n ≤ 9223372036854775807) (hmax : ∀ x ∈ xs, x.length ≤ 9223372036854775807) :
    Calls Tryd.prog 7 #[.slice A n c] w fun e w' => e = .returned (.bool true) ∧ Below w.heap.size w w' := by
  have hxl := h.len
  by_cases h5 : 6 < n
  · have t1 : decide (6 < (n : Int)) = true := by simp; omega
    go_enter Tryd.func7, Tryd.ntmps7
    go_wp2_with fail
    refine (awake6_any _ hS).mono ?_
    rintro e w1 ⟨rfl, k1⟩
    go_wp2
    go_ret
    exact ⟨rfl, k1⟩
  have t1 : decide (6 < (n : Int)) = false := by simp; omega
  have HL := Lib.hid hxl
  have HMx := Lib.hid hmax
  clear hxl hmax
  go_enter Tryd.func7, Tryd.ntmps7
  go_wp2_with fail
  refine (awake6_any _ hS).mono ?_
  rintro e w1 ⟨rfl, k1⟩
  go_wp2
  go_loopw [15] (fun i wr => ∃ k : Nat, k ≤ n ∧ i = .int .i64 (k : Int) ∧ Hid (∀ x ∈ xs.take k, x.length ≤ 30) ∧ wr = w1) (fun i _ => n - (intOf i).toNat)
  case atStart => exact ⟨0, by omega, rfl, Lib.hid (by simp), rfl⟩
  case round =>
    obtain ⟨k, hk, rfl, HK, rfl⟩ := hrel
    by_cases hlt : k < n
    · have i1 : decide ((k : Int) < (n : Int)) = true := by simp; omega
      obtain ⟨b0, o0, rfl, hB0, hc0⟩ := h.some_ (by omega)
      obtain ⟨x, hx⟩ : ∃ a, xs[k]? = some a := ⟨_, List.getElem?_eq_getElem (by have := HL.out; omega)⟩
      have d0 := (k1.cell (p := ⟨b0, o0 + k, none⟩) hB0).trans (hc0 k x hx)
      simp only [sv] at d0
      have kz : (k : Int) < (n : Int) := by omega
      have hsz : (str x).size = x.length := rfl
      have hxm := HMx.out x (List.mem_of_getElem? hx)
      by_cases h30 : 30 < x.length
      · have t2 : decide (30 < (x.length : Int)) = true := by simp; omega
        clear hc0 hx
        go_wp2
        go_ret
        exact ⟨rfl, k1⟩
      · have t2 : decide (30 < (x.length : Int)) = false := by simp; omega
        have HK2 : Hid (∀ y ∈ xs.take (k + 1), y.length ≤ 30) := Lib.hid (by
          intro y hy
          rw [take_next hx] at hy
          rcases List.mem_append.1 hy with hy | hy
          · exact HK.out y hy
          · rw [List.mem_singleton.1 hy]; omega)
        clear hc0 hx
        go_wp2
        go_roundw
        case rel => exact ⟨k + 1, by omega, by go_num, HK2, trivial⟩
        case measure => simp [intOf]; omega
    · obtain rfl : k = n := by omega
      have hall0 : ∀ x ∈ xs, x.length ≤ 30 := by have := HK.out; rwa [List.take_of_length_le (by rw [HL.out]; omega)] at this
      have HA := Lib.hid hall0
      have HX : Hid (∀ x ∈ xs, x.length ≤ 1000) := Lib.hid (fun x hx => by have := hall0 x hx; omega)
      obtain ⟨J, hJ⟩ : ∃ J, nJoin xs = J := ⟨_, rfl⟩
      have HJ := Lib.hid hJ
      have qJ := same_str6 J
      have qJ2 : ((str J).toList != (str J).toList) = false := by simp
      clear hall0 hJ
      go_wp2_with fail
      refine (prJoin_at w hS A k c xs J _ k1 h (by omega) HX.out HJ.out).mono ?_
      rintro e w2 ⟨rfl, k2⟩
      go_wp2_with fail
      refine (refJoin_at w A k c xs J _ k2 h (by omega) HX.out HJ.out).mono ?_
      rintro e w3 ⟨rfl, k3⟩
      by_cases h2 : k < 2
      · have t2 : decide ((k : Int) < 2) = true := by simp; omega
        go_wp2
        go_ret
        exact ⟨rfl, k3⟩
      · have t2 : decide ((k : Int) < 2) = false := by simp; omega
        obtain ⟨b0, o0, rfl, hB0, hc0⟩ := h.some_ (by omega)
        obtain ⟨x, y, r, hxy⟩ : ∃ x y r, xs = x :: y :: r := by
          have := HL.out
          match xs, this with
          | [], e => simp at e; omega
          | [x], e => simp at e; omega
          | x :: y :: r, _ => exact ⟨x, y, r, rfl⟩
        have d0 := (k3.cell (p := ⟨b0, o0, none⟩) hB0).trans (hc0 0 x (by rw [hxy]; rfl))
        have d1 := (k3.cell (p := ⟨b0, o0 + 1, none⟩) hB0).trans (hc0 1 y (by rw [hxy]; rfl))
        simp only [sv] at d0 d1
        have z0 : (0 : Int) < (k : Int) := by omega
        have z1 : (1 : Int) < (k : Int) := by omega
        have hx30 := HA.out x (by rw [hxy]; simp)
        have hy30 := HA.out y (by rw [hxy]; simp)
        obtain ⟨bx, hbx⟩ : ∃ b, (decR x).isSome = b := ⟨_, rfl⟩
        obtain ⟨by', hby⟩ : ∃ b, (decR y).isSome = b := ⟨_, rfl⟩
        have HBx := Lib.hid hbx
        have HBy := Lib.hid hby
        have h2c := h.cap
        have hhead : Arr sv w w.heap.size (.slice (some ⟨b0, o0, none⟩) 2 c) [x, y] := by
          have := h.head (N := 2) (by omega)
          rwa [hxy] at this
        have hsl : ∀ W : World, (Instr.sliceAt 33 (.slice (some ⟨b0, o0, none⟩) k c) none (some (.int .i64 2)) none).run Tryd.prog W = .ok (.slice (some ⟨b0, o0, none⟩) 2 c) W := fun W => slice_head 33 elem_texts size_elem_text _ k c 2 (by omega) W
        go_wp2_with fail
        refine (decOk_at w x bx _ k3 (by omega) HBx.out).mono ?_
        rintro e w4 ⟨A4, n4, c4, rfl, k4⟩
        have d0' := (k4.cell (p := ⟨b0, o0, none⟩) hB0).trans (hc0 0 x (by rw [hxy]; rfl))
        have d1' := (k4.cell (p := ⟨b0, o0 + 1, none⟩) hB0).trans (hc0 1 y (by rw [hxy]; rfl))
        simp only [sv] at d0' d1'
        go_wp2_with fail
        refine (decOk_at w y by' _ k4 (by omega) HBy.out).mono ?_
        rintro e w5 ⟨A5, n5, c5, rfl, k5⟩
        have e0 := (k5.cell (p := ⟨b0, o0, none⟩) hB0).trans (hc0 0 x (by rw [hxy]; rfl))
        have e1 := (k5.cell (p := ⟨b0, o0 + 1, none⟩) hB0).trans (hc0 1 y (by rw [hxy]; rfl))
        simp only [sv] at e0 e1
        have HR0 : Hid (∀ v : World, Below w.heap.size w v → v.cell? ⟨b0, o0, none⟩ = some (.string (str x)) ∧ v.cell? ⟨b0, o0 + 1, none⟩ = some (.string (str y))) := Lib.hid fun v hv =>
          ⟨(hv.cell (p := ⟨b0, o0, none⟩) hB0).trans (hc0 0 x (by rw [hxy]; rfl)), (hv.cell (p := ⟨b0, o0 + 1, none⟩) hB0).trans (hc0 1 y (by rw [hxy]; rfl))⟩
        clear hc0 hxy hbx hby d0 d1 d0' d1'
        cases bx with
        | false =>
          go_wp2
          go_quiet (fail)
          go_wp2
          go_ret
          exact ⟨rfl, below_drewN k5 _⟩
        | true =>
          cases by' with
          | false =>
            go_wp2
            go_quiet (fail)
            go_wp2
            go_ret
            exact ⟨rfl, below_drewN k5 _⟩
          | true =>
            obtain ⟨J2, hJ2⟩ : ∃ J2, nJoin [x, y] = J2 := ⟨_, rfl⟩
            have hst : nSearch (x ++ 32 :: y) = J2 := by rw [join_two HBx.out HBy.out, hJ2]
            have HSe := Lib.hid fun (v : World) (hv : Below w.heap.size w v) => (prSearch_at w hS (x ++ 32 :: y) J2 v hv (by rw [List.length_append, List.length_cons]; omega) hst)
            have HJo := Lib.hid fun (v : World) (hv : Below w.heap.size w v) => (prJoin_at w hS (some ⟨b0, o0, none⟩) 2 c [x, y] J2 v hv hhead (by omega) (by intro z hz; simp at hz; rcases hz with rfl | rfl <;> omega) hJ2)
            have hadd1 : ∀ W : World, (Op.stringOp .add (str x) ⟨#[32]⟩).run Tryd.prog W = .ok (.string (str (x ++ [32]))) W := fun W => add_str x [32] (by rw [List.length_singleton]; omega)
            have hadd2 : ∀ W : World, (Op.stringOp .add (str (x ++ [32])) (str y)).run Tryd.prog W = .ok (.string (str (x ++ 32 :: y))) W := fun W => by
              rw [add_str (x ++ [32]) y (by rw [List.length_append, List.length_singleton]; omega), List.append_assoc]
              rfl
            have q2 := same_str6 J2
            have z0' : 0 < k := by omega
            clear hst hJ2 hhead
            go_wp2
            go_region_held3 (fun v => Below w.heap.size w v ∧ v.cell? ⟨b0, o0, none⟩ = some (.string (str x)) ∧ v.cell? ⟨b0, o0 + 1, none⟩ = some (.string (str y))) (first | exact ⟨k5.drew, e0, e1⟩ | exact ⟨hbI, (HR0.out _ hbI).1, (HR0.out _ hbI).2⟩)
              (first
                | (go_at_call 13; (with_reducible refine (HSe.out _ ?_).mono ?_); go_must (first | exact k5.drew | exact hbI); rintro e wI ⟨rfl, hbI, _⟩)
                | (go_at_call 25; (with_reducible refine (HJo.out _ ?_).mono ?_); go_must (first | exact k5.drew | exact hbI); rintro e wI ⟨rfl, hbI⟩))
            all_goals
              go_wp2
              go_ret
              exact ⟨rfl, hbI⟩

end Go.Proofs.YtmoinfkjcfkokaaDoor

namespace Go.Proofs.YtmoinfkjcfkokaaDoor
open Go.RowKit

theorem append_all_open {ops : Array Oper} {rest : List Oper} {o : Oper} {a : Act} {Q : Exit → Act → World → Prop} (w : World) (hgd : o.guard = none) (s x : Operand)
    (ho : o.op = .call { callee := .builtin .append, args := #[s, x], argTypes := #[28, 28] })
    (base B : Nat) (v : Value) (hs : a.eval s = v) (hown : w.ownsRow base 3 1 v 0 []) (news : List Nat) (N : Nat) (hN : news.length = N) (h0 : 0 < N) (src : Value) (hx : a.eval x = src) (hsl : Arr nv w B src news)
    (hlen : N ≤ 1000000000000) (hbase : base ≤ w.heap.size)
    (h : ∀ (g cap : Nat) (cur : Array Value) (w' : World), base ≤ g → Box w' g 3 cur → N ≤ cap → cap ≤ maxLen → cur.size = cap → cur.toList.take N = news.map nv → Below base w w' →
      wpList Tryd.prog ops Q rest (a.put o.dst (.slice (some ⟨g, 0, none⟩) N cap)) w') : wpList Tryd.prog ops Q (o :: rest) a w := by
  refine append_ints w hgd s x ho base B v [] hs hown news src hx hsl (by simp; omega) hbase ?_
  intro v' w' h1 h2
  rw [List.nil_append, hN] at h1
  obtain ⟨g, cap, cur, rfl, k1, k2, k3, k4, k5, k6⟩ := own_open h1 h0
  exact h g cap cur w' k1 k2 k3 k4 k5 k6 h2
/-- Integers that are all in the repertoire are characters. -/
theorem all_nats : ∀ xs : List Int, xs.all hasR = true → ∃ l : List Nat, xs = l.map (fun d : Nat => (d : Int)) ∧ ∀ c ∈ l, hasN c = true
  | [], _ => ⟨[], rfl, by simp⟩
  | x :: xs, h => by
    rw [List.all_cons, Bool.and_eq_true] at h
    obtain ⟨l, h1, h2⟩ := all_nats xs h.2
    have hr := has_range h.1
    refine ⟨x.toNat :: l, by rw [List.map_cons, ← h1]; congr 1; omega, fun c hc => ?_⟩
    rcases List.mem_cons.1 hc with rfl | hc
    · rw [← hasN_eq, show ((x.toNat : Nat) : Int) = x by omega]
      exact h.1
    · exact h2 c hc
theorem encode_at (W : World) (A : Option Addr) (n c : Nat) (xs : List Int) (w : World) (hk : Below W.heap.size W w) (h : Arr iv w w.heap.size (.slice A n c) xs) (hn : n ≤ 1000000000000000000) :
    Calls Tryd.prog 27 #[.slice A n c] w fun e w' => EncEnd (encR xs) e ∧ Below W.heap.size W w' ∧ Below w.heap.size w w' :=
  (refEncode_any A n c xs w h hn).mono fun _ _ ⟨h1, h2⟩ => ⟨h1, below_next hk h2, h2⟩
theorem put_take {cur : Array Value} {n K : Nat} {P Q : List Nat} {x y : Nat} (h : cur.toList.take n = (P ++ x :: Q).map nv) (hP : P.length = K) : (cur.setIfInBounds K (nv y)).toList.take n = (P ++ y :: Q).map nv := by
  rw [Array.toList_setIfInBounds, List.take_set, h, List.map_append, List.map_append, List.map_cons, List.map_cons, List.set_append_right _ _ (by rw [List.length_map]; omega), List.length_map, hP]
  simp

set_option maxRecDepth 100000 in
set_option maxHeartbeats 6400000 in
theorem foldLower_v (A : Option Addr) (n c : Nat) (xs : List Int) (a : Nat) (w : World) (hS : Ready6 w) (h : Arr iv w w.heap.size (.slice A n c) xs) (hn : n ≤ 1000000000000000000) (ha : a < 256) :
    Calls Tryd.prog 8 #[.slice A n c, .int .u8 (a : Int)] w fun e w' => e = .returned (.bool true) ∧ Below w.heap.size w w' := by
  have hxl := h.len
  cases hr : xs.all hasR with
  | false =>
    have HE : Hid (encR xs = none) := Lib.hid (by unfold encR; rw [if_neg]; rw [hr]; decide)
    clear hr hxl
    go_enter Tryd.func8, Tryd.ntmps8
    go_wp2_with fail
    refine (awake6_any _ hS).mono ?_
    rintro e w1 ⟨rfl, k1⟩
    have h1 := h.up k1
    go_wp2_with fail
    refine (encode_at w A n c xs w1 k1 h1 hn).mono ?_
    rintro e w2 ⟨he, k2, n2⟩
    rw [HE.out] at he
    obtain rfl := show e = _ from he
    go_wp2
    go_ret
    exact ⟨rfl, k2⟩
  | true =>
    obtain ⟨l, rfl, hl⟩ := all_nats xs hr
    rw [List.length_map] at hxl
    have hok : ∀ x ∈ l, okC x := fun x hx => ok_of_has (hl x hx)
    have HE : Hid (encR (l.map fun d : Nat => (d : Int)) = some (encL l)) := Lib.hid (encR_nats hok)
    obtain ⟨S, hSS⟩ : ∃ S, encL l = S := ⟨_, rfl⟩
    rw [hSS] at HE
    by_cases h20 : 20 < n
    · have t1 : decide (20 < (n : Int)) = true := by simp; omega
      clear hr hxl hok hl hSS
      go_enter Tryd.func8, Tryd.ntmps8
      go_wp2_with fail
      refine (awake6_any _ hS).mono ?_
      rintro e w1 ⟨rfl, k1⟩
      have h1 := h.up k1
      go_wp2_with fail
      refine (encode_at w A n c _ w1 k1 h1 hn).mono ?_
      rintro e w2 ⟨he, k2, n2⟩
      rw [HE.out] at he
      obtain rfl := show e = _ from he
      go_wp2
      go_ret
      exact ⟨rfl, k2⟩
    have t1 : decide (20 < (n : Int)) = false := by simp; omega
    by_cases h0 : n = 0
    · have t2 : ((n : Int) == 0) = true := eqb_true (by omega)
      clear hr hxl hok hl hSS h0
      go_enter Tryd.func8, Tryd.ntmps8
      go_wp2_with fail
      refine (awake6_any _ hS).mono ?_
      rintro e w1 ⟨rfl, k1⟩
      have h1 := h.up k1
      go_wp2_with fail
      refine (encode_at w A n c _ w1 k1 h1 hn).mono ?_
      rintro e w2 ⟨he, k2, n2⟩
      rw [HE.out] at he
      obtain rfl := show e = _ from he
      go_wp2
      go_ret
      exact ⟨rfl, k2⟩
    have t2 : ((n : Int) == 0) = false := eqb_false (by omega)
    obtain ⟨K, hK⟩ : ∃ K, a % n = K := ⟨_, rfl⟩
    have hKn : K < n := by rw [← hK]; exact Nat.mod_lt _ (by omega)
    have hmod : (a : Int).tmod (n : Int) = (K : Int) := by rw [Int.tmod_eq_emod_of_nonneg (by omega), ← hK]; exact (Int.natCast_emod a n).symm
    have hmod2 : (a : Int) % (n : Int) = (K : Int) := by rw [← hK]; exact (Int.natCast_emod a n).symm
    obtain ⟨x, hx⟩ : ∃ x, l[K]? = some x := ⟨_, List.getElem?_eq_getElem (by omega)⟩
    have hxh := hl x (List.mem_of_getElem? hx)
    obtain ⟨P, Q, hPQ, hPl⟩ : ∃ P Q, l = P ++ x :: Q ∧ P.length = K := by
      obtain ⟨g1, g2⟩ := List.getElem?_eq_some_iff.1 hx
      refine ⟨l.take K, l.drop (K + 1), ?_, by rw [List.length_take]; omega⟩
      conv => lhs; rw [← List.take_append_drop K l, List.drop_eq_getElem_cons g1, g2]
    obtain ⟨y, hy⟩ : ∃ y, lowN x = y := ⟨_, rfl⟩
    have hP : ∀ z ∈ P, hasN z = true := fun z hz => hl z (by rw [hPQ]; simp [hz])
    have hQ : ∀ z ∈ Q, hasN z = true := fun z hz => hl z (by rw [hPQ]; simp [hz])
    have hyy : lowN y = y := by rw [← hy]; exact low_low hxh
    have hyh : hasN y = true := by rw [← hy]; exact low_has hxh
    have hok2 : ∀ z ∈ P ++ y :: Q, okC z := by
      intro z hz
      rcases List.mem_append.1 hz with hz | hz
      · exact ok_of_has (hP z hz)
      · rcases List.mem_cons.1 hz with rfl | hz
        · exact ok_of_has hyh
        · exact ok_of_has (hQ z hz)
    obtain ⟨T, hT⟩ : ∃ T, encL (P ++ y :: Q) = T := ⟨_, rfl⟩
    have hsame : nFL T = nFL S := by rw [← hT, ← hSS, hPQ, ← hy]; exact nFL_low P Q hP hQ hxh
    obtain ⟨f, hf⟩ : ∃ f, nFold S = f := ⟨_, rfl⟩
    obtain ⟨s, hs⟩ : ∃ s, nSearch S = s := ⟨_, rfl⟩
    have hf2 : nFold T = f := by rw [← hf]; unfold nFold; rw [hsame]
    have hs2 : nSearch T = s := by rw [← hs]; unfold nSearch nSL; rw [hsame]
    have hll : (P ++ y :: Q).length = n := by have := hxl; rw [hPQ] at this; simpa using this
    have hSl : S.length ≤ 5000 := by rw [← hSS]; have := encL_len l; omega
    have hTl : T.length ≤ 5000 := by rw [← hT]; have := encL_len (P ++ y :: Q); omega
    have HEq : Hid (encR ((P ++ y :: Q).map fun d : Nat => (d : Int)) = some T) := Lib.hid (by rw [← hT]; exact encR_nats hok2)
    have Hll := Lib.hid hll
    have Hxl := Lib.hid hxl
    have HPQ := Lib.hid hPQ
    have HPl := Lib.hid hPl
    have HFo : Hid (∀ (W v : World) (u : List UInt8), Ready6 W → Below W.heap.size W v → (u = S ∨ u = T) → Calls Tryd.prog 11 #[.string (str u)] v fun e w' => e = .returned (.string (str f)) ∧ Below W.heap.size W w' ∧ Below v.heap.size v w') := Lib.hid (by
      intro W v u hW hv hu
      rcases hu with rfl | rfl
      · exact prFold_at W hW u f v hv hSl hf
      · exact prFold_at W hW u f v hv hTl hf2)
    have HSe : Hid (∀ (W v : World) (u : List UInt8), Ready6 W → Below W.heap.size W v → (u = S ∨ u = T) → Calls Tryd.prog 13 #[.string (str u)] v fun e w' => e = .returned (.string (str s)) ∧ Below W.heap.size W w' ∧ Below v.heap.size v w') := Lib.hid (by
      intro W v u hW hv hu
      rcases hu with rfl | rfl
      · exact prSearch_at W hW u s v hv hSl hs
      · exact prSearch_at W hW u s v hv hTl hs2)
    have HLx : Hid (∀ v, Calls Tryd.prog 17 #[.int .i64 (x : Int)] v fun e w' => e = .returned (.int .i64 (y : Int)) ∧ v = w') := Lib.hid fun v => by
      have h := prLower_s (x : Int) v
      rw [lowI_nat, hy] at h
      exact h
    have HLy : Hid (∀ v, Calls Tryd.prog 17 #[.int .i64 (y : Int)] v fun e w' => e = .returned (.int .i64 (y : Int)) ∧ v = w') := Lib.hid fun v => by
      have h := prLower_s (y : Int) v
      rw [lowI_nat, hyy] at h
      exact h
    have qf := same_str6 f
    have qs := same_str6 s
    have qy : ((y : Int) == (y : Int)) = true := by simp
    have HS := Lib.hid hS
    have HX := Lib.hid hx
    clear hr hxl hok hl hSS hK hx hPQ hPl hy hP hQ hyy hyh hok2 hT hsame hf hs hf2 hs2 hll hxh h0
    go_enter Tryd.func8, Tryd.ntmps8
    go_wp2_with fail
    refine (awake6_any _ hS).mono ?_
    rintro e w1 ⟨rfl, k1⟩
    have h1 := h.up k1
    go_wp2_with fail
    refine (encode_at w A n c _ w1 k1 h1 hn).mono ?_
    rintro e w2 ⟨he, k2, n2⟩
    rw [HE.out] at he
    obtain rfl := show e = _ from he
    have h4 : Arr nv w2 w.heap.size (.slice A n c) l := (h.nat).at_ k2
    obtain ⟨b1, o1, rfl, hB1, hc1⟩ := h4.some_ (by omega)
    have z0 : (K : Int) < (n : Int) := by omega
    have k2s := k2.size
    have h6 : Arr nv (w2.alloc (.cells #[] 3)) w.heap.size (.slice (some ⟨b1, o1, none⟩) n c) l := h4.below ((Below.refl _ _).alloc k2s _)
    have Hc1 := Lib.hid hc1
    have HDx : Hid (∀ v, Below w2.heap.size (w2.alloc (.cells #[] 3)) v → v.cell? ⟨b1, o1 + K, none⟩ = some (.int .i64 (x : Int))) := Lib.hid fun v hv => (hv.cell (p := ⟨b1, o1 + K, none⟩) (by show b1 < w2.heap.size; omega)).trans ((((Below.refl w2.heap.size w2).alloc (Nat.le_refl _) (.cells #[] 3)).cell (p := ⟨b1, o1 + K, none⟩) (by show b1 < w2.heap.size; omega)).trans (Hc1.out K x HX.out))
    clear h1 h h4 hc1
    go_wp2_with (at_builtin; refine append_all_open (w2.alloc (.cells #[] 3)) rfl (.tmp 35) (.tmp 36) rfl w2.heap.size w.heap.size (.slice (some ⟨w2.heap.size, 0, none⟩) 0 0) rfl (own_empty w2 3) l n Hxl.out (by omega) _ rfl h6 (by omega) (by simp) ?_; intro g cap cur w6 hBg hcur hcc hcm hcsz htake hb6; have HT0 := Lib.hid htake; have HCM := Lib.hid hcm; clear htake hcm; have dx := HDx.out w6 hb6; have f0 := hcur.free K; have HB6 := Lib.hid hb6; clear hb6)
    have dy := hcur.cell K
    rw [take_cell HT0.out HX.out] at dy
    simp only [nv] at dy
    refine (HLx.out _).mono ?_
    rintro e w7 ⟨rfl, rfl⟩
    have hbox := hcur.put K (nv y)
    have hown7 := own_M Hll.out hBg hbox hcc HCM.out (by simp [hcsz]) (put_take (y := y) (by rw [HT0.out, HPQ.out]) HPl.out)
    rw [Hll.out] at hown7
    have k6 : Below w.heap.size w w6 := (below_new k2 _).trans (HB6.out.mono k2s)
    have k7 : Below w.heap.size w (w6.setCell ⟨g, K, none⟩ (nv y)) := k6.setCell (p := ⟨g, K, none⟩) (by show w.heap.size ≤ g; omega) _
    have hA7 : Arr nv (w6.setCell ⟨g, K, none⟩ (nv y)) (w6.setCell ⟨g, K, none⟩ (nv y)).heap.size (.slice (some ⟨g, 0, none⟩) n cap) (P ++ y :: Q) := Arr.of_own (by rw [Hll.out]; exact hown7)
    have HE7 := Lib.hid (encode_at w _ n cap _ _ k7 hA7.int (by omega))
    have hdy := hbox.cell K
    have hgl := hbox.lt
    rw [Array.getElem?_setIfInBounds_self_of_lt (by omega)] at hdy
    have HDy := Lib.hid hdy
    simp only [nv] at HE7 HDy hgl
    clear hbox hown7 k6 k7 hA7 hdy
    go_wp2_with fail
    refine HE7.out.mono ?_
    rintro e w8 ⟨he8, k8, n8⟩
    rw [HEq.out] at he8
    obtain rfl := show e = _ from he8
    have d8 := (n8.cell (p := ⟨g, K, none⟩) hgl).trans HDy.out
    have hgl8 : g < w8.heap.size := Nat.lt_of_lt_of_le hgl n8.size
    have HS8 := Lib.hid (HS.out.below k8)
    go_wp2
    go_region_held3 (fun v => Below w8.heap.size w8 v ∧ v.cell? ⟨g, K, none⟩ = some (.int .i64 (y : Int))) (first | exact ⟨(Below.refl _ _).drew, d8⟩ | exact ⟨hbI, (hbI.cell (p := ⟨g, K, none⟩) hgl8).trans d8⟩)
      (first
        | (go_at_call 17; (with_reducible refine (HLy.out _).mono ?_); rintro e wL ⟨rfl, rfl⟩)
        | (go_at_call 11; (with_reducible refine (HFo.out w8 _ _ HS8.out ?_ ?_).mono ?_); go_must (first | exact hbI | exact (Below.refl _ _).drew); go_must (first | exact .inl rfl | exact .inr rfl); rintro e wI ⟨rfl, hbI, _⟩)
        | (go_at_call 13; (with_reducible refine (HSe.out w8 _ _ HS8.out ?_ ?_).mono ?_); go_must (first | exact hbI | exact (Below.refl _ _).drew); go_must (first | exact .inl rfl | exact .inr rfl); rintro e wI ⟨rfl, hbI, _⟩))
    all_goals
      go_wp2
      go_ret
      exact ⟨rfl, below_next k8 hbI⟩

end Go.Proofs.YtmoinfkjcfkokaaDoor
