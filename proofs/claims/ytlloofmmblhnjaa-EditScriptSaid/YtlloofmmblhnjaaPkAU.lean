/-
  What the reference's Subsequence wants of its table: a row of zeros first, a number written twice.
  The reference's Subsequence.
  The body of EditScript.
-/
import Derived.Test.YtlloofmmblhnjaaPkAD
import Derived.Test.YtlloofmmblhnjaaPkAE
import Derived.Test.YtlloofmmblhnjaaPkAP
import Derived.Test.YtlloofmmblhnjaaPkAR
import Derived.Lib.MinMax
import Derived.BigRegion
namespace Go.Proofs.Ytlloofmmblhnjaa
open Go.RowKit

theorem RowE.zeros (w : World) {f : Nat → Nat} {j0 m : Nat} (h : ∀ j, j0 ≤ j → j ≤ m → f j = 0) : RowE (w.alloc (.cells (madeOf (.int .i64 0) (m + 1)) 3)) w.heap.size f j0 m := by
  refine ⟨_, Box.made w _ _, madeOf_size _ _, fun j h1 h2 => ?_⟩
  rw [h j h1 h2]
  have hs := madeOf_size (.int .i64 0) (m + 1)
  rw [Array.getElem?_eq_getElem (by omega)]
  simp [madeOf, madeCells, Value.cells, nv, Nat.mod_one]
theorem RowE.less {w : World} {R : Nat} {f : Nat → Nat} {j0 j1 m : Nat} (h : RowE w R f j0 m) (hj : j0 ≤ j1) : RowE w R f j1 m := by
  obtain ⟨cs, h1, h2, h3⟩ := h
  exact ⟨cs, h1, h2, fun j e1 e2 => h3 j (by omega) e2⟩
theorem TabE.row0 {w : World} {B : Nat} {D : Nat → Nat → Nat} {i n m j0 : Nat} (h : TabE w B w.heap.size D (i + 1) n m) (hB : B < w.heap.size) (hi : i ≤ n) (hz : ∀ j, j0 ≤ j → j ≤ m → D i j = 0) :
    PartE ((w.setCell ⟨B, i, none⟩ (.slice (some ⟨w.heap.size, 0, none⟩) (m + 1) (m + 1))).alloc (.cells (madeOf (.int .i64 0) (m + 1)) 3)) B w.heap.size D i j0 n m := by
  obtain ⟨h1, h2, -⟩ := h.row2 hB hi
  refine ⟨h1, h2, ?_⟩
  have := RowE.zeros (w.setCell ⟨B, i, none⟩ (.slice (some ⟨w.heap.size, 0, none⟩) (m + 1) (m + 1))) hz
  rwa [World.size_setCell] at this
/-- A number that is not yet asked for. -/
theorem RowE.putAny {w : World} {R : Nat} {f : Nat → Nat} {j m : Nat} (h : RowE w R f (j + 1) m) (v : Value) : RowE (w.setCell ⟨R, j, none⟩ v) R f (j + 1) m := by
  obtain ⟨cs, hb, hs, hc⟩ := h
  refine ⟨_, hb.put j _, by simp [hs], fun k h1 h2 => ?_⟩
  rw [Array.getElem?_setIfInBounds_ne (by omega)]
  exact hc k h1 h2
theorem PartE.putAny {w : World} {B K : Nat} {D : Nat → Nat → Nat} {i j n m : Nat} (h : PartE w B K D i (j + 1) n m) (hB : B < K) (v : Value) : PartE (w.setCell ⟨K, j, none⟩ v) B K D i (j + 1) n m := by
  obtain ⟨h1, h2, h3⟩ := h
  have hk : ∀ k, k ≠ K → (w.setCell ⟨K, j, none⟩ v).heap[k]? = w.heap[k]? := fun k e => Below.heap_setCell w _ _ k e
  refine ⟨h1.mono hB (fun k _ e2 => hk k (by omega)) (Nat.le_refl _), ?_, h3.putAny v⟩
  unfold World.cell? at h2 ⊢
  rw [show (⟨B, i, none⟩ : Addr).block = B from rfl] at h2 ⊢
  rw [hk B (by omega)]
  exact h2
theorem max2_E {P : Program} (w : World) (ts : Array TypeId) (t : TypeId) (x y N : Nat) (h : max x y = N) :
    (Builtin.max_ ts t #[.int .i64 (x : Int), .int .i64 (y : Int)]).run P w = .ok (.int .i64 (N : Int)) w := by
  subst h
  rw [run_max_int2]
  congr 2
  split <;> omega

end Go.Proofs.Ytlloofmmblhnjaa

namespace Go.Proofs.Ytlloofmmblhnjaa
open Go.RowKit

set_option maxRecDepth 20000 in
set_option maxHeartbeats 12800000 in
theorem refSubsequence11_any (A A' : Option Addr) (n c m c' : Nat) (a b : List Int) (w : World) (h : Arr iv w w.heap.size (.slice A n c) a) (h' : Arr iv w w.heap.size (.slice A' m c') b) (hn : n ≤ 100000) (hm : m ≤ 100000) :
    Calls Try.prog 27 #[.slice A n c, .slice A' m c'] w fun e w' => ∃ A n c, e = .returned (.slice A n c) ∧ Arr iv w' w'.heap.size (.slice A n c) (subD a b) ∧ Below w.heap.size w w' := by
  have hmk1 : ∀ W, (Instr.makeSlice 59 (.int .i64 ((n : Int) + 1)) (.int .i64 ((n : Int) + 1))).run Try.prog W = .ok (.slice (some ⟨W.heap.size, 0, none⟩) (n + 1) (n + 1)) (W.alloc (.cells (madeOf (.slice none 0 0) (n + 1)) 22)) := fun W => by
    have := make_rows (n + 1) (n + 1) (Nat.le_refl _) (by omega) W
    rwa [show ((n + 1 : Nat) : Int) = (n : Int) + 1 by omega] at this
  have hmk2 : ∀ W, (Instr.makeSlice 22 (.int .i64 ((m : Int) + 1)) (.int .i64 ((m : Int) + 1))).run Try.prog W = .ok (.slice (some ⟨W.heap.size, 0, none⟩) (m + 1) (m + 1)) (W.alloc (.cells (madeOf (.int .i64 0) (m + 1)) 3)) := fun W => by
    have := make_ints (m + 1) (m + 1) (Nat.le_refl _) (by omega) W
    rwa [show ((m + 1 : Nat) : Int) = (m : Int) + 1 by omega] at this
  have HL := Lib.hid h.len
  have HM := Lib.hid h'.len
  have HA := Lib.hid h
  have HB := Lib.hid h'
  obtain ⟨D, hD⟩ : ∃ D, mostE a b = D := ⟨_, rfl⟩
  have HD := Lib.hid hD
  clear h h' hD
  go_enter Try.func27, Try.ntmps27
  go_wp2
  go_loopw [6, 7] (fun i j wr => ∃ k : Nat, k ≤ n + 1 ∧ i = .int .i64 ((k : Int) - 1) ∧ Hid (TabE wr w.heap.size wr.heap.size D k n m) ∧ w.heap.size < wr.heap.size ∧ Below w.heap.size w wr) (fun i _ _ => (intOf i + 1).toNat)
  case atStart =>
    refine ⟨n + 1, Nat.le_refl _, by go_num, Lib.hid ?_, by simp, (Below.refl _ _).alloc (Nat.le_refl _) _⟩
    exact TabE.made w _ D n m
  case round =>
    obtain ⟨k, hk, rfl, HT, hB, hbel⟩ := hrel
    cases k with
    | zero =>
      obtain ⟨wo, rfl⟩ : ∃ wo : World, wo = wr := ⟨_, rfl⟩
      obtain ⟨z, hz⟩ : ∃ z : Int, ((0 : Nat) : Int) - 1 = z := ⟨_, rfl⟩
      rw [hz]
      have i1 : decide ((0 : Int) ≤ z) = false := decide_eq_false (by omega)
      clear hz
      go_wp2
      go_loopw [8, 9, 10] (fun v iv_ jv wr => ∃ (i j : Nat) (O : List Int), i ≤ n ∧ j ≤ m ∧ O.length ≤ i ∧ iv_ = .int .i64 (i : Int) ∧ jv = .int .i64 (j : Int) ∧ Hid (subD a b = O ++ subD (a.drop i) (b.drop j)) ∧ wr.ownsRow wo.heap.size 3 1 v O.length (O.map iv) ∧ Below wo.heap.size wo wr) (fun _ iv_ jv _ => (n - (intOf iv_).toNat) + (m - (intOf jv).toNat))
      case atStart => exact ⟨0, 0, [], by omega, by omega, by simp, rfl, rfl, Lib.hid rfl, World.ownsRow_nil _ _ _ _, Below.refl _ _⟩
      case round =>
        obtain ⟨i, j, O, hi, hj, hOl, rfl, rfl, HO, hown, hb2⟩ := hrel
        by_cases hin : i < n
        · by_cases hjm : j < m
          · have iz0 : (i : Int) < (n : Int) := by omega
            have jz0 : (j : Int) < (m : Int) := by omega
            have t1 : decide ((i : Int) < (n : Int)) = true := decide_eq_true iz0
            have t1n : decide (i < n) = true := decide_eq_true hin
            have t2 : decide ((j : Int) < (m : Int)) = true := decide_eq_true jz0
            have t2n : decide (j < m) = true := decide_eq_true hjm
            obtain ⟨x, hx⟩ : ∃ x, a[i]? = some x := ⟨_, List.getElem?_eq_getElem (by have := HL.out; omega)⟩
            obtain ⟨y, hy⟩ : ∃ y, b[j]? = some y := ⟨_, List.getElem?_eq_getElem (by have := HM.out; omega)⟩
            obtain ⟨b0, o0, rfl, hB0, hc0⟩ := HA.out.some_ (by omega)
            obtain ⟨b1, o1, rfl, hB1, hc1⟩ := HB.out.some_ (by omega)
            have d0 : wr.cell? ⟨b0, o0 + i, none⟩ = some (.int .i64 x) := (hb2.cell (p := ⟨b0, o0 + i, none⟩) (show b0 < wo.heap.size by omega)).trans ((hbel.cell (p := ⟨b0, o0 + i, none⟩) hB0).trans (hc0 i x hx))
            have d1 : wr.cell? ⟨b1, o1 + j, none⟩ = some (.int .i64 y) := (hb2.cell (p := ⟨b1, o1 + j, none⟩) (show b1 < wo.heap.size by omega)).trans ((hbel.cell (p := ⟨b1, o1 + j, none⟩) hB1).trans (hc1 j y hy))
            have hbs := hb2.size
            by_cases hxy : x = y
            · have t3 : (x == y) = true := eqE hxy
              have HO2 : Hid (subD a b = (O ++ [x]) ++ subD (a.drop (i + 1)) (b.drop (j + 1))) := Lib.hid (by
                rw [HO.out, sub_take hx (hxy ▸ hy), List.append_assoc]
                rfl)
              clear hx hy hc0 hc1 hxy HO
              go_wp2_with fail
              go_region
              all_goals
                have hownD : (wr.drew).ownsRow wo.heap.size 3 1 u8 O.length (O.map iv) := hown
                have hbD : Below wo.heap.size wo (wr.drew) := hb2.drew
                have hbsD := hbD.size
                have dD : (wr.drew).cell? ⟨b0, o0 + i, none⟩ = some (.int .i64 x) := d0
                clear d0 d1 hown
                generalize wr.drew = W at hownD hbD hbsD dD ⊢
                go_wp2_with (at_builtin; refine append_one (val := iv) 22 3 (.int .i64 0) 8 Try.underlying22 info_int rfl (by decide) one_ivE W rfl (.tmp 111) (.tmp 116) rfl wo.heap.size u8 O rfl hownD x (.int .i64 x) rfl rfl (by omega) hbsD ?_; intro v2 w2 hown2 hb3)
                go_wp2_with fail
                go_roundw
                case rel => exact ⟨i + 1, j + 1, O ++ [x], by omega, by omega, by rw [List.length_append, List.length_singleton]; omega, by go_num, by go_num, HO2, hown2, hbD.trans hb3⟩
                case measure => first | (simp [intOf]; done) | (simp [intOf]; omega)
            · have t3 : (x == y) = false := neE hxy
              obtain ⟨q, hq⟩ : ∃ k, i + 1 = k := ⟨_, rfl⟩
              obtain ⟨r, hr⟩ : ∃ k, j + 1 = k := ⟨_, rfl⟩
              have eq1 : (i : Int) + 1 = (q : Int) := by omega
              have er1 : (j : Int) + 1 = (r : Int) := by omega
              have wq1 : IntKind.i64.wrap (q : Int) = (q : Int) := wraps_i64 _ (by omega) (by omega)
              have wr1 : IntKind.i64.wrap (r : Int) = (r : Int) := wraps_i64 _ (by omega) (by omega)
              have zq1 : (q : Int) < (n : Int) + 1 := by omega
              have zr1 : (r : Int) < (m : Int) + 1 := by omega
              have iz1 : (i : Int) < (n : Int) + 1 := by omega
              have jz1 : (j : Int) < (m : Int) + 1 := by omega
              obtain ⟨R0, e0, hR01, hR02, hR0⟩ := HT.out.get (i := i) (Nat.zero_le _) hi
              obtain ⟨R1, e1, hR11, hR12, hR1⟩ := HT.out.get (i := i + 1) (Nat.zero_le _) (by omega)
              have d2 : wr.cell? ⟨w.heap.size, i, none⟩ = some (.slice (some ⟨R0, 0, none⟩) (m + 1) (m + 1)) := (hb2.cell (p := ⟨w.heap.size, i, none⟩) hB).trans e0
              have d3 : wr.cell? ⟨w.heap.size, i + 1, none⟩ = some (.slice (some ⟨R1, 0, none⟩) (m + 1) (m + 1)) := (hb2.cell (p := ⟨w.heap.size, i + 1, none⟩) hB).trans e1
              have d4 : wr.cell? ⟨R1, j, none⟩ = some (.int .i64 (D (i + 1) j : Int)) := (hb2.cell (p := ⟨R1, j, none⟩) hR12).trans (hR1 j hj)
              have d5 : wr.cell? ⟨R0, j + 1, none⟩ = some (.int .i64 (D i (j + 1) : Int)) := (hb2.cell (p := ⟨R0, j + 1, none⟩) hR02).trans (hR0 (j + 1) (by omega))
              obtain ⟨X, hX⟩ : ∃ X, D (i + 1) j = X := ⟨_, rfl⟩
              obtain ⟨Y, hY⟩ : ∃ X, D i (j + 1) = X := ⟨_, rfl⟩
              rw [hX] at d4
              rw [hY] at d5
              rw [hq] at d3
              rw [hr] at d5
              by_cases hg : Y ≤ X
              · have t4 : decide ((Y : Int) ≤ (X : Int)) = true := decide_eq_true (by omega)
                have t4n : decide (Y ≤ X) = true := decide_eq_true hg
                have HO2 : Hid (subD a b = O ++ subD (a.drop q) (b.drop j)) := Lib.hid (by
                  rw [HO.out, sub_left hx hy hxy (by rw [HD.out, hX, hY]; exact hg), hq])
                have HQ : Hid (i + 1 = q) := Lib.hid hq
                clear hx hy hc0 hc1 hxy HO hg hX hY hR0 hR1 e0 e1 hq hr
                go_wp2_with fail
                go_region
                all_goals
                  go_wp2_with fail
                  go_region
                  all_goals
                    go_wp2_with fail
                    go_roundw
                    case rel => exact ⟨q, j, O, by have := HQ.out; omega, by omega, by have := HQ.out; omega, by go_num, rfl, HO2, hown, hb2.drew.drew⟩
                    case measure => have := HQ.out; first | (simp [intOf]; done) | (simp [intOf]; omega)
              · have t4 : decide ((Y : Int) ≤ (X : Int)) = false := decide_eq_false (by omega)
                have t4n : decide (Y ≤ X) = false := decide_eq_false hg
                have HO2 : Hid (subD a b = O ++ subD (a.drop i) (b.drop r)) := Lib.hid (by
                  rw [HO.out, sub_right hx hy hxy (by rw [HD.out, hX, hY]; exact hg), hr])
                have HQ : Hid (j + 1 = r) := Lib.hid hr
                clear hx hy hc0 hc1 hxy HO hg hX hY hR0 hR1 e0 e1 hq hr
                go_wp2_with fail
                go_region
                all_goals
                  go_wp2_with fail
                  go_region
                  all_goals
                    go_wp2_with fail
                    go_roundw
                    case rel => exact ⟨i, r, O, by omega, by have := HQ.out; omega, by omega, rfl, by go_num, HO2, hown, hb2.drew.drew⟩
                    case measure => have := HQ.out; first | (simp [intOf]; done) | (simp [intOf]; omega)
          · have t1 : decide ((i : Int) < (n : Int)) = true := decide_eq_true (by omega)
            have t1n : decide (i < n) = true := decide_eq_true hin
            have t2 : decide ((j : Int) < (m : Int)) = false := decide_eq_false (by omega)
            have t2n : decide (j < m) = false := decide_eq_false hjm
            have hsub : subD a b = O := by
              rw [HO.out, show b.drop j = [] from List.drop_eq_nil_of_le (by have := HM.out; omega), sub_end, List.append_nil]
            have hArr := Arr.of_own hown
            rw [← hsub] at hArr
            have HAr := Lib.hid hArr
            have HSu := Lib.hid hsub
            clear hsub hArr hown
            go_wp2
            go_ret
            obtain ⟨A2, c2, rfl⟩ := HAr.out.form
            exact ⟨A2, _, c2, rfl, HAr.out, hbel.trans (hb2.mono (Nat.le_of_lt hB))⟩
        · have t1 : decide ((i : Int) < (n : Int)) = false := decide_eq_false (by omega)
          have t1n : decide (i < n) = false := decide_eq_false hin
          have hsub : subD a b = O := by
            rw [HO.out, show a.drop i = [] from List.drop_eq_nil_of_le (by have := HL.out; omega), sub_nil, List.append_nil]
          have hArr := Arr.of_own hown
          rw [← hsub] at hArr
          have HAr := Lib.hid hArr
          have HSu := Lib.hid hsub
          clear hsub hArr hown
          go_wp2
          go_ret
          obtain ⟨A2, c2, rfl⟩ := HAr.out.form
          exact ⟨A2, _, c2, rfl, HAr.out, hbel.trans (hb2.mono (Nat.le_of_lt hB))⟩
    | succ q =>
      obtain ⟨wo, rfl⟩ : ∃ wo : World, wo = wr := ⟨_, rfl⟩
      obtain ⟨i0, hi0⟩ : ∃ i0 : Int, ((q + 1 : Nat) : Int) - 1 = i0 := ⟨_, rfl⟩
      have hq0 : i0 = (q : Int) := by omega
      subst hq0
      rw [hi0]
      have hqn : q ≤ n := by omega
      have i1 : (0 : Int) ≤ (q : Int) := by omega
      have z0 : (q : Int) < (n : Int) + 1 := by omega
      have HP0 : Hid (PartE ((wo.setCell ⟨w.heap.size, q, none⟩ (.slice (some ⟨wo.heap.size, 0, none⟩) (m + 1) (m + 1))).alloc (.cells (madeOf (.int .i64 0) (m + 1)) 3)) w.heap.size wo.heap.size D q (if q = n then 0 else m) n m) := Lib.hid (HT.out.row0 hB hqn (fun j h1 h2 => by
        rw [← HD.out]
        split at h1
        · rename_i e
          have := most_end1 a b j
          rwa [HL.out, ← e] at this
        · have := most_end2 a b q
          rw [HM.out] at this
          rwa [show j = m by omega]))
      have hcell : ∃ v, (wo.alloc (.cells (madeOf (.int .i64 0) (m + 1)) 3)).cell? ⟨w.heap.size, q, none⟩ = some v ∧ (wo.alloc (.cells (madeOf (.int .i64 0) (m + 1)) 3)).frozen? ⟨w.heap.size, q, none⟩ = false := by
        obtain ⟨cs, h1, h2, _⟩ := HT.out
        have h3 := h1.alloc (.cells (madeOf (.int .i64 0) (m + 1)) 3)
        refine ⟨cs[q]'(by omega), ?_, h3.free q⟩
        rw [h3.cell q]
        exact Array.getElem?_eq_getElem (by omega)
      obtain ⟨v0, d0, f0⟩ := hcell
      clear hi0
      go_wp2
      clear d0 f0
      go_loopw [7] (fun j wr => ∃ l : Nat, l ≤ m ∧ j = .int .i64 ((l : Int) - 1) ∧ Hid (PartE wr w.heap.size wo.heap.size D q (if q = n then 0 else l) n m) ∧ wo.heap.size < wr.heap.size ∧ Below w.heap.size w wr) (fun j _ => (intOf j + 1).toNat)
      case atStart => exact ⟨m, Nat.le_refl _, by go_num, HP0, by simp, (hbel.setCell (Nat.le_refl _) _).alloc (by rw [World.size_setCell]; exact hbel.size) _⟩
      case round =>
        obtain ⟨l, hl, rfl, HP, hK, hbel2⟩ := hrel
        by_cases hend : l = 0 ∨ q = n
        · have HP1 : Hid (PartE wr w.heap.size wo.heap.size D q 0 n m) := Lib.hid (by
            have e := HP.out
            rcases hend with e1 | e1
            · rw [e1] at e
              simpa using e
            · rwa [if_pos e1] at e)
          cases l with
          | zero =>
            clear hend HP
            go_wp2_with fail
            go_roundw
            case rel => exact ⟨q, by omega, by go_num, Lib.hid ((HP1.out.done hB).mono (Nat.lt_succ_of_lt hB) (fun _ _ _ => rfl) hK), Nat.lt_trans hB hK, hbel2⟩
            case measure => first | (simp [intOf]; done) | (simp [intOf]; omega)
          | succ l =>
            have hqn' : q = n := by omega
            have t1 : decide ((q : Int) < (n : Int)) = false := decide_eq_false (by omega)
            have t1n : decide (q < n) = false := decide_eq_false (by omega)
            obtain ⟨i0, hi0⟩ : ∃ i0 : Int, ((l + 1 : Nat) : Int) - 1 = i0 := ⟨_, rfl⟩
            have hq0 : i0 = (l : Int) := by omega
            subst hq0
            rw [hi0]
            have j1 : (0 : Int) ≤ (l : Int) := by omega
            clear hend HP hi0 hqn'
            go_wp2_with fail
            go_roundw
            case rel => exact ⟨q, by omega, by go_num, Lib.hid ((HP1.out.done hB).mono (Nat.lt_succ_of_lt hB) (fun _ _ _ => rfl) hK), Nat.lt_trans hB hK, hbel2⟩
            case measure => first | (simp [intOf]; done) | (simp [intOf]; omega)
        · obtain ⟨l, rfl⟩ : ∃ k, l = k + 1 := ⟨l - 1, by omega⟩
          have hqn' : ¬ q = n := fun e => hend (.inr e)
          have HP1 : Hid (PartE wr w.heap.size wo.heap.size D q (l + 1) n m) := Lib.hid (by
            have e := HP.out
            rwa [if_neg hqn'] at e)
          have hq1' : q < n := by omega
          obtain ⟨i0, hi0⟩ : ∃ i0 : Int, ((l + 1 : Nat) : Int) - 1 = i0 := ⟨_, rfl⟩
          have hq0 : i0 = (l : Int) := by omega
          subst hq0
          rw [hi0]
          have hlm : l ≤ m := by omega
          have j1 : (0 : Int) ≤ (l : Int) := by omega
          have t1 : decide ((q : Int) < (n : Int)) = true := decide_eq_true (by omega)
          have t1n : decide (q < n) = true := decide_eq_true (by omega)
          have zq : (q : Int) < (n : Int) := by omega
          have zl : (l : Int) < (m : Int) := by omega
          have z1 : (l : Int) < (m : Int) + 1 := by omega
          obtain ⟨x, hx⟩ : ∃ x, a[q]? = some x := ⟨_, List.getElem?_eq_getElem (by have := HL.out; omega)⟩
          obtain ⟨y, hy⟩ : ∃ y, b[l]? = some y := ⟨_, List.getElem?_eq_getElem (by have := HM.out; omega)⟩
          obtain ⟨b0, o0, rfl, hB0, hc0⟩ := HA.out.some_ (by omega)
          obtain ⟨b1, o1, rfl, hB1, hc1⟩ := HB.out.some_ (by omega)
          obtain ⟨q1, hq1⟩ : ∃ k, q + 1 = k := ⟨_, rfl⟩
          obtain ⟨l1, hl1⟩ : ∃ k, l + 1 = k := ⟨_, rfl⟩
          have eq1 : (q : Int) + 1 = (q1 : Int) := by omega
          have el1 : (l : Int) + 1 = (l1 : Int) := by omega
          have wq1 : IntKind.i64.wrap (q1 : Int) = (q1 : Int) := wraps_i64 _ (by omega) (by omega)
          have wl1 : IntKind.i64.wrap (l1 : Int) = (l1 : Int) := wraps_i64 _ (by omega) (by omega)
          have zq1 : (q1 : Int) < (n : Int) + 1 := by omega
          have zl1 : (l1 : Int) < (m : Int) + 1 := by omega
          obtain ⟨R, d5, hR1, hR2, hR3⟩ := HP1.out.1.get (i := q + 1) (Nat.le_refl _) (by omega)
          have d6 := hR3 (l + 1) (by omega)
          have d7 := hR3 l hlm
          have d8 := HP1.out.get.2 (l + 1) (Nat.le_refl _) (by omega)
          have d2 := HP1.out.2.1
          obtain ⟨⟨v1, d1⟩, f1⟩ := HP1.out.2.2.has hlm
          obtain ⟨T, hT⟩ : ∃ T, D q l = T := ⟨_, rfl⟩
          obtain ⟨T1, hT1⟩ : ∃ T, D (q + 1) (l + 1) = T := ⟨_, rfl⟩
          obtain ⟨T2, hT2⟩ : ∃ T, D (q + 1) l = T := ⟨_, rfl⟩
          obtain ⟨T3, hT3⟩ : ∃ T, D q (l + 1) = T := ⟨_, rfl⟩
          have hsm : T1 ≤ 100000 := by
            have h1 := most_small a b (q + 1) (l + 1)
            rw [HL.out, HD.out, hT1] at h1
            omega
          have hsame : x = y → T = 1 + T1 := fun e => by rw [← hT, ← hT1, ← HD.out]; exact most_same hx (e ▸ hy)
          have hother : x ≠ y → T = max T2 T3 := fun e => by rw [← hT, ← hT2, ← hT3, ← HD.out]; exact most_other hx hy e
          rw [hT1] at d6
          rw [hT2] at d7
          rw [hT3] at d8
          rw [hq1] at d5
          rw [hl1] at d6 d8
          obtain ⟨M, hM⟩ : ∃ N, max T2 T3 = N := ⟨_, rfl⟩
          have hMz : max (T2 : Int) (T3 : Int) = (M : Int) := by omega
          have HP2 := HP1.out.putAny hB (.int .i64 (M : Int))
          have HPm : Hid (T = M → PartE (wr.setCell ⟨wo.heap.size, l, none⟩ (.int .i64 (M : Int))) w.heap.size wo.heap.size D q l n m) := Lib.hid (fun e => by
            have := HP1.out.put hB hlm
            rwa [hT, e] at this)
          have hb3 : Below w.heap.size w (wr.setCell ⟨wo.heap.size, l, none⟩ (.int .i64 (M : Int))) := hbel2.setCell (show w.heap.size ≤ (⟨wo.heap.size, l, none⟩ : Addr).block from Nat.le_of_lt hB) _
          clear hi0 hR3
          go_wp2_with fail
          go_region
          all_goals
            go_wp2_with fail
            have hP2 : PartE (wr.setCell ⟨wo.heap.size, l, none⟩ (.int .i64 (M : Int))).drew w.heap.size wo.heap.size D q (l + 1) n m := HP2
            have hPm2 : T = M → PartE (wr.setCell ⟨wo.heap.size, l, none⟩ (.int .i64 (M : Int))).drew w.heap.size wo.heap.size D q l n m := HPm.out
            have hb4 : Below w.heap.size w (wr.setCell ⟨wo.heap.size, l, none⟩ (.int .i64 (M : Int))).drew := hb3.drew
            have hK4 : wo.heap.size < (wr.setCell ⟨wo.heap.size, l, none⟩ (.int .i64 (M : Int))).drew.heap.size := by simpa using hK
            generalize (wr.setCell ⟨wo.heap.size, l, none⟩ (.int .i64 (M : Int))).drew = W at hP2 hPm2 hb4 hK4 ⊢
            clear d1 d2 d5 d6 d7 d8 f1 hR1 hR2 HP1 HP HP2 HPm hb3 hbel2 hK hMz
            have d3 : W.cell? ⟨b0, o0 + q, none⟩ = some (.int .i64 x) := (hb4.cell (p := ⟨b0, o0 + q, none⟩) hB0).trans (hc0 q x hx)
            have d4 : W.cell? ⟨b1, o1 + l, none⟩ = some (.int .i64 y) := (hb4.cell (p := ⟨b1, o1 + l, none⟩) hB1).trans (hc1 l y hy)
            by_cases hxy : x = y
            · have t3 : (x == y) = true := eqE hxy
              obtain ⟨R, d5, hR1, hR2, hR3⟩ := hP2.1.get (i := q + 1) (Nat.le_refl _) (by omega)
              have d6 := hR3 (l + 1) (by omega)
              have d2 := hP2.2.1
              obtain ⟨⟨v1, d1⟩, f1⟩ := hP2.2.2.has hlm
              rw [hT1] at d6
              rw [hq1] at d5
              rw [hl1] at d6
              have eT : (1 : Int) + (T1 : Int) = (T : Int) := by have := hsame hxy; omega
              have wT : IntKind.i64.wrap (T : Int) = (T : Int) := wraps_i64 _ (by have := hsame hxy; omega) (by have := hsame hxy; omega)
              have hput := hP2.put hB hlm
              rw [hT] at hput
              have HPut := Lib.hid hput
              clear hput hxy hx hy hc0 hc1 hR3 hT hT1 hT2 hT3 hM hq1 hl1 hend hq1' hsame hother hPm2
              go_wp2_with fail
              go_region
              all_goals
                go_wp2_with fail
                go_region
                all_goals
                  go_wp2_with fail
                  go_roundw
                  case rel => exact ⟨l, by omega, by go_num, Lib.hid (by rw [if_neg hqn']; exact HPut.out.mono hB fun _ _ _ => rfl), by simpa using hK4, (hb4.setCell (show w.heap.size ≤ (⟨wo.heap.size, l, none⟩ : Addr).block from Nat.le_of_lt hB) _).drew.drew⟩
                  case measure => first | (simp [intOf]; done) | (simp [intOf]; omega)
            · have t3 : (x == y) = false := neE hxy
              have HPut := Lib.hid (hPm2 (by rw [hother hxy, hM]))
              clear hxy hx hy hc0 hc1 hT hT1 hT2 hT3 hM hq1 hl1 hend hq1' hsame hother hPm2
              go_wp2_with fail
              go_region
              all_goals
                go_wp2_with fail
                go_roundw
                case rel => exact ⟨l, by omega, by go_num, Lib.hid (by rw [if_neg hqn']; exact HPut.out), by simpa using hK4, hb4.drew⟩
                case measure => first | (simp [intOf]; done) | (simp [intOf]; omega)

end Go.Proofs.Ytlloofmmblhnjaa

namespace Go.Proofs.Ytlloofmmblhnjaa
open Go.RowKit

set_option maxRecDepth 20000 in
set_option maxHeartbeats 3200000 in
theorem editScript_v (A A2 : Option Addr) (n c m c2 : Nat) (a b : List Int) (w : World) (h : Arr iv w w.heap.size (.slice A n c) a) (h2 : Arr iv w w.heap.size (.slice A2 m c2) b) :
    Calls Try.prog 5 #[.slice A n c, .slice A2 m c2] w fun e w' => e = .returned (.bool true) ∧ Below w.heap.size w w' := by
  have HAw := Lib.hid (awake11_any w)
  have HF := Lib.hid (fun W => few_of A A2 n c m c2 W)
  have HA := Lib.hid h
  have HB := Lib.hid h2
  clear h h2
  by_cases hs : n ≤ 60 ∧ m ≤ 60
  · obtain ⟨hn, hm⟩ := hs
    rw [decide_eq_true hn, decide_eq_true hm] at HF
    have L1 := HA.out.len
    have L2 := HB.out.len
    have hsl : (scrD a b).length ≤ 200 := by have := scr_len a b; omega
    have hul : (subD a b).length ≤ 200 := by have := (sub_facts a b).1.length_le; omega
    have H1 := Lib.hid (fun W hA hB => prScript_any A A2 n c m c2 a b W hA hB (by omega) (by omega))
    have H2 := Lib.hid (fun O q d W hA (hq : q ≤ 1000) => theirs_any O q d (scrD a b) W hA (by omega))
    have H3 := Lib.hid (fun W hA hB => refScript11_any A A2 n c m c2 a b W hA hB (by omega) (by omega))
    have H4 := Lib.hid (fun O q d O' q' d' W hA hB (h1 : q ≤ 1000) (h2 : q' ≤ 1000) => refSameOps11_any O O' q d q' d' (scrD a b) (scrD a b) W hA hB (by omega) (by omega))
    rw [decide_eq_true rfl] at H4
    have H5 := Lib.hid (fun W hA hB => prSubsequence_any A A2 n c m c2 a b W hA hB (by omega) (by omega))
    have H6 := Lib.hid (fun W hA hB => refSubsequence11_any A A2 n c m c2 a b W hA hB (by omega) (by omega))
    have H7 := Lib.hid (fun R r g R' r' g' W hA hB (h1 : r ≤ 1000) (h2 : r' ≤ 1000) => sameInts_any R R' r g r' g' (subD a b) (subD a b) W hA hB (by omega) (by omega))
    rw [decide_eq_true rfl] at H7
    obtain ⟨S, hS⟩ : ∃ S, scrD a b = S := ⟨_, rfl⟩
    obtain ⟨U, hU⟩ : ∃ S, subD a b = S := ⟨_, rfl⟩
    rw [hS] at H1 H2 H3 H4 hsl
    rw [hU] at H5 H6 H7 hul
    have HS := Lib.hid hsl
    have HU := Lib.hid hul
    clear hn hm hsl hul hS hU L1 L2
    go_enter Try.func5, Try.ntmps5
    go_wp2_with fail
    refine HAw.out.mono ?_
    rintro e w1 ⟨rfl, k1⟩
    have b1 := k1
    go_wp2_with fail
    refine (HF.out _).mono ?_
    rintro e _ ⟨rfl, rfl⟩
    go_wp2_with fail
    refine (H1.out _ (HA.out.up b1) (HB.out.up b1)).mono ?_
    rintro e w2 ⟨O2, q2, d2, rfl, hO2, k2⟩
    have b2 := below_next b1 k2
    have HO2 := Lib.hid hO2
    clear hO2
    go_wp2_with fail
    refine (H2.out _ _ _ _ HO2.out (by have := HO2.out.len; have := HS.out; omega)).mono ?_
    rintro e w3 ⟨O3, d3, rfl, hO3, k3⟩
    have b3 := below_next b2 k3
    have HO3 := Lib.hid hO3
    clear hO3
    go_wp2_with fail
    refine (H3.out _ (HA.out.up b3) (HB.out.up b3)).mono ?_
    rintro e w4 ⟨O4, q4, d4, rfl, hO4, k4⟩
    have b4 := below_next b3 k4
    have HO4 := Lib.hid hO4
    clear hO4
    go_wp2_with fail
    refine (H4.out _ _ _ _ _ _ _ (HO3.out.up k4) HO4.out (by have := HO3.out.len; have := HS.out; omega) (by have := HO4.out.len; have := HS.out; omega)).mono ?_
    rintro e w5 ⟨rfl, k5⟩
    have b5 := below_next b4 k5
    go_wp2_with fail
    refine (H5.out _ (HA.out.up b5) (HB.out.up b5)).mono ?_
    rintro e w6 ⟨R6, r6, g6, rfl, hR6, k6⟩
    have b6 := below_next b5 k6
    have HR6 := Lib.hid hR6
    clear hR6
    go_wp2_with fail
    refine (H6.out _ (HA.out.up b6) (HB.out.up b6)).mono ?_
    rintro e w7 ⟨R7, r7, g7, rfl, hR7, k7⟩
    have b7 := below_next b6 k7
    have HR7 := Lib.hid hR7
    clear hR7
    go_wp2_with fail
    refine (H7.out _ _ _ _ _ _ _ (HR6.out.up k7) HR7.out (by have := HR6.out.len; have := HU.out; omega) (by have := HR7.out.len; have := HU.out; omega)).mono ?_
    rintro e w8 ⟨rfl, k8⟩
    have b8 := below_next b7 k8
    go_wp2
    go_ret
    exact ⟨rfl, b8⟩
  · have hf : (decide (n ≤ 60) && decide (m ≤ 60)) = false := by simp; omega
    rw [hf] at HF
    clear hs hf
    go_enter Try.func5, Try.ntmps5
    go_wp2_with fail
    refine HAw.out.mono ?_
    rintro e w1 ⟨rfl, k1⟩
    go_wp2_with fail
    refine (HF.out _).mono ?_
    rintro e _ ⟨rfl, rfl⟩
    go_wp2
    go_ret
    exact ⟨rfl, k1⟩

end Go.Proofs.Ytlloofmmblhnjaa
