/-
  The program's product.
-/
import Derived.Test.YtheadamdhjhnpaaDoorAdd
import Derived.Test.YtheadamdhjhnpaaDoorTrim
import Derived.Deep.RegionHeld3
import Derived.Deep.RegionLaw
namespace Go.Proofs.YtheadamdhjhnpaaDoor
open Go.RowKit

theorem row_call (g i n n' c' : Nat) (A' : Option Addr) (l m pre D post : List Nat) (a : Nat) (w : World) (hb : Box w g 3 (cellsOf (pre ++ (D ++ post)))) (hoff : pre.length = i) (hn : D.length = n' + 1)
    (hm : Arr nv w g (.slice A' n' c') m) (hl : Dig l) (hmd : Dig m) (hD : Dig D) (hDv : vl D < pw m.length) (ha : l[i]? = some a) (hout : Out l m (pre ++ (D ++ post)) i) (hi : i ≤ 100000) (hn' : n' ≤ 99000) (hnc : n' + 1 ≤ n) :
    Calls Tryd.prog 49 #[.slice (some ⟨g, i, none⟩) (i + n' + 1 - i) n, .slice A' n' c', .int .i64 (a : Int)] w fun e w' =>
      ∃ (u : Value) (os : List Nat), e = .returned u ∧ Out l m os (i + 1) ∧ Box w' g 3 (cellsOf os) ∧ w.grownBy w' (some g) := by
  have hal := hl.at_ ha

  have e2 : i + n' + 1 - i = n' + 1 := by omega
  rw [e2]
  have hml := hm.len
  refine (addMul_any g i (n' + 1) n A' n' c' pre D post m a w hb hoff hn hD hm hmd (by omega) (by omega) (by omega) hi hnc).mono ?_
  rintro e w' ⟨cy, ds, rfl, hE, hB, hG⟩
  exact ⟨_, _, rfl, hout.next hoff (by rw [hn, hml]) hDv ha hl hmd hE, hB, hG⟩

set_option maxHeartbeats 1600000 in
theorem product_any (A A' : Option Addr) (n n' c c' : Nat) (l m : List Nat) (w : World) (h : Arr nv w w.heap.size (.slice A n c) l) (h' : Arr nv w w.heap.size (.slice A' n' c') m) (hl : Dig l) (hm : Dig m) (hlen : n ≤ 1000) (hlen' : n' ≤ 1000) :
    Calls Tryd.prog 55 #[.slice A n c, .slice A' n' c'] w (NewInts w (dg (vl l * vl m))) := by
  have HL := Lib.hid h.len
  have HM := Lib.hid h'.len
  have hmk : ∀ W : World, (Instr.makeSlice 25 (.int .i64 ((n : Int) + (n' : Int))) (.int .i64 ((n : Int) + (n' : Int)))).run Tryd.prog W = .ok (.slice (some ⟨W.heap.size, 0, none⟩) (n + n') (n + n')) (W.alloc (.cells (cellsOf (List.replicate (n + n') 0)) 3)) := fun W => make_nat (n + n') (by omega) W
  go_enter Tryd.func55, Tryd.ntmps55
  go_wp2
  clear hmk
  go_loopw [6, 15] (fun _ i wr => ∃ (k : Nat) (os : List Nat), k ≤ n ∧ i = .int .i64 (k : Int) ∧ Out l m os k ∧ Box wr w.heap.size 3 (cellsOf os) ∧ Below w.heap.size w wr) (fun _ i _ => n - (intOf i).toNat)
  case atStart => exact ⟨0, _, by omega, rfl, by have := Out.start l m; rwa [HL.out, HM.out] at this, Box.made _ _ _, (Below.refl _ _).alloc (Nat.le_refl _) _⟩
  case round =>
    obtain ⟨i, os, hi, rfl, hout, hbox, hbel⟩ := hrel
    by_cases hlt : i < n
    · have t1 : decide ((i : Int) < (n : Int)) = true := by simp; omega
      obtain ⟨b0, o0, rfl, hB0, hc0⟩ := h.some_ (by omega)
      obtain ⟨a, hat⟩ : ∃ a, l[i]? = some a := ⟨_, List.getElem?_eq_getElem (by have := HL.out; omega)⟩
      have d00 := hc0 i a hat
      have d0 := (hbel.cell (p := ⟨b0, o0 + i, none⟩) hB0).trans d00
      simp only [nv] at d0 d00
      obtain ⟨pre, D, post, rfl, hp, hDl, hDd, hDv⟩ := out_split hout (by have := HL.out; omega)
      rw [HM.out] at hDl
      have hm2 := h'.at_ hbel
      have i0 : (i : Int) < (n : Int) := by omega
      have s1 : IntKind.i64.wrap ((i : Int) + (n' : Int)) = (i : Int) + (n' : Int) := wraps_i64 _ (by omega) (by omega)
      have s2 : IntKind.i64.wrap ((i : Int) + (n' : Int) + 1) = (i : Int) + (n' : Int) + 1 := wraps_i64 _ (by omega) (by omega)
      have hsl := mid_nat w.heap.size 0 (n + n') i (i + n' + 1) (n + n') (by omega) (by omega) (by omega) ((i : Int) + (n' : Int) + 1) (by omega)
      have hi2 : i ≤ 100000 := by omega
      have hn2 : n' ≤ 99000 := by omega
      have hnc : n' + 1 ≤ n + n' - i := by omega
      clear hc0
      go_wp2
      go_region_held3 (fun v => v.cell? ⟨b0, o0 + i, none⟩ = some (.int .i64 (a : Int))) (first | exact d0 | assumption)
        (first
          | (go_at_call 49; (with_reducible refine (row_call w.heap.size i (n + n' - i) n' c' A' l m pre D post a _ hbox.drew hp hDl hm2.drew hl hm hDd hDv hat hout hi2 hn2 hnc).mono ?_); rintro e w2 ⟨u, os, rfl, hout2, hbox2, hg2⟩; have hk2 := below_only hbel.drew hg2 (Nat.le_refl _) (Nat.le_refl _); have d2 := (hk2.cell (p := ⟨b0, o0 + i, none⟩) hB0).trans d00))
      all_goals
        go_wp2
        go_roundw
        case rel => exact ⟨i + 1, os, by omega, by go_num, hout2, hbox2, hk2⟩
        case measure => simp [intOf]; omega
    · obtain rfl : i = l.length := by have := HL.out; omega
      have hT := hout.done
      have hA := arr_cells hbox (by rw [hout.1, HL.out, HM.out] : os.length = n + n')
      have HT := Lib.hid hT
      clear hout hT
      go_wp2_with fail
      refine (trimmed_at _ (n + n') (n + n') _ _ _ (hA.more hbox.lt) HT.out (by omega)).mono ?_
      rintro e w2 ⟨rfl, hA2, rfl⟩
      go_wp2
      go_ret
      exact ⟨_, _, rfl, hA2, hbel⟩

end Go.Proofs.YtheadamdhjhnpaaDoor
