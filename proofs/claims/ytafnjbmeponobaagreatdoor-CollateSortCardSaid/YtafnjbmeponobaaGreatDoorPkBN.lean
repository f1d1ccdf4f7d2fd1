/-
  The body of CollateSort.
  Arguments that came in: slices of integers as lists, strings.
  An argument that is a slice of structs, as a list: given how one element reads.
  Arguments of the laws of collate: a tailoring, three strings; the bodies at them.
-/
import Derived.Test.YtafnjbmeponobaaGreatDoorPkBH
import Derived.Test.YtafnjbmeponobaaGreatDoorPkBL
import Derived.Test.YtafnjbmeponobaaGreatDoorPkBM
import Derived.BigQuiet
import Derived.Test.YtafnjbmeponobaaGreatDoorWords
import Derived.ProofKit
import Derived.OpenShut
import Derived.SliceStrings
import Derived.ChangeArms
import Derived.Test.YtafnjbmeponobaaGreatDoorPkAV
import Derived.Deep.Slices
import Derived.Lib.SmallJoins
import Derived.ChangeSame
namespace Go.Proofs.YtafnjbmeponobaaGreatDoor
open Go.RowKit

set_option maxRecDepth 20000 in
set_option maxHeartbeats 3200000 in
theorem refSwedish8_any (w : World) : Calls Tryz.prog 32 #[] w fun e w' => ∃ A, e = .returned (.slice A 3 3) ∧ Tab8 w' A 3 3 sweT ∧ Below w.heap.size w w' := by
  go_enter Tryz.func32, Tryz.ntmps32
  go_wp2
  go_ret
  exact ⟨_, rfl, ⟨box_rules sweT 3 rfl (by kernel_rfl) (Box.made w _ _) (by simp), by omega, by decide⟩, (Below.refl _ _).alloc (Nat.le_refl _) _⟩

set_option maxRecDepth 20000 in
set_option maxHeartbeats 3200000 in
theorem refCzech8_any (w : World) : Calls Tryz.prog 33 #[] w fun e w' => ∃ A, e = .returned (.slice A 5 5) ∧ Tab8 w' A 5 5 czeT ∧ Below w.heap.size w w' := by
  go_enter Tryz.func33, Tryz.ntmps33
  go_wp2
  go_ret
  exact ⟨_, rfl, ⟨box_rules czeT 5 rfl (by kernel_rfl) (Box.made w _ _) (by simp), by omega, by decide⟩, (Below.refl _ _).alloc (Nat.le_refl _) _⟩

set_option maxRecDepth 20000 in
set_option maxHeartbeats 3200000 in
theorem refSame8_any (A A' : Option Addr) (n c n' c' : Nat) (l : List (List UInt8)) (w : World) (h : Arr sv w w.heap.size (.slice A n c) l) (h' : Arr sv w w.heap.size (.slice A' n' c') l) (hn : n ≤ 1000000) :
    Calls Tryz.prog 30 #[.slice A n c, .slice A' n' c'] w fun e w' => e = .returned (.bool true) ∧ Below w.heap.size w w' := by
  have HL := Lib.hid h.len
  have hl2 : n' = n := by rw [← h.len, ← h'.len]
  subst hl2
  have t0 : ((n' : Int) != (n' : Int)) = false := by simp
  go_enter Tryz.func30, Tryz.ntmps30
  go_wp2
  go_loopw [5] (fun i wr => ∃ k : Nat, k ≤ n' ∧ i = .int .i64 (k : Int) ∧ Below w.heap.size w wr) (fun i _ => n' - (intOf i).toNat)
  case atStart => exact ⟨0, by omega, rfl, Below.refl _ _⟩
  case round =>
    obtain ⟨k, hk, rfl, hb⟩ := hrel
    by_cases hlt : k < n'
    · have i1 : decide ((k : Int) < (n' : Int)) = true := by simp; omega
      have i1n : decide (k < n') = true := by simpa using hlt
      have kz : (k : Int) < (n' : Int) := by omega
      obtain ⟨b0, o0, rfl, hB0, hc0⟩ := h.some_ (by omega)
      obtain ⟨b1, o1, rfl, hB1, hc1⟩ := h'.some_ (by omega)
      obtain ⟨x, hx⟩ : ∃ a, l[k]? = some a := ⟨_, List.getElem?_eq_getElem (by have := HL.out; omega)⟩
      have d0 : wr.cell? ⟨b0, o0 + k, none⟩ = some (.string (str x)) := (hb.cell (p := ⟨b0, o0 + k, none⟩) hB0).trans (hc0 k x hx)
      have d1 : wr.cell? ⟨b1, o1 + k, none⟩ = some (.string (str x)) := (hb.cell (p := ⟨b1, o1 + k, none⟩) hB1).trans (hc1 k x hx)
      have q1 : ((str x).toList == (str x).toList) = true := beq_self_eq_true _
      clear hc0 hc1 hx
      go_wp2
      go_big_quiet (fail)
      go_wp2
      go_roundw
      case rel => exact ⟨k + 1, by omega, by go_num, below_drewN hb _⟩
      case measure => simp [intOf]; omega
    · obtain rfl : k = n' := by omega
      have i1 : decide ((k : Int) < (k : Int)) = false := by simp
      have i1n : decide (k < k) = false := by simp
      go_wp2
      go_ret
      exact ⟨rfl, hb⟩

set_option maxRecDepth 20000 in
set_option maxHeartbeats 6400000 in
theorem collateSort_v (A : Option Addr) (n c : Nat) (t : List RuleL) (A' : Option Addr) (m c' : Nat) (l : List (List UInt8)) (w : World) (hS : Spans w) (h : Given8 w A n c t) (hl : Arr sv w w.heap.size (.slice A' m c') l) (hm : m ≤ 9223372036854775807) (hls : ∀ s ∈ l, s.length ≤ maxLen) :
    Calls Tryz.prog 9 #[.slice A n c, .slice A' m c'] w fun e w' => e = .returned (.bool true) ∧ Below w.heap.size w w' := by
  have HAw := Lib.hid (awake8_any w hS)
  have HFw := Lib.hid (fun (W : World) (hW : Below w.heap.size w W) => few8_any A n c t A' m c' l W (h.up hW) (hl.up hW) hm (fun s hs => by have := hls s hs; unfold maxLen at this; omega))
  have hlen := hl.len
  cases hf : fewT t l with
  | false =>
    rw [hf] at HFw
    clear hS h hf hl hls hlen
    go_enter Tryz.func9, Tryz.ntmps9
    go_wp2_with fail
    refine HAw.out.mono ?_
    rintro e w1 ⟨rfl, k1⟩
    go_wp2_with fail
    refine (HFw.out _ k1).mono ?_
    rintro e w2 ⟨rfl, k2⟩
    go_wp2
    go_ret
    exact ⟨rfl, below_next k1 k2⟩
  | true =>
    rw [hf] at HFw
    by_cases h8 : 8 < m
    · have t8 : decide ((8 : Int) < (m : Int)) = true := decide_eq_true (by omega)
      have t8n : decide (8 < m) = true := decide_eq_true h8
      clear hS h hf hl hls hlen h8
      go_enter Tryz.func9, Tryz.ntmps9
      go_wp2_with fail
      refine HAw.out.mono ?_
      rintro e w1 ⟨rfl, k1⟩
      go_wp2_with fail
      refine (HFw.out _ k1).mono ?_
      rintro e w2 ⟨rfl, k2⟩
      go_wp2
      go_ret
      exact ⟨rfl, below_next k1 k2⟩
    · have t8 : decide ((8 : Int) < (m : Int)) = false := decide_eq_false (by omega)
      have t8n : decide (8 < m) = false := decide_eq_false h8
      have hT := h.tab hf
      obtain ⟨-, -, hs40⟩ := few_parts hf
      have HOw := Lib.hid (fun (W : World) (hW : Below w.heap.size w W) => own8_any A n c t W (hT.up hW))
      have HPS := Lib.hid (fun (W : World) (hW : Below w.heap.size w W) (Ao : Option Addr) (co : Nat) (h' : Tab8 W Ao n co t) => prSort8_any Ao n co t A' m c' l W (hS.below hW) h' (hl.up hW) (by omega) (fun s hs => by have := hs40 s hs; omega))
      have HRS := Lib.hid (fun (W : World) (hW : Below w.heap.size w W) => refSort8_any A n c t A' m c' l W (hT.up hW) (hl.up hW) (by omega) (fun s hs => by have := hs40 s hs; omega))
      have hNl : (nSort t l).length ≤ 8 := by
        unfold nSort
        split
        · rw [sortS_len]; omega
        · omega
      obtain ⟨R, hR⟩ : ∃ R, nSort t l = R := ⟨_, rfl⟩
      rw [hR] at HPS HRS hNl
      clear hS h hf hl hls hlen h8 hT hs40 hR
      go_enter Tryz.func9, Tryz.ntmps9
      go_wp2_with fail
      refine HAw.out.mono ?_
      rintro e w1 ⟨rfl, k1⟩
      go_wp2_with fail
      refine (HFw.out _ k1).mono ?_
      rintro e w2 ⟨rfl, k2⟩
      have e2 := below_next k1 k2
      go_wp2_with fail
      refine (HOw.out _ e2).mono ?_
      rintro e w3 ⟨A3, c3, rfl, hT3, k3⟩
      have e3 := below_next e2 k3
      have HC3 := Lib.hid (HPS.out _ e3 A3 c3 hT3)
      clear hT3
      go_wp2_with fail
      refine HC3.out.mono ?_
      rintro e w4 ⟨A4, n4, c4, rfl, hA4, k4⟩
      have e4 := below_next e3 k4
      have HA4 := Lib.hid hA4
      clear hA4
      go_wp2_with fail
      refine (HRS.out _ e4).mono ?_
      rintro e w5 ⟨A5, n5, c5, rfl, hA5, k5⟩
      have e5 := below_next e4 k5
      have HSa := Lib.hid (refSame8_any A4 A5 n4 c4 n5 c5 R w5 (HA4.out.up k5) hA5 (by have := HA4.out.len; omega))
      clear hA5
      go_wp2_with fail
      refine HSa.out.mono ?_
      rintro e w6 ⟨rfl, k6⟩
      have e6 := below_next e5 k6
      have H6 := Lib.hid (refSwedish8_any w6)
      go_wp2_with fail
      refine H6.out.mono ?_
      rintro e w7 ⟨A7, rfl, hT7, k7⟩
      have e7 := below_next e6 k7
      have H7 := Lib.hid (own8_any A7 3 3 sweT w7 hT7)
      clear hT7
      go_wp2_with fail
      refine H7.out.mono ?_
      rintro e w8 ⟨A8, c8, rfl, hT8, k8⟩
      have e8 := below_next e7 k8
      have HT8 := Lib.hid hT8
      have H8 := Lib.hid (refCzech8_any w8)
      clear hT8
      go_wp2_with fail
      refine H8.out.mono ?_
      rintro e w9 ⟨A9, rfl, hT9, k9⟩
      have e9 := below_next e8 k9
      have H9 := Lib.hid (own8_any A9 5 5 czeT w9 hT9)
      clear hT9
      go_wp2_with fail
      refine H9.out.mono ?_
      rintro e w10 ⟨A10, c10, rfl, hT10, k10⟩
      have e10 := below_next e9 k10
      have HT10 := Lib.hid hT10
      have H10 := Lib.hid (prSwedish_any w10)
      clear hT10
      go_wp2_with fail
      refine H10.out.mono ?_
      rintro e w11 ⟨A11, rfl, hT11, k11⟩
      have e11 := below_next e10 k11
      have HT11 := Lib.hid hT11
      have H11 := Lib.hid (prCzech_any w11)
      clear hT11
      go_wp2_with fail
      refine H11.out.mono ?_
      rintro e w12 ⟨A12, rfl, hT12, k12⟩
      have e12 := below_next e11 k12
      have hS8 := ((((HT8.out.up k9).up k10).up k11).up k12).arr
      have hC10 := ((HT10.out.up k11).up k12).arr
      have hS11 := (HT11.out.up k12).arr
      have hC12 := hT12.arr
      clear hT12 H6 H7 H8 H9 H10 H11 HC3 HSa HPS HRS HOw HFw HAw HT8 HT10 HT11
      go_wp2
      go_loopw [53] (fun i wr => ∃ k : Nat, k ≤ 3 ∧ i = .int .i64 (k : Int) ∧ Below w12.heap.size w12 wr) (fun i _ => 3 - (intOf i).toNat)
      case atStart => exact ⟨0, by omega, rfl, Below.refl _ _⟩
      case round =>
        obtain ⟨k, hk, rfl, hb⟩ := hrel
        by_cases hlt : k < 3
        · have i1 : decide ((k : Int) < 3) = true := decide_eq_true (by omega)
          have i1n : decide (k < 3) = true := decide_eq_true hlt
          have kz : (k : Int) < 3 := by omega
          obtain ⟨b0, o0, rfl, hB0, hc0⟩ := lets_cells hS8 (by omega)
          obtain ⟨b1, o1, rfl, hB1, hc1⟩ := lets_cells hS11 (by omega)
          obtain ⟨x, hx⟩ : ∃ a, sweT[k]? = some a := ⟨_, List.getElem?_eq_getElem (by have h9 : sweT.length = 3 := rfl; omega)⟩
          have d0 := (hb.cell (p := ⟨b0, o0 + k * 2, none⟩) hB0).trans (hc0 k x hx).1
          have d1 := (hb.cell (p := ⟨b0, o0 + k * 2 + 1, none⟩) hB0).trans (hc0 k x hx).2
          have d2 := (hb.cell (p := ⟨b1, o1 + k * 2, none⟩) hB1).trans (hc1 k x hx).1
          have d3 := (hb.cell (p := ⟨b1, o1 + k * 2 + 1, none⟩) hB1).trans (hc1 k x hx).2
          have q1 : ((str x.1).toList == (str x.1).toList) = true := beq_self_eq_true _
          have q2 : ((str x.2).toList == (str x.2).toList) = true := beq_self_eq_true _
          clear hc0 hc1 hx
          go_wp2
          go_big_quiet (fail)
          go_wp2
          go_roundw
          case rel => exact ⟨k + 1, by omega, by go_num, by first | exact below_drewN hb _ | exact hb⟩
          case measure => simp [intOf]; omega
        · obtain rfl : k = 3 := by omega
          obtain ⟨w13, hw13⟩ : ∃ x : World, x = wr := ⟨_, rfl⟩
          subst hw13
          go_wp2
          go_loopw [68] (fun i wr => ∃ k : Nat, k ≤ 5 ∧ i = .int .i64 (k : Int) ∧ Below w12.heap.size w12 wr) (fun i _ => 5 - (intOf i).toNat)
          case atStart => exact ⟨0, by omega, rfl, hb⟩
          case round =>
            obtain ⟨k, hk, rfl, hb⟩ := hrel
            by_cases hlt : k < 5
            · have i1 : decide ((k : Int) < 5) = true := decide_eq_true (by omega)
              have i1n : decide (k < 5) = true := decide_eq_true hlt
              have kz : (k : Int) < 5 := by omega
              obtain ⟨b0, o0, rfl, hB0, hc0⟩ := lets_cells hC10 (by omega)
              obtain ⟨b1, o1, rfl, hB1, hc1⟩ := lets_cells hC12 (by omega)
              obtain ⟨x, hx⟩ : ∃ a, czeT[k]? = some a := ⟨_, List.getElem?_eq_getElem (by have h9 : czeT.length = 5 := rfl; omega)⟩
              have d0 := (hb.cell (p := ⟨b0, o0 + k * 2, none⟩) hB0).trans (hc0 k x hx).1
              have d1 := (hb.cell (p := ⟨b0, o0 + k * 2 + 1, none⟩) hB0).trans (hc0 k x hx).2
              have d2 := (hb.cell (p := ⟨b1, o1 + k * 2, none⟩) hB1).trans (hc1 k x hx).1
              have d3 := (hb.cell (p := ⟨b1, o1 + k * 2 + 1, none⟩) hB1).trans (hc1 k x hx).2
              have q1 : ((str x.1).toList == (str x.1).toList) = true := beq_self_eq_true _
              have q2 : ((str x.2).toList == (str x.2).toList) = true := beq_self_eq_true _
              clear hc0 hc1 hx
              go_wp2
              go_big_quiet (fail)
              go_wp2
              go_roundw
              case rel => exact ⟨k + 1, by omega, by go_num, by first | exact below_drewN hb _ | exact hb⟩
              case measure => simp [intOf]; omega
            · obtain rfl : k = 5 := by omega
              go_wp2
              go_ret
              exact ⟨rfl, below_next e12 hb⟩

end Go.Proofs.YtafnjbmeponobaaGreatDoor

namespace Go.Proofs.YtafnjbmeponobaaGreatDoor
open Go.RowKit

theorem cell_block {W : World} {a : Addr} {v : Value} (h : W.cell? a = some v) : a.block < W.heap.size := World.block_lt_of_cell? W a h

theorem arr_of_ints {W : World} {x : Addr} {l c : Nat} {zs : List Int} (hl : l ≤ c) (hz : zs.length = c) (hcell : ∀ i, i < zs.length → W.cell? (x.add i) = some (.int .i64 (zs.getD i 0))) :
    ∃ xs, Arr iv W W.heap.size (.slice (some x) l c) xs ∧ xs.length = l := by
  have hlen : (zs.take l).length = l := by rw [List.length_take]; omega
  refine ⟨zs.take l, .inr ⟨x, c, by rw [hlen], by rw [hlen]; exact hl, fun h0 => ?_, fun i u hu => ?_⟩, hlen⟩
  · rw [hlen] at h0
    have := cell_block (hcell 0 (by omega))
    rwa [add_block] at this
  · have hi : i < l := by rw [← hlen]; exact (List.getElem?_eq_some_iff.1 hu).1
    rw [hcell i (by omega)]
    rw [List.getElem?_take, if_pos hi, List.getElem?_eq_getElem (show i < zs.length by omega)] at hu
    simp only [Option.some.injEq] at hu
    have hz' : zs.getD i 0 = zs[i]'(by omega) := by simp [List.getD, List.getElem?_eq_getElem (show i < zs.length by omega)]
    rw [hz', hu]
    rfl

theorem open_i {W : World} {x : Addr} {l c : Nat} {zs : List Int} (hl : l ≤ c) (hm : c ≤ maxLen) (hz : zs.length = c) (hcell : ∀ i, i < zs.length → W.cell? (x.add i) = some (.int .i64 (zs.getD i 0))) :
    ∃ xs, Arr iv W W.heap.size (.slice (some x) l c) xs ∧ xs.length = l ∧ l ≤ 9223372036854775807 := by
  obtain ⟨xs, h1, h2⟩ := arr_of_ints hl hz hcell
  unfold maxLen at hm
  exact ⟨xs, h1, h2, by omega⟩

theorem arr_of_texts {W : World} {x : Addr} {l c : Nat} {ss : List ByteArray} (hl : l ≤ c) (hz : l ≤ ss.length) (hcell : ∀ i, i < ss.length → W.cell? (x.add i) = some (.string (ss.getD i ByteArray.empty)))
    (hws : ∀ s ∈ ss, s.size ≤ maxLen) : ∃ xs, Arr sv W W.heap.size (.slice (some x) l c) xs ∧ xs.length = l ∧ ∀ s ∈ xs, s.length ≤ maxLen := by
  have hlen : ((ss.take l).map fun b => b.data.toList).length = l := by rw [List.length_map, List.length_take]; omega
  refine ⟨(ss.take l).map fun b => b.data.toList, .inr ⟨x, c, by rw [hlen], by rw [hlen]; exact hl, fun h0 => ?_, fun i u hu => ?_⟩, hlen, fun s hs => ?_⟩
  · rw [hlen] at h0
    have := cell_block (hcell 0 (by omega))
    rwa [add_block] at this
  · have hi : i < l := by rw [← hlen]; exact (List.getElem?_eq_some_iff.1 hu).1
    rw [hcell i (by omega)]
    rw [List.getElem?_map, List.getElem?_take, if_pos hi, List.getElem?_eq_getElem (show i < ss.length by omega)] at hu
    simp only [Option.map_some, Option.some.injEq] at hu
    have hz' : ss.getD i ByteArray.empty = ss[i]'(by omega) := by simp [List.getD, List.getElem?_eq_getElem (show i < ss.length by omega)]
    rw [hz', ← hu]
    unfold sv
    rw [str_data]
  · obtain ⟨b, hb, rfl⟩ := List.mem_map.1 hs
    have := hws b (List.mem_of_mem_take hb)
    exact this
theorem open_t {W : World} {x : Addr} {l c : Nat} {ss : List ByteArray} (hl : l ≤ c) (hm : c ≤ maxLen) (hz : l ≤ ss.length) (hcell : ∀ i, i < ss.length → W.cell? (x.add i) = some (.string (ss.getD i ByteArray.empty)))
    (hws : ∀ s ∈ ss, s.size ≤ maxLen) : ∃ xs, Arr sv W W.heap.size (.slice (some x) l c) xs ∧ xs.length = l ∧ l ≤ 9223372036854775807 ∧ ∀ s ∈ xs, s.length ≤ maxLen := by
  obtain ⟨bs, h1, h2, h3⟩ := arr_of_texts hl hz hcell hws
  unfold maxLen at hm
  exact ⟨bs, h1, h2, by omega, h3⟩

theorem open_b8 {W : World} {x : Addr} {l c : Nat} {zs : List Int} (hl : l ≤ c) (hm : c ≤ maxLen) (hz : zs.length = c) (hcell : ∀ i, i < zs.length → W.cell? (x.add i) = some (.int .u8 (zs.getD i 0)))
    (hwz : ∀ n ∈ zs, (Lit.int .u8 n).wf = true) : ∃ bs, Arr bv W W.heap.size (.slice (some x) l c) bs ∧ bs.length = l ∧ l ≤ 9223372036854775807 := by
  have hlen : ((zs.take l).map fun z => UInt8.ofNat z.toNat).length = l := by rw [List.length_map, List.length_take]; omega
  unfold maxLen at hm
  refine ⟨(zs.take l).map fun z => UInt8.ofNat z.toNat, .inr ⟨x, c, by rw [hlen], by rw [hlen]; exact hl, fun h0 => ?_, fun i u hu => ?_⟩, hlen, by omega⟩
  · rw [hlen] at h0
    have := cell_block (hcell 0 (by omega))
    rwa [add_block] at this
  · have hi : i < l := by rw [← hlen]; exact (List.getElem?_eq_some_iff.1 hu).1
    rw [hcell i (by omega)]
    rw [List.getElem?_map, List.getElem?_take, if_pos hi, List.getElem?_eq_getElem (show i < zs.length by omega)] at hu
    simp only [Option.map_some, Option.some.injEq] at hu
    have hz' : zs.getD i 0 = zs[i]'(by omega) := by simp [List.getD, List.getElem?_eq_getElem (show i < zs.length by omega)]
    rw [hz']
    have hb := Go.bounds_u8 (hwz _ (List.getElem_mem (show i < zs.length by omega)))
    subst hu
    unfold bv
    rw [UInt8.toNat_ofNat', Nat.mod_eq_of_lt (by omega), Int.toNat_of_nonneg hb.1]

end Go.Proofs.YtafnjbmeponobaaGreatDoor

namespace Go.Proofs.YtafnjbmeponobaaGreatDoor
open Go.RowKit Go.ChangeShapes Go.WideShapes Go.Deep Go.Joins

theorem sarr_open {H : Type} {enc : TypeId × Value → H} {P : Program} {W : World} {base : Nat} {spare : Nat → Bool} {held : Bool} {fuel : Nat} {cs : List Value} {x : DataW H × List MemPlace}
    {t e : TypeId} {sz : Nat} {α : Type} {val : α → List Value} (Good : α → Prop) (ht : P.underlying t = some (.slice e)) (hk : P.cellsOf e = sz) (hs : 0 < sz) (hv : ∀ u, (val u).length = sz)
    (helem : ∀ (n : Nat) (cs : List Value) (x : DataW H × List MemPlace), DataW.trod enc P W base spare held n e cs = some x → ∃ u, cs = val u ∧ Good u)
    (h : DataW.trod enc P W base spare held fuel t cs = some x) :
    ∃ A n c xs, cs = [.slice A n c] ∧ SArr sz val W W.heap.size (.slice A n c) xs ∧ xs.length = n ∧ n ≤ 9223372036854775807 ∧ ∀ u ∈ xs, Good u := by
  rcases open_slice ht h with ⟨rfl, _⟩ | ⟨a, len, cap, m, n, D, Pl, rfl, hb, hl, hm, hmm, _, hi⟩
  · exact ⟨none, 0, 0, [], rfl, .inl ⟨rfl, rfl⟩, rfl, by omega, by simp⟩
  · unfold maxLen at hm
    have hml : len ≤ m := by rw [hmm]; split <;> omega
    by_cases h0 : len = 0
    · subst h0
      exact ⟨some a, 0, cap, [], rfl, .inr ⟨a, cap, rfl, by simp, by simp, by simp⟩, rfl, by omega, by simp⟩
    · have hel : ∀ i, i < len → ∃ u : α, (∀ j v, (val u)[j]? = some v → W.cell? (a.add (i * sz + j)) = some v) ∧ Good u := by
        intro i hil
        obtain ⟨cs', hc, ht'⟩ := hi i (by omega)
        rw [hk] at hc
        obtain ⟨u, rfl, hg⟩ := helem n cs' _ ht'
        obtain ⟨_, hcl, hat⟩ := World.cells?_some hc
        refine ⟨u, fun j v hj => ?_, hg⟩
        have hjl : j < sz := by rw [← hv u]; exact (List.getElem?_eq_some_iff.1 hj).1
        have := hat j hjl
        rw [Go.Deep.add_add] at this
        rw [this, hj]
      obtain ⟨u0, _, _⟩ := hel 0 (by omega)
      have hel2 : ∀ i, ∃ u : α, i < len → (∀ j v, (val u)[j]? = some v → W.cell? (a.add (i * sz + j)) = some v) ∧ Good u := fun i => by
        by_cases hil : i < len
        · obtain ⟨u, h1, h2⟩ := hel i hil
          exact ⟨u, fun _ => ⟨h1, h2⟩⟩
        · exact ⟨u0, fun h => absurd h hil⟩
      obtain ⟨f, hf⟩ := Classical.skolem.1 hel2
      have hlen : ((List.range len).map f).length = len := by simp
      have hget : ∀ i u, ((List.range len).map f)[i]? = some u → i < len ∧ f i = u := by
        intro i u hu
        have hil : i < len := by rw [← hlen]; exact (List.getElem?_eq_some_iff.1 hu).1
        rw [List.getElem?_map, List.getElem?_range hil] at hu
        exact ⟨hil, by simpa using hu⟩
      refine ⟨some a, len, cap, (List.range len).map f, rfl, .inr ⟨a, cap, by rw [hlen], by rw [hlen]; exact hl, fun _ => ?_, fun i u hu j v hj => ?_⟩, hlen, by omega, fun u hu => ?_⟩
      · have h1 := (hf 0 (by omega)).1 0 _ (List.getElem?_eq_getElem (by rw [hv]; exact hs))
        have := cell_block h1
        rwa [add_block] at this
      · obtain ⟨hil, rfl⟩ := hget i u hu
        exact (hf i hil).1 j v hj
      · obtain ⟨i, hi'⟩ := List.getElem?_of_mem hu
        obtain ⟨hil, rfl⟩ := hget i u hi'
        exact (hf i hil).2

end Go.Proofs.YtafnjbmeponobaaGreatDoor

namespace Go.Proofs.YtafnjbmeponobaaGreatDoor
open Go.RowKit Go.ChangeShapes Go.WideShapes Go.Deep Go.Joins

set_option maxRecDepth 100000 in
theorem letter_elem {H : Type} {enc : TypeId × Value → H} {W : World} {base : Nat} {spare : Nat → Bool} {held : Bool} (n : Nat) (cs : List Value) (x : DataW H × List MemPlace)
    (h : DataW.trod enc Tryz.prog W base spare held n 53 cs = some x) : ∃ u : RuleL, cs = rv u ∧ (u.1.length ≤ 9223372036854775807 ∧ u.2.length ≤ 9223372036854775807) := by
  have k2 : Tryz.prog.cellsOf 53 = 2 := by kernel_rfl
  have k1 : Tryz.prog.cellsOf 9 = 1 := by kernel_rfl
  obtain ⟨y0, y1, m, _, hl, h0, h1⟩ := trod_struct2 Tryz.underlying53 h
  rw [k2] at hl
  obtain ⟨c0, c1, rfl⟩ : ∃ c0 c1, cs = [c0, c1] := by
    match cs, hl with
    | [c0, c1], _ => exact ⟨c0, c1, rfl⟩
  simp only [k1] at h0 h1
  obtain ⟨s0, e0, _, w0⟩ := DataW.trod_string Tryz.underlying9 h0
  obtain ⟨s1, e1, _, w1⟩ := DataW.trod_string Tryz.underlying9 h1
  simp at e0 e1
  subst e0 e1
  unfold maxLen at w0 w1
  refine ⟨(s0.data.toList, s1.data.toList), ?_, ?_, ?_⟩
  · unfold rv
    rw [str_data, str_data]
  · exact w0
  · exact w1
theorem letters_open {H : Type} {enc : TypeId × Value → H} {W : World} {base : Nat} {spare : Nat → Bool} {held : Bool} {fuel : Nat} {cs : List Value} {x : DataW H × List MemPlace}
    (h : DataW.trod enc Tryz.prog W base spare held fuel 22 cs = some x) : ∃ A n c t, cs = [.slice A n c] ∧ Given8 W A n c t := by
  obtain ⟨A, n, c, t, h1, h2, _, h4, h5⟩ := sarr_open (val := rv) (sz := 2) (fun u : RuleL => u.1.length ≤ 9223372036854775807 ∧ u.2.length ≤ 9223372036854775807) Tryz.underlying22 (by kernel_rfl) (by decide) rv_len letter_elem h
  exact ⟨A, n, c, t, h1, ⟨h2, h4, h5⟩⟩
theorem len_of {b : ByteArray} (h : b.size ≤ maxLen) : b.data.toList.length ≤ 9223372036854775807 := by
  unfold maxLen at h
  have : b.data.toList.length = b.size := rfl
  omega

end Go.Proofs.YtafnjbmeponobaaGreatDoor
