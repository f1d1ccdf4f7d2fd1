/-
  The reference's Same.
  The body of CollateLevels.
  Arguments that came in: slices of integers as lists, strings.
-/
import Derived.Test.YtafnjbmeponobaaGreatDoorPkAD
import Derived.Test.YtafnjbmeponobaaGreatDoorPkBH
import Derived.Test.YtafnjbmeponobaaGreatDoorWords
import Derived.ProofKit
import Derived.OpenShut
import Derived.SliceStrings
import Derived.ChangeArms
namespace Go.Proofs.YtafnjbmeponobaaGreatDoor
open Go.RowKit

theorem drewN2 (w : World) (a b : Nat) : ∃ k, (w.drewN a).drewN b = w.drewN k := ⟨_, World.drewN_drewN w a b⟩

set_option maxHeartbeats 1600000 in
theorem same_any (A A' : Option Addr) (n n' c c' : Nat) (xs ys : List Int) (B : Nat) (w : World) (h : Arr iv w B (.slice A n c) xs) (h' : Arr iv w B (.slice A' n' c') ys) (hn : n ≤ 9223372036854775807) (hn' : n' ≤ 9223372036854775807) :
    Calls Tryz.prog 18 #[.slice A n c, .slice A' n' c'] w fun e w' => e = .returned (.bool (decide (xs = ys))) ∧ ∃ k, w' = w.drewN k := by
  have HL := Lib.hid h.len
  have HM := Lib.hid h'.len
  by_cases hnn : n = n'
  · subst hnn
    go_enter Tryz.func18, Tryz.ntmps18
    go_wp2
    go_loopw [5] (fun i wr => ∃ k q : Nat, k ≤ n ∧ i = .int .i64 (k : Int) ∧ Hid (xs.take k = ys.take k) ∧ wr = w.drewN q) (fun i _ => n - (intOf i).toNat)
    case atStart => exact ⟨0, 0, by omega, rfl, Lib.hid rfl, rfl⟩
    case round =>
      obtain ⟨k, q, hk, rfl, HT, rfl⟩ := hrel
      by_cases hlt : k < n
      · obtain ⟨b0, o0, rfl, hB0, hc0⟩ := h.some_ (by omega)
        obtain ⟨b1, o1, rfl, hB1, hc1⟩ := h'.some_ (by omega)
        obtain ⟨x, hx⟩ : ∃ a, xs[k]? = some a := ⟨_, List.getElem?_eq_getElem (by have := HL.out; omega)⟩
        obtain ⟨y, hy⟩ : ∃ a, ys[k]? = some a := ⟨_, List.getElem?_eq_getElem (by have := HM.out; omega)⟩
        have d0 := hc0 k x hx
        have d1 := hc1 k y hy
        simp only [iv] at d0 d1
        have i0 : (k : Int) < (n : Int) := by omega
        have ih0 : (0 : Int) ≤ (k : Int) := by omega
        by_cases hxy : x = y
        · subst hxy
          have t1 : (x != x) = false := by simp
          have HT2 : Hid (xs.take (k + 1) = ys.take (k + 1)) := Lib.hid (by rw [take_next hx, take_next hy, HT.out])
          clear hc0 hc1 hx hy
          go_wp2
          go_quiet (fail)
          go_wp2
          go_roundw
          case rel => exact ⟨k + 1, _, by omega, by go_num, HT2, by first | exact World.drewN_drewN _ _ _ | rfl⟩
          case measure => simp [intOf]; omega
        · have t1 : (x != y) = true := by simpa using hxy
          have HF : Hid (decide (xs = ys) = false) := Lib.hid (by
            rw [decide_eq_false]
            rintro rfl
            rw [hx] at hy
            injection hy with hy
            exact hxy hy)
          clear hc0 hc1 hx hy hxy
          go_wp2
          go_quiet (fail)
          go_wp2
          go_ret
          exact ⟨ret_bool (by rw [HF.out]), by first | exact drewN2 _ _ _ | exact ⟨_, rfl⟩⟩
      · obtain rfl : k = n := by omega
        have HF : Hid (decide (xs = ys) = true) := Lib.hid (by
          have e := HT.out
          rw [List.take_of_length_le (by have := HL.out; omega), List.take_of_length_le (by have := HM.out; omega)] at e
          rw [decide_eq_true e])
        go_wp2
        go_ret
        exact ⟨ret_bool (by rw [HF.out]), _, rfl⟩
  · have t1 : ((n : Int) != (n' : Int)) = true := by simp; omega
    have HF : Hid (decide (xs = ys) = false) := Lib.hid (by
      rw [decide_eq_false]
      rintro rfl
      exact hnn (HL.out.symm.trans HM.out))
    clear hnn
    go_enter Tryz.func18, Tryz.ntmps18
    go_wp2
    go_ret
    exact ⟨ret_bool (by rw [HF.out]), 0, rfl⟩


end Go.Proofs.YtafnjbmeponobaaGreatDoor

namespace Go.Proofs.YtafnjbmeponobaaGreatDoor
open Go.RowKit

/-- Integers that are all in the repertoire are characters. -/
theorem all_nats8 : ∀ xs : List Int, xs.all hasR = true → ∃ l : List Nat, xs = l.map (fun d : Nat => (d : Int)) ∧ ∀ c ∈ l, hasN c = true
  | [], _ => ⟨[], rfl, by simp⟩
  | x :: xs, h => by
    rw [List.all_cons, Bool.and_eq_true] at h
    obtain ⟨l, h1, h2⟩ := all_nats8 xs h.2
    have hr := has_range h.1
    refine ⟨x.toNat :: l, by rw [List.map_cons, ← h1]; congr 1; omega, fun c hc => ?_⟩
    rcases List.mem_cons.1 hc with rfl | hc
    · rw [← hasN_eq, show ((x.toNat : Nat) : Int) = x by omega]
      exact h.1
    · exact h2 c hc
theorem same_prim {A A' : Option Addr} {n n' c c' : Nat} {P : List Nat} {B : Nat} {w : World} (h : Arr nv w B (.slice A n c) P) (h' : Arr nv w B (.slice A' n' c') P) (hn : n ≤ 1000000) (hn' : n' ≤ 1000000) :
    Calls Tryz.prog 18 #[.slice A n c, .slice A' n' c'] w fun e w' => e = .returned (.bool true) ∧ Below w.heap.size w w' := by
  refine (same_any A A' n n' c c' _ _ B w h.int h'.int (by omega) (by omega)).mono ?_
  rintro e w' ⟨rfl, k, rfl⟩
  exact ⟨by rw [decide_eq_true rfl], below_drewN (Below.refl _ _) _⟩
theorem fold_bytes {l : List Nat} (h : ∀ c ∈ l, hasN c = true) (h20 : l.length ≤ 20) : (encL l).length ≤ 60 ∧ (nFold (encL l)).length ≤ 300 ∧ (nStrip (encL l)).length ≤ 300 := by
  have h1 := encL_len l
  have hn := nL_encL h
  have h2 := dcF_len l
  have h3 := foldL_len (dcF l)
  have h4 := encL_len (foldL (dcF l))
  have h5 := encL_len ((dcF l).filter fun c => !isM c)
  have h6 := List.length_filter_le (fun c => !isM c) (dcF l)
  refine ⟨by omega, ?_, ?_⟩
  · show (encL (nFL (encL l))).length ≤ 300
    unfold nFL
    rw [hn]
    omega
  · unfold nStrip
    rw [hn]
    omega
theorem elems_len {T : List LetL} : ∀ (f : Nat) (l : List Nat), (∀ c ∈ l, Asked c) → (elemsF f T l).length ≤ 3 * l.length
  | 0, l, _ => by simp [elemsF]
  | f + 1, [], _ => by simp [elemsF]
  | f + 1, c :: l, h => by
    rw [elemsF]
    cases hb : bestC T (c :: l) with
    | none =>
      simp only
      have h1 := (ok_col (h c (by simp)).has (h c (by simp)).whole).few
      have h2 := elems_len (T := T) f l fun x hx => h x (by simp [hx])
      rw [List.length_append, List.length_cons]
      omega
    | some b =>
      simp only
      obtain ⟨_, _, _, h0, _, hl⟩ := best_some hb
      have h2 := elems_len (T := T) f ((c :: l).drop b.2) fun x hx => h x (List.mem_of_mem_drop hx)
      rw [List.length_drop] at h2
      rw [List.length_cons]
      omega
theorem prim_small (t : List RuleL) (s : List UInt8) (hs : s.length ≤ 500) : (nPrim t s).length ≤ 1000000 := by
  unfold nPrim
  split
  · have h1 := List.length_filter_le (fun p => !Nat.beq p 0) ((elsT t s).map fun x => x.1)
    have h2 : (elsT t s).length ≤ 3 * (dcF (nL s)).length := elems_len _ _ fun c hc => ⟨(dc_facts s c hc).1, (dc_facts s c hc).2⟩
    have h3 := dcF_len (nL s)
    have h4 := nL_len s
    rw [List.length_map] at h1
    show (List.filter (fun p => !Nat.beq p 0) ((elsT t s).map fun x => x.1)).length ≤ _
    omega
  · simp

set_option maxRecDepth 100000 in
set_option maxHeartbeats 6400000 in
theorem collateLevels_v (A : Option Addr) (n c : Nat) (xs : List Int) (w : World) (hS : Spans w) (h : Arr iv w w.heap.size (.slice A n c) xs) (hn : n ≤ 1000000000000000000) :
    Calls Tryz.prog 7 #[.slice A n c] w fun e w' => e = .returned (.bool true) ∧ Below w.heap.size w w' := by
  have hxl := h.len
  have HAw := Lib.hid (awake8_any w hS)
  have HEn := Lib.hid (fun (W : World) (hW : Below w.heap.size w W) => refEncode_any A n c xs W (h.up hW) hn)
  cases hr : xs.all hasR with
  | false =>
    have HE : Hid (encR xs = none) := Lib.hid (by unfold encR; rw [if_neg]; rw [hr]; decide)
    clear hr hxl hS h
    go_enter Tryz.func7, Tryz.ntmps7
    go_wp2_with fail
    refine HAw.out.mono ?_
    rintro e w1 ⟨rfl, k1⟩
    go_wp2_with fail
    refine (HEn.out _ k1).mono ?_
    rintro e w2 ⟨he, k2⟩
    rw [HE.out] at he
    obtain rfl := show e = _ from he
    go_wp2
    go_ret
    exact ⟨rfl, below_next k1 k2⟩
  | true =>
    obtain ⟨l, rfl, hl⟩ := all_nats8 xs hr
    rw [List.length_map] at hxl
    have hok : ∀ x ∈ l, okC x := fun x hx => ok_of_has (hl x hx)
    have HE : Hid (encR (l.map fun d : Nat => (d : Int)) = some (encL l)) := Lib.hid (encR_nats hok)
    obtain ⟨S, hSS⟩ : ∃ S, encL l = S := ⟨_, rfl⟩
    rw [hSS] at HE
    by_cases h20 : 20 < n
    · have t1 : decide (20 < (n : Int)) = true := by simp; omega
      have t1n : decide (20 < n) = true := by simpa using h20
      clear hr hxl hok hl hSS hS h
      go_enter Tryz.func7, Tryz.ntmps7
      go_wp2_with fail
      refine HAw.out.mono ?_
      rintro e w1 ⟨rfl, k1⟩
      go_wp2_with fail
      refine (HEn.out _ k1).mono ?_
      rintro e w2 ⟨he, k2⟩
      rw [HE.out] at he
      obtain rfl := show e = _ from he
      go_wp2
      go_ret
      exact ⟨rfl, below_next k1 k2⟩
    · have t1 : decide (20 < (n : Int)) = false := by simp; omega
      have t1n : decide (20 < n) = false := by simpa using h20
      have HLn := Lib.hid hxl
      have HHas := Lib.hid hl
      have HSS := Lib.hid hSS
      have hA := h.nat
      have HS := Lib.hid hS
      have hlen3 := fold_bytes hl (by omega)
      rw [hSS] at hlen3
      obtain ⟨hs60, hf300, hu300⟩ := hlen3
      have HFo := Lib.hid (fun W => refFold_any S W (by omega))
      have HSt := Lib.hid (fun W => refStrip_any S W (by omega))
      have HPr := Lib.hid (fun (s : List UInt8) (hs : s.length ≤ 500) (W : World) (hW : Below w.heap.size w W) => prPrimary_any none 0 0 [] s W (HS.out.below hW) (Tab8.nil_ W) hs)
      have HCm := Lib.hid (fun (a b : List UInt8) (ha : a.length ≤ 500) (hb : b.length ≤ 500) (W : World) (hW : Below w.heap.size w W) => prCompare_any none 0 0 [] a b W (HS.out.below hW) (Tab8.nil_ W) ha hb)
      have HLev : Hid ((∀ c ∈ l, c ≠ 223 ∧ c ≠ 962) → nPrim [] (nFold S) = nPrim [] S ∧ nPrim [] (nStrip S) = nPrim [] S ∧ nCmp [] (nFold S) S ≤ 0 ∧ nCmp [] (nStrip S) S ≤ 0) := Lib.hid (fun hno => by rw [← hSS]; exact col_levels hl hno)
      obtain ⟨F, hF⟩ : ∃ F, nFold S = F := ⟨_, rfl⟩
      obtain ⟨U, hU⟩ : ∃ U, nStrip S = U := ⟨_, rfl⟩
      rw [hF] at HFo hf300 HLev
      rw [hU] at HSt hu300 HLev
      clear hr hxl hok hl hSS hS h hF hU
      go_enter Tryz.func7, Tryz.ntmps7
      go_wp2_with fail
      refine HAw.out.mono ?_
      rintro e w1 ⟨rfl, k1⟩
      go_wp2_with fail
      refine (HEn.out _ k1).mono ?_
      rintro e w2 ⟨he, k2⟩
      rw [HE.out] at he
      obtain rfl := show e = _ from he
      have b2 := below_next k1 k2
      clear he
      go_wp2
      go_loopw [26] (fun i wr => ∃ k : Nat, k ≤ n ∧ i = .int .i64 (k : Int) ∧ Hid (∀ c ∈ l.take k, c ≠ 223 ∧ c ≠ 962) ∧ Below w.heap.size w wr) (fun i _ => n - (intOf i).toNat)
      case atStart => exact ⟨0, by omega, rfl, Lib.hid (fun c hc => by simp at hc), b2⟩
      case round =>
        obtain ⟨k, hk, rfl, HNo, hb⟩ := hrel
        by_cases hlt : k < n
        · have i1 : decide ((k : Int) < (n : Int)) = true := by simp; omega
          have kz : (k : Int) < (n : Int) := by omega
          obtain ⟨a0, o0, rfl, hA0, hca⟩ := hA.some_ (by omega)
          obtain ⟨x, hx⟩ : ∃ x, l[k]? = some x := ⟨_, List.getElem?_eq_getElem (by have := HLn.out; omega)⟩
          have d0 : wr.cell? ⟨a0, o0 + k, none⟩ = some (.int .i64 (x : Int)) := (hb.cell (p := ⟨a0, o0 + k, none⟩) hA0).trans (hca k x hx)
          by_cases g1 : x = 223
          · subst g1
            have d0' : wr.cell? ⟨a0, o0 + k, none⟩ = some (.int .i64 223) := d0
            clear hca hx d0
            go_wp2
            go_ret
            exact ⟨rfl, hb⟩
          · have q1 : ((x : Int) == 223) = false := eqb_false (by omega)
            by_cases g2 : x = 962
            · subst g2
              have d0' : wr.cell? ⟨a0, o0 + k, none⟩ = some (.int .i64 962) := d0
              clear hca hx d0 q1
              go_wp2
              go_ret
              exact ⟨rfl, hb⟩
            · have q2 : ((x : Int) == 962) = false := eqb_false (by omega)
              have HNo2 : Hid (∀ c ∈ l.take (k + 1), c ≠ 223 ∧ c ≠ 962) := Lib.hid (fun c hc => by
                rw [take_next hx] at hc
                rcases List.mem_append.1 hc with hc | hc
                · exact HNo.out c hc
                · rw [List.mem_singleton.1 hc]; exact ⟨g1, g2⟩)
              clear hca hx
              go_wp2
              go_roundw
              case rel => exact ⟨k + 1, by omega, by go_num, HNo2, hb⟩
              case measure => simp [intOf]; omega
        · obtain rfl : k = n := by omega
          have i1 : decide ((k : Int) < (k : Int)) = false := by simp
          have HL4 := Lib.hid (HLev.out fun c hc => HNo.out c (by rw [List.take_of_length_le (by rw [HLn.out]; exact Nat.le_refl _)]; exact hc))
          obtain ⟨w3, hw3⟩ : ∃ x : World, x = wr := ⟨_, rfl⟩
          subst hw3
          go_wp2_with fail
          refine (HFo.out _).mono ?_
          rintro e w4 ⟨rfl, k4⟩
          have b4 := below_next hb k4
          go_wp2_with fail
          refine (HSt.out _).mono ?_
          rintro e w5 ⟨rfl, k5⟩
          have b5 := below_next b4 k5
          have H6 := Lib.hid (HPr.out S (by omega) w5 b5)
          go_wp2_with fail
          refine H6.out.mono ?_
          rintro e w6 ⟨A6, n6, c6, rfl, hA6, k6⟩
          have b6 := below_next b5 k6
          have HA6 := Lib.hid hA6
          have H7 := Lib.hid (HPr.out F (by omega) w6 b6)
          rw [HL4.out.1] at H7
          clear hA6
          go_wp2_with fail
          refine H7.out.mono ?_
          rintro e w7 ⟨A7, n7, c7, rfl, hA7, k7⟩
          have b7 := below_next b6 k7
          have HA67 := Lib.hid (HA6.out.up k7)
          have hpl : (nPrim [] S).length ≤ 1000000 := prim_small [] S (by omega)
          have H8 := Lib.hid (same_prim hA7 HA67.out (by rw [← hA7.len]; exact hpl) (by rw [← HA6.out.len]; exact hpl))
          clear hA7
          go_wp2_with fail
          refine H8.out.mono ?_
          rintro e w8 ⟨rfl, k8⟩
          have b8 := below_next b7 k8
          have HA68 := Lib.hid (HA67.out.up k8)
          have H9 := Lib.hid (HPr.out U (by omega) w8 b8)
          rw [HL4.out.2.1] at H9
          go_wp2_with fail
          refine H9.out.mono ?_
          rintro e w9 ⟨A9, n9, c9, rfl, hA9, k9⟩
          have b9 := below_next b8 k9
          have HA69 := Lib.hid (HA68.out.up k9)
          have H10 := Lib.hid (same_prim hA9 HA69.out (by rw [← hA9.len]; exact hpl) (by rw [← HA6.out.len]; exact hpl))
          clear hA9
          go_wp2_with fail
          refine H10.out.mono ?_
          rintro e w10 ⟨rfl, k10⟩
          have b10 := below_next b9 k10
          have H11 := Lib.hid (HCm.out F S (by omega) (by omega) w10 b10)
          obtain ⟨r1, hr1⟩ : ∃ r, nCmp [] F S = r := ⟨_, rfl⟩
          have g1 : r1 ≤ 0 := by rw [← hr1]; exact HL4.out.2.2.1
          rw [hr1] at H11
          have q1 : decide (r1 ≤ 0) = true := decide_eq_true g1
          clear hr1
          go_wp2_with fail
          refine H11.out.mono ?_
          rintro e w11 ⟨rfl, k11⟩
          have b11 := below_next b10 k11
          have H12 := Lib.hid (HCm.out U S (by omega) (by omega) w11 b11)
          obtain ⟨r2, hr2⟩ : ∃ r, nCmp [] U S = r := ⟨_, rfl⟩
          have g2 : r2 ≤ 0 := by rw [← hr2]; exact HL4.out.2.2.2
          rw [hr2] at H12
          have q2 : decide (r2 ≤ 0) = true := decide_eq_true g2
          clear hr2
          go_wp2_with fail
          refine H12.out.mono ?_
          rintro e w12 ⟨rfl, k12⟩
          have b12 := below_next b11 k12
          go_wp2
          go_ret
          exact ⟨rfl, b12⟩

end Go.Proofs.YtafnjbmeponobaaGreatDoor

namespace Go.Proofs.YtafnjbmeponobaaGreatDoor
open Go.RowKit

theorem cell_block {W : World} {a : Addr} {v : Value} (h : W.cell? a = some v) : a.block < W.heap.size := World.block_lt_of_cell? W a h

theorem arr_of_ints {W : World} {x : Addr} {l c : Nat} {zs : List Int} (hl : l ≤ c) (hz : zs.length = c) (hcell : ∀ i, i < zs.length → W.cell? (x.add i) = some (.int .i64 (zs.getD i 0))) :
    ∃ xs, Arr iv W W.heap.size (.slice (some x) l c) xs ∧ xs.length = l := by
  have hlen : (zs.take l).length = l := by rw [List.length_take]; omega
  refine ⟨zs.take l, .inr ⟨x, c, by rw [hlen], by rw [hlen]; exact hl, fun h0 => ?_, fun i u hu => ?_⟩, hlen⟩
  · rw [hlen] at h0
    have := cell_block (hcell 0 (by omega))
    rwa [add_block] at this
  · have hi : i < l := by rw [← hlen]; exact (List.getElem?_eq_some_iff.1 hu).1
    rw [hcell i (by omega)]
    rw [List.getElem?_take, if_pos hi, List.getElem?_eq_getElem (show i < zs.length by omega)] at hu
    simp only [Option.some.injEq] at hu
    have hz' : zs.getD i 0 = zs[i]'(by omega) := by simp [List.getD, List.getElem?_eq_getElem (show i < zs.length by omega)]
    rw [hz', hu]
    rfl

theorem open_i {W : World} {x : Addr} {l c : Nat} {zs : List Int} (hl : l ≤ c) (hm : c ≤ maxLen) (hz : zs.length = c) (hcell : ∀ i, i < zs.length → W.cell? (x.add i) = some (.int .i64 (zs.getD i 0))) :
    ∃ xs, Arr iv W W.heap.size (.slice (some x) l c) xs ∧ xs.length = l ∧ l ≤ 9223372036854775807 := by
  obtain ⟨xs, h1, h2⟩ := arr_of_ints hl hz hcell
  unfold maxLen at hm
  exact ⟨xs, h1, h2, by omega⟩

theorem arr_of_texts {W : World} {x : Addr} {l c : Nat} {ss : List ByteArray} (hl : l ≤ c) (hz : l ≤ ss.length) (hcell : ∀ i, i < ss.length → W.cell? (x.add i) = some (.string (ss.getD i ByteArray.empty)))
    (hws : ∀ s ∈ ss, s.size ≤ maxLen) : ∃ xs, Arr sv W W.heap.size (.slice (some x) l c) xs ∧ xs.length = l ∧ ∀ s ∈ xs, s.length ≤ maxLen := by
  have hlen : ((ss.take l).map fun b => b.data.toList).length = l := by rw [List.length_map, List.length_take]; omega
  refine ⟨(ss.take l).map fun b => b.data.toList, .inr ⟨x, c, by rw [hlen], by rw [hlen]; exact hl, fun h0 => ?_, fun i u hu => ?_⟩, hlen, fun s hs => ?_⟩
  · rw [hlen] at h0
    have := cell_block (hcell 0 (by omega))
    rwa [add_block] at this
  · have hi : i < l := by rw [← hlen]; exact (List.getElem?_eq_some_iff.1 hu).1
    rw [hcell i (by omega)]
    rw [List.getElem?_map, List.getElem?_take, if_pos hi, List.getElem?_eq_getElem (show i < ss.length by omega)] at hu
    simp only [Option.map_some, Option.some.injEq] at hu
    have hz' : ss.getD i ByteArray.empty = ss[i]'(by omega) := by simp [List.getD, List.getElem?_eq_getElem (show i < ss.length by omega)]
    rw [hz', ← hu]
    unfold sv
    rw [str_data]
  · obtain ⟨b, hb, rfl⟩ := List.mem_map.1 hs
    have := hws b (List.mem_of_mem_take hb)
    exact this
theorem open_t {W : World} {x : Addr} {l c : Nat} {ss : List ByteArray} (hl : l ≤ c) (hm : c ≤ maxLen) (hz : l ≤ ss.length) (hcell : ∀ i, i < ss.length → W.cell? (x.add i) = some (.string (ss.getD i ByteArray.empty)))
    (hws : ∀ s ∈ ss, s.size ≤ maxLen) : ∃ xs, Arr sv W W.heap.size (.slice (some x) l c) xs ∧ xs.length = l ∧ l ≤ 9223372036854775807 ∧ ∀ s ∈ xs, s.length ≤ maxLen := by
  obtain ⟨bs, h1, h2, h3⟩ := arr_of_texts hl hz hcell hws
  unfold maxLen at hm
  exact ⟨bs, h1, h2, by omega, h3⟩

theorem open_b8 {W : World} {x : Addr} {l c : Nat} {zs : List Int} (hl : l ≤ c) (hm : c ≤ maxLen) (hz : zs.length = c) (hcell : ∀ i, i < zs.length → W.cell? (x.add i) = some (.int .u8 (zs.getD i 0)))
    (hwz : ∀ n ∈ zs, (Lit.int .u8 n).wf = true) : ∃ bs, Arr bv W W.heap.size (.slice (some x) l c) bs ∧ bs.length = l ∧ l ≤ 9223372036854775807 := by
  have hlen : ((zs.take l).map fun z => UInt8.ofNat z.toNat).length = l := by rw [List.length_map, List.length_take]; omega
  unfold maxLen at hm
  refine ⟨(zs.take l).map fun z => UInt8.ofNat z.toNat, .inr ⟨x, c, by rw [hlen], by rw [hlen]; exact hl, fun h0 => ?_, fun i u hu => ?_⟩, hlen, by omega⟩
  · rw [hlen] at h0
    have := cell_block (hcell 0 (by omega))
    rwa [add_block] at this
  · have hi : i < l := by rw [← hlen]; exact (List.getElem?_eq_some_iff.1 hu).1
    rw [hcell i (by omega)]
    rw [List.getElem?_map, List.getElem?_take, if_pos hi, List.getElem?_eq_getElem (show i < zs.length by omega)] at hu
    simp only [Option.map_some, Option.some.injEq] at hu
    have hz' : zs.getD i 0 = zs[i]'(by omega) := by simp [List.getD, List.getElem?_eq_getElem (show i < zs.length by omega)]
    rw [hz']
    have hb := Go.bounds_u8 (hwz _ (List.getElem_mem (show i < zs.length by omega)))
    subst hu
    unfold bv
    rw [UInt8.toNat_ofNat', Nat.mod_eq_of_lt (by omega), Int.toNat_of_nonneg hb.1]

end Go.Proofs.YtafnjbmeponobaaGreatDoor
