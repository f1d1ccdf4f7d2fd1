/-
  The bodies of ArticleTables, ArticleSort.
  The laws' bodies at arguments as the model holds them.
  What the listed variables and the world's shape say of the tables when a call begins.
  Arguments that came in: slices of integers as lists, strings.
-/
import Derived.Test.YtmgofhbdaopapaaDoorPkAU
import Derived.Test.YtmgofhbdaopapaaDoorPkAJ
import Derived.Test.YtmgofhbdaopapaaDoorRows
import Derived.Shelf.Vars
import Derived.Lib.LaidU8
import Derived.Test.YtmgofhbdaopapaaDoorWords
import Derived.ProofKit
import Derived.OpenShut
import Derived.SliceStrings
import Derived.ChangeArms
namespace Go.Proofs.YtmgofhbdaopapaaDoor
open Go.RowKit

set_option maxRecDepth 20000 in
set_option maxHeartbeats 3200000 in
theorem same9_any (A A' : Option Addr) (n c n' c' : Nat) (l : List (List UInt8)) (w : World) (h : Arr sv w w.heap.size (.slice A n c) l) (h' : Arr sv w w.heap.size (.slice A' n' c') l) (hn : n ≤ 1000000) :
    Calls Tryd.prog 6 #[.slice A n c, .slice A' n' c'] w fun e w' => e = .returned (.bool true) ∧ Below w.heap.size w w' := by
  have HL := Lib.hid h.len
  have hl2 : n' = n := by rw [← h.len, ← h'.len]
  subst hl2
  have t0 : ((n' : Int) != (n' : Int)) = false := by simp
  go_enter Tryd.func6, Tryd.ntmps6
  go_wp2
  go_loopw [13] (fun i wr => ∃ k : Nat, k ≤ n' ∧ i = .int .i64 (k : Int) ∧ Below w.heap.size w wr) (fun i _ => n' - (intOf i).toNat)
  case atStart => exact ⟨0, by omega, rfl, Below.refl _ _⟩
  case round =>
    obtain ⟨k, hk, rfl, hb⟩ := hrel
    by_cases hlt : k < n'
    · have i1 : decide ((k : Int) < (n' : Int)) = true := decide_eq_true (by omega)
      have i1n : decide (k < n') = true := decide_eq_true hlt
      have kz : (k : Int) < (n' : Int) := by omega
      obtain ⟨b0, o0, rfl, hB0, hc0⟩ := h.some_ (by omega)
      obtain ⟨b1, o1, rfl, hB1, hc1⟩ := h'.some_ (by omega)
      obtain ⟨x, hx⟩ : ∃ a, l[k]? = some a := ⟨_, List.getElem?_eq_getElem (by have := HL.out; omega)⟩
      have d0 : wr.cell? ⟨b0, o0 + k, none⟩ = some (.string (str x)) := (hb.cell (p := ⟨b0, o0 + k, none⟩) hB0).trans (hc0 k x hx)
      have d1 : wr.cell? ⟨b1, o1 + k, none⟩ = some (.string (str x)) := (hb.cell (p := ⟨b1, o1 + k, none⟩) hB1).trans (hc1 k x hx)
      have q1 : ((str x).toList == (str x).toList) = true := beq_self_eq_true _
      clear hc0 hc1 hx
      go_wp2
      go_big_quiet (fail)
      go_wp2
      go_roundw
      case rel => exact ⟨k + 1, by omega, by go_num, by first | exact below_drewN hb _ | exact hb⟩
      case measure => simp [intOf]; omega
    · obtain rfl : k = n' := by omega
      have i1 : decide ((k : Int) < (k : Int)) = false := by simp
      have i1n : decide (k < k) = false := by simp
      go_wp2
      go_ret
      exact ⟨rfl, hb⟩

theorem langs_len {x : List UInt8} (h : x ∈ langT) : x.length = 3 := by
  have h1 : (langT.all fun x => x.length == 3) = true := by decide +kernel
  have := List.all_eq_true.1 h1 x h
  simpa using this

set_option maxRecDepth 20000 in
set_option maxHeartbeats 3200000 in
theorem articleTables_v (lang : List UInt8) (w : World) (hS : Ready9 w) (h1 : lang.length ≤ 9223372036854775807) :
    Calls Tryd.prog 3 #[.string (str lang)] w fun e w' => e = .returned (.bool true) ∧ Below w.heap.size w w' := by
  have HAw := Lib.hid (awake9_any w hS)
  have z1 : (str lang).size = lang.length := rfl
  by_cases g1 : 10 < lang.length
  · have t1 : decide ((10 : Int) < (lang.length : Int)) = true := decide_eq_true (by omega)
    have t1n : decide (10 < lang.length) = true := decide_eq_true g1
    clear g1
    go_enter Tryd.func3, Tryd.ntmps3
    go_wp2_with fail
    refine HAw.out.mono ?_
    rintro e w1 ⟨rfl, k1⟩
    go_wp2
    go_ret
    exact ⟨rfl, k1⟩
  have t1 : decide ((10 : Int) < (lang.length : Int)) = false := decide_eq_false (by omega)
  have t1n : decide (10 < lang.length) = false := decide_eq_false g1
  have PL := Lib.hid (fun W (_ : Below w.heap.size w W) => prLanguages9_any W)
  have PA := Lib.hid (fun (x : List UInt8) (hx : x.length ≤ 1000) W (_ : Below w.heap.size w W) => prArticles9_any x W hx)
  have RL := Lib.hid (fun W => refLanguages_any W)
  have RA := Lib.hid (fun (x : List UInt8) W => refArticles_any x W)
  have HFew := Lib.hid (fun x => arts_few x)
  have hg1 := Lib.hid g1
  clear g1
  go_enter Tryd.func3, Tryd.ntmps3
  go_wp2_with fail
  refine HAw.out.mono ?_
  rintro e w1 ⟨rfl, k1⟩
  go_wp2_with fail
  refine (RL.out _).mono ?_
  rintro e w2 ⟨A2, rfl, hA2, k2⟩
  have b2 := below_next k1 k2
  go_wp2
  go_loopw [12] (fun i wr => ∃ k : Nat, k ≤ 10 ∧ i = .int .i64 (k : Int) ∧ Below w2.heap.size w2 wr) (fun i _ => 10 - (intOf i).toNat)
  case atStart => exact ⟨0, by omega, rfl, Below.refl _ _⟩
  case round =>
    obtain ⟨k, hk, rfl, hb⟩ := hrel
    have b3 := below_next b2 hb
    by_cases hlt : k < 10
    · have i1 : decide ((k : Int) < 10) = true := decide_eq_true (by omega)
      have i1n : decide (k < 10) = true := decide_eq_true hlt
      have kz : (k : Int) < 10 := by omega
      obtain ⟨b0, o0, rfl, hB0, hc0⟩ := hA2.some_ (by omega)
      obtain ⟨x, hx⟩ : ∃ a, langT[k]? = some a := ⟨_, List.getElem?_eq_getElem (by have h9 : langT.length = 10 := rfl; omega)⟩
      have d0 : wr.cell? ⟨b0, o0 + k, none⟩ = some (.string (str x)) := (hb.cell (p := ⟨b0, o0 + k, none⟩) hB0).trans (hc0 k x hx)
      have hxl := langs_len (List.mem_of_getElem? hx)
      have PX := Lib.hid (PA.out x (by omega) wr b3)
      have RX := Lib.hid (RA.out x)
      have hfx := HFew.out x
      obtain ⟨L, hL⟩ : ∃ L, artsOf x = L := ⟨_, rfl⟩
      rw [hL] at PX RX hfx
      obtain ⟨w3, hw3⟩ : ∃ y : World, y = wr := ⟨_, rfl⟩
      subst hw3
      clear hc0 hx hL
      go_wp2_with fail
      refine PX.out.mono ?_
      rintro e w4 ⟨A4, n4, c4, rfl, hA4, k4⟩
      have HA4 := Lib.hid hA4
      clear hA4
      go_wp2_with fail
      refine (RX.out _).mono ?_
      rintro e w5 ⟨A5, n5, c5, rfl, hA5, k5⟩
      have HS := Lib.hid (same9_any A4 A5 n4 c4 n5 c5 L w5 (HA4.out.up k5) hA5 (by have := HA4.out.len; omega))
      clear hA5
      go_wp2_with fail
      refine HS.out.mono ?_
      rintro e w6 ⟨rfl, k6⟩
      have b6 := below_next (below_next (below_next hb k4) k5) k6
      go_wp2
      go_roundw
      case rel => exact ⟨k + 1, by omega, by go_num, b6⟩
      case measure => simp [intOf]; omega
    · obtain rfl : k = 10 := by omega
      obtain ⟨w3, hw3⟩ : ∃ y : World, y = wr := ⟨_, rfl⟩
      subst hw3
      have PX := Lib.hid (PA.out lang (by have := hg1.out; omega))
      have RX := Lib.hid (RA.out lang)
      have hfx := HFew.out lang
      obtain ⟨L, hL⟩ : ∃ L, artsOf lang = L := ⟨_, rfl⟩
      rw [hL] at PX RX hfx
      clear hA2 hL
      go_wp2_with fail
      refine (PL.out _ b3).mono ?_
      rintro e w4 ⟨A4, c4, rfl, hA4, k4⟩
      have b4 := below_next b3 k4
      have HA4 := Lib.hid hA4
      clear hA4
      go_wp2_with fail
      refine (RL.out _).mono ?_
      rintro e w5 ⟨A5, rfl, hA5, k5⟩
      have b5 := below_next b4 k5
      have HS := Lib.hid (same9_any A4 A5 10 c4 10 10 langT w5 (HA4.out.up k5) hA5 (by omega))
      clear hA5
      go_wp2_with fail
      refine HS.out.mono ?_
      rintro e w6 ⟨rfl, k6⟩
      have b6 := below_next b5 k6
      go_wp2_with fail
      refine (PX.out _ b6).mono ?_
      rintro e w7 ⟨A7, n7, c7, rfl, hA7, k7⟩
      have b7 := below_next b6 k7
      have HA7 := Lib.hid hA7
      clear hA7
      go_wp2_with fail
      refine (RX.out _).mono ?_
      rintro e w8 ⟨A8, n8, c8, rfl, hA8, k8⟩
      have b8 := below_next b7 k8
      have HS2 := Lib.hid (same9_any A7 A8 n7 c7 n8 c8 L w8 (HA7.out.up k8) hA8 (by have := HA7.out.len; omega))
      clear hA8
      go_wp2_with fail
      refine HS2.out.mono ?_
      rintro e w9 ⟨rfl, k9⟩
      go_wp2
      go_ret
      exact ⟨rfl, below_next b8 k9⟩

end Go.Proofs.YtmgofhbdaopapaaDoor

namespace Go.Proofs.YtmgofhbdaopapaaDoor
open Go.RowKit

theorem len_of9 {b : ByteArray} (h : b.size ≤ maxLen) : b.data.toList.length ≤ 9223372036854775807 := by
  unfold maxLen at h
  have : b.data.toList.length = b.size := rfl
  omega
theorem articleTables_u (b : ByteArray) (w : World) (hS : Ready9 w) (h : b.size ≤ maxLen) :
    Calls Tryd.prog 3 #[.string b] w fun e w' => e = .returned (.bool true) ∧ Below w.heap.size w w' := by
  rw [← str_data b]
  exact articleTables_v b.data.toList w hS (len_of9 h)

end Go.Proofs.YtmgofhbdaopapaaDoor

namespace Go.Proofs.YtmgofhbdaopapaaDoor
open Go.RowKit Go.Shelf Go.Lib

theorem reads_flat {P : Program} {w : World} {n : String} {dd : DataW Unit} (h : VarReads P w n dd) {g t : Nat} (hg : P.globalNamed n = some g) (ht : (P.globals[g]?).map (·.type) = some t) (hp : plainTy P 8 t = true) :
    ∃ u fz, w.heap[g]? = some (.cells (flat dd).toArray u fz) := by
  obtain ⟨g', t', cs, fuel, p, hg', ht', hvar, hd⟩ := h
  obtain rfl := Option.some.inj (hg.symm.trans hg')
  obtain rfl := Option.some.inj (ht.symm.trans ht')
  have h1 := flat_of_trod 8 fuel t _ dd p hp hd
  unfold World.var? at hvar
  rw [hg] at hvar
  simp only [Option.bind_some] at hvar
  split at hvar
  · rename_i cs' u fz hh
    cases hvar
    refine ⟨u, fz, ?_⟩
    rw [hh, ← h1]
  · cases hvar
theorem ready9_of {laid : List (String × DataW Unit)} {W : World} (hL : laidMet Tryd.prog laid W) (hm : ("bookplate/repertoire.spans", Rows.laid_bookplate_repertoire_spans) ∈ laid) : Ready9 W := by
  have r1 : VarReads Tryd.prog W "bookplate/repertoire.spans" Rows.laid_bookplate_repertoire_spans := laidMet.reads hL hm
  obtain ⟨u, fz, h1⟩ := reads_flat r1 (g := 0) (t := 103) (by kernel_rfl) (by kernel_rfl) (by kernel_rfl)
  have e : (flat (Rows.laid_bookplate_repertoire_spans (H := Unit))).toArray = spanCells := by kernel_rfl
  rw [e] at h1
  exact ⟨u, fz, h1⟩
theorem maxLen_cell {W : World} (hsh : W.ShapedOpen Tryd.prog) : ∃ m : Int, W.cell? ⟨3, 0, none⟩ = some (.int .i64 m) :=
  cell_of_shapedOpen_int (t := 3) (zero := #[.int .i64 0]) hsh (of_decide_eq_true (by kernel_rfl)) (by kernel_rfl) rfl (by kernel_rfl) (by kernel_rfl) Tryd.underlying3

end Go.Proofs.YtmgofhbdaopapaaDoor

namespace Go.Proofs.YtmgofhbdaopapaaDoor
open Go.RowKit

theorem cell_block {W : World} {a : Addr} {v : Value} (h : W.cell? a = some v) : a.block < W.heap.size := World.block_lt_of_cell? W a h

theorem arr_of_ints {W : World} {x : Addr} {l c : Nat} {zs : List Int} (hl : l ≤ c) (hz : zs.length = c) (hcell : ∀ i, i < zs.length → W.cell? (x.add i) = some (.int .i64 (zs.getD i 0))) :
    ∃ xs, Arr iv W W.heap.size (.slice (some x) l c) xs ∧ xs.length = l := by
  have hlen : (zs.take l).length = l := by rw [List.length_take]; omega
  refine ⟨zs.take l, .inr ⟨x, c, by rw [hlen], by rw [hlen]; exact hl, fun h0 => ?_, fun i u hu => ?_⟩, hlen⟩
  · rw [hlen] at h0
    have := cell_block (hcell 0 (by omega))
    rwa [add_block] at this
  · have hi : i < l := by rw [← hlen]; exact (List.getElem?_eq_some_iff.1 hu).1
    rw [hcell i (by omega)]
    rw [List.getElem?_take, if_pos hi, List.getElem?_eq_getElem (show i < zs.length by omega)] at hu
    simp only [Option.some.injEq] at hu
    have hz' : zs.getD i 0 = zs[i]'(by omega) := by simp [List.getD, List.getElem?_eq_getElem (show i < zs.length by omega)]
    rw [hz', hu]
    rfl

theorem open_i {W : World} {x : Addr} {l c : Nat} {zs : List Int} (hl : l ≤ c) (hm : c ≤ maxLen) (hz : zs.length = c) (hcell : ∀ i, i < zs.length → W.cell? (x.add i) = some (.int .i64 (zs.getD i 0))) :
    ∃ xs, Arr iv W W.heap.size (.slice (some x) l c) xs ∧ xs.length = l ∧ l ≤ 9223372036854775807 := by
  obtain ⟨xs, h1, h2⟩ := arr_of_ints hl hz hcell
  unfold maxLen at hm
  exact ⟨xs, h1, h2, by omega⟩

theorem arr_of_texts {W : World} {x : Addr} {l c : Nat} {ss : List ByteArray} (hl : l ≤ c) (hz : l ≤ ss.length) (hcell : ∀ i, i < ss.length → W.cell? (x.add i) = some (.string (ss.getD i ByteArray.empty)))
    (hws : ∀ s ∈ ss, s.size ≤ maxLen) : ∃ xs, Arr sv W W.heap.size (.slice (some x) l c) xs ∧ xs.length = l ∧ ∀ s ∈ xs, s.length ≤ maxLen := by
  have hlen : ((ss.take l).map fun b => b.data.toList).length = l := by rw [List.length_map, List.length_take]; omega
  refine ⟨(ss.take l).map fun b => b.data.toList, .inr ⟨x, c, by rw [hlen], by rw [hlen]; exact hl, fun h0 => ?_, fun i u hu => ?_⟩, hlen, fun s hs => ?_⟩
  · rw [hlen] at h0
    have := cell_block (hcell 0 (by omega))
    rwa [add_block] at this
  · have hi : i < l := by rw [← hlen]; exact (List.getElem?_eq_some_iff.1 hu).1
    rw [hcell i (by omega)]
    rw [List.getElem?_map, List.getElem?_take, if_pos hi, List.getElem?_eq_getElem (show i < ss.length by omega)] at hu
    simp only [Option.map_some, Option.some.injEq] at hu
    have hz' : ss.getD i ByteArray.empty = ss[i]'(by omega) := by simp [List.getD, List.getElem?_eq_getElem (show i < ss.length by omega)]
    rw [hz', ← hu]
    unfold sv
    rw [str_data]
  · obtain ⟨b, hb, rfl⟩ := List.mem_map.1 hs
    have := hws b (List.mem_of_mem_take hb)
    exact this
theorem open_t {W : World} {x : Addr} {l c : Nat} {ss : List ByteArray} (hl : l ≤ c) (hm : c ≤ maxLen) (hz : l ≤ ss.length) (hcell : ∀ i, i < ss.length → W.cell? (x.add i) = some (.string (ss.getD i ByteArray.empty)))
    (hws : ∀ s ∈ ss, s.size ≤ maxLen) : ∃ xs, Arr sv W W.heap.size (.slice (some x) l c) xs ∧ xs.length = l ∧ l ≤ 9223372036854775807 ∧ ∀ s ∈ xs, s.length ≤ maxLen := by
  obtain ⟨bs, h1, h2, h3⟩ := arr_of_texts hl hz hcell hws
  unfold maxLen at hm
  exact ⟨bs, h1, h2, by omega, h3⟩

theorem open_b8 {W : World} {x : Addr} {l c : Nat} {zs : List Int} (hl : l ≤ c) (hm : c ≤ maxLen) (hz : zs.length = c) (hcell : ∀ i, i < zs.length → W.cell? (x.add i) = some (.int .u8 (zs.getD i 0)))
    (hwz : ∀ n ∈ zs, (Lit.int .u8 n).wf = true) : ∃ bs, Arr bv W W.heap.size (.slice (some x) l c) bs ∧ bs.length = l ∧ l ≤ 9223372036854775807 := by
  have hlen : ((zs.take l).map fun z => UInt8.ofNat z.toNat).length = l := by rw [List.length_map, List.length_take]; omega
  unfold maxLen at hm
  refine ⟨(zs.take l).map fun z => UInt8.ofNat z.toNat, .inr ⟨x, c, by rw [hlen], by rw [hlen]; exact hl, fun h0 => ?_, fun i u hu => ?_⟩, hlen, by omega⟩
  · rw [hlen] at h0
    have := cell_block (hcell 0 (by omega))
    rwa [add_block] at this
  · have hi : i < l := by rw [← hlen]; exact (List.getElem?_eq_some_iff.1 hu).1
    rw [hcell i (by omega)]
    rw [List.getElem?_map, List.getElem?_take, if_pos hi, List.getElem?_eq_getElem (show i < zs.length by omega)] at hu
    simp only [Option.map_some, Option.some.injEq] at hu
    have hz' : zs.getD i 0 = zs[i]'(by omega) := by simp [List.getD, List.getElem?_eq_getElem (show i < zs.length by omega)]
    rw [hz']
    have hb := Go.bounds_u8 (hwz _ (List.getElem_mem (show i < zs.length by omega)))
    subst hu
    unfold bv
    rw [UInt8.toNat_ofNat', Nat.mod_eq_of_lt (by omega), Int.toNat_of_nonneg hb.1]

end Go.Proofs.YtmgofhbdaopapaaDoor
