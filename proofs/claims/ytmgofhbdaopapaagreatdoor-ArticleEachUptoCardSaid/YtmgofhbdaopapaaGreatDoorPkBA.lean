/-
  The body of ArticleSort.
  Arguments that came in: slices of integers as lists, strings.
  The body of ArticleOthers.
  A region that draws its order, whose own operations only read, and whose callees
  may do whatever leaves the blocks that were there as they were: one walk, by the
  kit's theorem over whatever class of worlds, at the class 'the blocks that were
  there stand as they stood'.
-/
import Derived.Test.YtmgofhbdaopapaaGreatDoorPkAZ
import Derived.Test.YtmgofhbdaopapaaGreatDoorWords
import Derived.ProofKit
import Derived.OpenShut
import Derived.SliceStrings
import Derived.ChangeArms
import Derived.Test.YtmgofhbdaopapaaGreatDoorPkAI
import Derived.Deep.QuietTactic
namespace Go.Proofs.YtmgofhbdaopapaaGreatDoor
open Go.RowKit

set_option maxRecDepth 20000 in
set_option maxHeartbeats 3200000 in
theorem refCount9_any (s : List UInt8) (w : World) (hs : s.length ≤ 1000000) :
    Calls Tryz.prog 18 #[.string (str s)] w fun e w' => e = .returned (.int .i64 (countR s : Int)) ∧ Below w.heap.size w w' := by
  have HD := Lib.hid (refDecode_any s w (by omega))
  cases hd : decR s with
  | none =>
    rw [hd] at HD
    rw [countR_none hd]
    clear hd
    go_enter Tryz.func18, Tryz.ntmps18
    go_wp2_with fail
    refine HD.out.mono ?_
    rintro e w1 ⟨hde, k1⟩
    obtain rfl := show e = _ from hde
    go_wp2
    go_ret
    exact ⟨rfl, k1⟩
  | some l =>
    rw [hd] at HD
    rw [countR_some hd]
    clear hd
    go_enter Tryz.func18, Tryz.ntmps18
    go_wp2_with fail
    refine HD.out.mono ?_
    rintro e w1 ⟨hde, k1⟩
    obtain ⟨A1, n1, c1, b1, rfl, hc⟩ := hde.form
    rcases hc with ⟨rfl, l2, e2, rfl, -, -⟩ | ⟨_, e2, -⟩
    · obtain rfl := Option.some.inj e2
      clear hde e2
      go_wp2
      go_ret
      exact ⟨rfl, k1⟩
    · cases e2

theorem count_le9 (s : List UInt8) : countR s ≤ s.length := by
  cases h : decR s with
  | none => rw [countR_none h]; exact Nat.zero_le _
  | some l => rw [countR_some h]; exact dec_len h
theorem lang3 {k : Nat} {x : List UInt8} (h : langT[k]? = some x) : x.length = 3 := by
  have h1 : (langT.all fun x => x.length == 3) = true := by decide +kernel
  have := List.all_eq_true.1 h1 x (List.mem_of_getElem? h)
  simpa using this

set_option maxRecDepth 20000 in
set_option maxHeartbeats 6400000 in
theorem articleSort_v (s : List UInt8) (n : Int) (a : Nat) (w : World) (hS : Ready9 w) (hn9 : n ≤ 9223372036854775807) (h1 : s.length ≤ 9223372036854775807) (ha : a < 256) :
    Calls Tryz.prog 4 #[.string (str s), .int .i64 n, .int .u8 (a : Int)] w fun e w' => e = .returned (.bool true) ∧ Below w.heap.size w w' := by
  have HAw := Lib.hid (awake9_any w hS)
  have z1 : (str s).size = s.length := rfl
  by_cases g1 : 80 < s.length
  · have t1 : decide ((80 : Int) < (s.length : Int)) = true := decide_eq_true (by omega)
    have t1n : decide (80 < s.length) = true := decide_eq_true g1
    clear g1
    go_enter Tryz.func4, Tryz.ntmps4
    go_wp2_with fail
    refine HAw.out.mono ?_
    rintro e w1 ⟨rfl, k1⟩
    go_wp2
    go_ret
    exact ⟨rfl, k1⟩
  have t1 : decide ((80 : Int) < (s.length : Int)) = false := decide_eq_false (by omega)
  have t1n : decide (80 < s.length) = false := decide_eq_false g1
  obtain ⟨k, hk⟩ : ∃ k, a % 10 = k := ⟨_, rfl⟩
  have hk10 : k < 10 := by omega
  have hmod : (a : Int) % 10 = (k : Int) := by omega
  have kz : (k : Int) < 10 := by omega
  have kz0 : (0 : Int) ≤ (k : Int) := by omega
  obtain ⟨lang, hlang⟩ : ∃ x, langT[k]? = some x := ⟨_, List.getElem?_eq_getElem (by have h9 : langT.length = 10 := rfl; omega)⟩
  have hle : skipN lang s ≤ s.length := (begin_le lang s).2
  have hsl := fun W => str_pre (P := Tryz.prog) 9 Tryz.underlying9 s (skipN lang s) hle W
  have P1 := Lib.hid (fun W (hW : Below w.heap.size w W) => prSort9_any s n W (hS.below hW) hn9 (by omega))
  have R1 := Lib.hid (fun W => refSort9_any s n W (by omega))
  have RL := Lib.hid (fun W => refLanguages_any W)
  have R2 := Lib.hid (fun W => refSkip9_any lang s W (by omega))
  have R3 := Lib.hid (fun W => refCount9_any (s.take (skipN lang s)) W (by rw [List.length_take]; omega))
  have P4 := Lib.hid (fun W (hW : Below w.heap.size w W) => prSort9_any s (countR (s.take (skipN lang s)) : Int) W (hS.below hW) (by have h1 := count_le9 (s.take (skipN lang s)); rw [List.length_take] at h1; omega) (by omega))
  have P5 := Lib.hid (fun W (hW : Below w.heap.size w W) => prStrip9_any lang s W (hS.below hW) (by have := lang3 hlang; omega) (by omega))
  have HA : Hid (skipN lang s ≠ 0 → countR (s.take (skipN lang s)) ≤ 9 → sortA s (countR (s.take (skipN lang s)) : Int) = stripN lang s) := Lib.hid (fun h1 h2 => art_sort h1 h2)
  obtain ⟨C, hC⟩ : ∃ C, countR (s.take (skipN lang s)) = C := ⟨_, rfl⟩
  rw [hC] at R3 P4 HA
  obtain ⟨at_, hat⟩ : ∃ C, skipN lang s = C := ⟨_, rfl⟩
  rw [hat] at R2 R3 HA hsl hle
  obtain ⟨X1, e1⟩ : ∃ X, sortA s n = X := ⟨_, rfl⟩
  rw [e1] at P1 R1
  obtain ⟨X4, e4⟩ : ∃ X, sortA s (C : Int) = X := ⟨_, rfl⟩
  rw [e4] at P4 HA
  obtain ⟨X5, e5⟩ : ∃ X, stripN lang s = X := ⟨_, rfl⟩
  rw [e5] at P5 HA
  have q1 : ((str X1).toList == (str X1).toList) = true := beq_self_eq_true _
  have q5 : ((str X5).toList == (str X5).toList) = true := beq_self_eq_true _
  have HLg := Lib.hid hlang
  clear g1 hC hat e1 e4 e5 hk hlang
  go_enter Tryz.func4, Tryz.ntmps4
  go_wp2_with fail
  refine HAw.out.mono ?_
  rintro e w1 ⟨rfl, k1⟩
  go_wp2_with fail
  refine (P1.out _ k1).mono ?_
  rintro e w2 ⟨rfl, k2⟩
  have b2 := below_next k1 k2
  go_wp2_with fail
  refine (R1.out _).mono ?_
  rintro e w3 ⟨rfl, k3⟩
  have b3 := below_next b2 k3
  go_wp2_with fail
  refine (RL.out _).mono ?_
  rintro e w4 ⟨A4, rfl, hA4, k4⟩
  have b4 := below_next b3 k4
  obtain ⟨b0, o0, rfl, hB0, hc0⟩ := hA4.some_ (by omega)
  have d0 : w4.cell? ⟨b0, o0 + k, none⟩ = some (.string (str lang)) := hc0 k lang HLg.out
  clear hc0 hA4
  go_wp2_with fail
  refine (R2.out _).mono ?_
  rintro e w5 ⟨rfl, k5⟩
  have b5 := below_next b4 k5
  go_wp2_with fail
  refine (R3.out _).mono ?_
  rintro e w6 ⟨rfl, k6⟩
  have b6 := below_next b5 k6
  by_cases z0 : at_ = 0
  · subst z0
    go_wp2
    go_ret
    exact ⟨rfl, b6⟩
  have u0 : ((at_ : Int) == 0) = false := eqb_false (by omega)
  by_cases z9 : 9 < C
  · have u9 : decide ((9 : Int) < (C : Int)) = true := decide_eq_true (by omega)
    have u9n : decide (9 < C) = true := decide_eq_true z9
    clear z0 z9
    go_wp2
    go_ret
    exact ⟨rfl, b6⟩
  have u9 : decide ((9 : Int) < (C : Int)) = false := decide_eq_false (by omega)
  have u9n : decide (9 < C) = false := decide_eq_false z9
  have hX := HA.out z0 (by omega)
  subst hX
  clear z0 z9
  go_wp2_with fail
  refine (P4.out _ b6).mono ?_
  rintro e w7 ⟨rfl, k7⟩
  have b7 := below_next b6 k7
  go_wp2_with fail
  refine (P5.out _ b7).mono ?_
  rintro e w8 ⟨rfl, k8⟩
  go_wp2
  go_ret
  exact ⟨rfl, below_next b7 k8⟩

end Go.Proofs.YtmgofhbdaopapaaGreatDoor

namespace Go.Proofs.YtmgofhbdaopapaaGreatDoor
open Go.RowKit

theorem cell_block {W : World} {a : Addr} {v : Value} (h : W.cell? a = some v) : a.block < W.heap.size := World.block_lt_of_cell? W a h

theorem arr_of_ints {W : World} {x : Addr} {l c : Nat} {zs : List Int} (hl : l ≤ c) (hz : zs.length = c) (hcell : ∀ i, i < zs.length → W.cell? (x.add i) = some (.int .i64 (zs.getD i 0))) :
    ∃ xs, Arr iv W W.heap.size (.slice (some x) l c) xs ∧ xs.length = l := by
  have hlen : (zs.take l).length = l := by rw [List.length_take]; omega
  refine ⟨zs.take l, .inr ⟨x, c, by rw [hlen], by rw [hlen]; exact hl, fun h0 => ?_, fun i u hu => ?_⟩, hlen⟩
  · rw [hlen] at h0
    have := cell_block (hcell 0 (by omega))
    rwa [add_block] at this
  · have hi : i < l := by rw [← hlen]; exact (List.getElem?_eq_some_iff.1 hu).1
    rw [hcell i (by omega)]
    rw [List.getElem?_take, if_pos hi, List.getElem?_eq_getElem (show i < zs.length by omega)] at hu
    simp only [Option.some.injEq] at hu
    have hz' : zs.getD i 0 = zs[i]'(by omega) := by simp [List.getD, List.getElem?_eq_getElem (show i < zs.length by omega)]
    rw [hz', hu]
    rfl

theorem open_i {W : World} {x : Addr} {l c : Nat} {zs : List Int} (hl : l ≤ c) (hm : c ≤ maxLen) (hz : zs.length = c) (hcell : ∀ i, i < zs.length → W.cell? (x.add i) = some (.int .i64 (zs.getD i 0))) :
    ∃ xs, Arr iv W W.heap.size (.slice (some x) l c) xs ∧ xs.length = l ∧ l ≤ 9223372036854775807 := by
  obtain ⟨xs, h1, h2⟩ := arr_of_ints hl hz hcell
  unfold maxLen at hm
  exact ⟨xs, h1, h2, by omega⟩

theorem arr_of_texts {W : World} {x : Addr} {l c : Nat} {ss : List ByteArray} (hl : l ≤ c) (hz : l ≤ ss.length) (hcell : ∀ i, i < ss.length → W.cell? (x.add i) = some (.string (ss.getD i ByteArray.empty)))
    (hws : ∀ s ∈ ss, s.size ≤ maxLen) : ∃ xs, Arr sv W W.heap.size (.slice (some x) l c) xs ∧ xs.length = l ∧ ∀ s ∈ xs, s.length ≤ maxLen := by
  have hlen : ((ss.take l).map fun b => b.data.toList).length = l := by rw [List.length_map, List.length_take]; omega
  refine ⟨(ss.take l).map fun b => b.data.toList, .inr ⟨x, c, by rw [hlen], by rw [hlen]; exact hl, fun h0 => ?_, fun i u hu => ?_⟩, hlen, fun s hs => ?_⟩
  · rw [hlen] at h0
    have := cell_block (hcell 0 (by omega))
    rwa [add_block] at this
  · have hi : i < l := by rw [← hlen]; exact (List.getElem?_eq_some_iff.1 hu).1
    rw [hcell i (by omega)]
    rw [List.getElem?_map, List.getElem?_take, if_pos hi, List.getElem?_eq_getElem (show i < ss.length by omega)] at hu
    simp only [Option.map_some, Option.some.injEq] at hu
    have hz' : ss.getD i ByteArray.empty = ss[i]'(by omega) := by simp [List.getD, List.getElem?_eq_getElem (show i < ss.length by omega)]
    rw [hz', ← hu]
    unfold sv
    rw [str_data]
  · obtain ⟨b, hb, rfl⟩ := List.mem_map.1 hs
    have := hws b (List.mem_of_mem_take hb)
    exact this
theorem open_t {W : World} {x : Addr} {l c : Nat} {ss : List ByteArray} (hl : l ≤ c) (hm : c ≤ maxLen) (hz : l ≤ ss.length) (hcell : ∀ i, i < ss.length → W.cell? (x.add i) = some (.string (ss.getD i ByteArray.empty)))
    (hws : ∀ s ∈ ss, s.size ≤ maxLen) : ∃ xs, Arr sv W W.heap.size (.slice (some x) l c) xs ∧ xs.length = l ∧ l ≤ 9223372036854775807 ∧ ∀ s ∈ xs, s.length ≤ maxLen := by
  obtain ⟨bs, h1, h2, h3⟩ := arr_of_texts hl hz hcell hws
  unfold maxLen at hm
  exact ⟨bs, h1, h2, by omega, h3⟩

theorem open_b8 {W : World} {x : Addr} {l c : Nat} {zs : List Int} (hl : l ≤ c) (hm : c ≤ maxLen) (hz : zs.length = c) (hcell : ∀ i, i < zs.length → W.cell? (x.add i) = some (.int .u8 (zs.getD i 0)))
    (hwz : ∀ n ∈ zs, (Lit.int .u8 n).wf = true) : ∃ bs, Arr bv W W.heap.size (.slice (some x) l c) bs ∧ bs.length = l ∧ l ≤ 9223372036854775807 := by
  have hlen : ((zs.take l).map fun z => UInt8.ofNat z.toNat).length = l := by rw [List.length_map, List.length_take]; omega
  unfold maxLen at hm
  refine ⟨(zs.take l).map fun z => UInt8.ofNat z.toNat, .inr ⟨x, c, by rw [hlen], by rw [hlen]; exact hl, fun h0 => ?_, fun i u hu => ?_⟩, hlen, by omega⟩
  · rw [hlen] at h0
    have := cell_block (hcell 0 (by omega))
    rwa [add_block] at this
  · have hi : i < l := by rw [← hlen]; exact (List.getElem?_eq_some_iff.1 hu).1
    rw [hcell i (by omega)]
    rw [List.getElem?_map, List.getElem?_take, if_pos hi, List.getElem?_eq_getElem (show i < zs.length by omega)] at hu
    simp only [Option.map_some, Option.some.injEq] at hu
    have hz' : zs.getD i 0 = zs[i]'(by omega) := by simp [List.getD, List.getElem?_eq_getElem (show i < zs.length by omega)]
    rw [hz']
    have hb := Go.bounds_u8 (hwz _ (List.getElem_mem (show i < zs.length by omega)))
    subst hu
    unfold bv
    rw [UInt8.toNat_ofNat', Nat.mod_eq_of_lt (by omega), Int.toNat_of_nonneg hb.1]

end Go.Proofs.YtmgofhbdaopapaaGreatDoor

namespace Go.Proofs.YtmgofhbdaopapaaGreatDoor
open Go.RowKit

theorem contains_no {s sub : List UInt8} (h : Lib.contains s sub = false) : ¬ ∃ a b, s = a ++ sub ++ b := by
  rintro ⟨a, b, rfl⟩
  unfold Lib.contains at h
  have h1 := of_decide_eq_false h
  rcases Lib.index_spec (a ++ sub ++ b) sub with ⟨e, h2⟩ | ⟨i, e, _⟩
  · have h3 := h2 a.length (by rw [List.length_append, List.length_append]; omega)
    unfold Lib.occAt at h3
    rw [List.append_assoc, List.drop_left] at h3
    rw [List.isPrefixOf_iff_prefix.2 (List.prefix_append sub b)] at h3
    cases h3
  · rw [e] at h1
    omega
theorem contains_one {s : List UInt8} {c : UInt8} (h : Lib.contains s [c] = false) : c ∉ s := by
  intro hm
  obtain ⟨a, b, e⟩ := List.append_of_mem hm
  exact contains_no h ⟨a, b, by rw [e]; simp⟩
theorem arts_unknown {lang : List UInt8} (h : (langT.any fun x => x == lang) = false) : artsOf lang = [] := by
  unfold artsOf
  have hf : ((langT.zip artT).find? fun p => p.1 == lang) = none := by
    rw [List.find?_eq_none]
    intro p hp h1
    have h2 := List.any_eq_false.1 h p.1 (List.of_mem_zip hp).1
    exact h2 h1
  rw [hf]
  rfl
theorem contains9_any (s : List UInt8) (sub : ByteArray) (x : List UInt8) (hx : sub.data.toList = x) (m : Int) (w : World) (hs : s.length ≤ 1000) (hm : w.cell? ⟨1, 0, none⟩ = some (.int .i64 m)) :
    Calls Tryz.prog 26 #[.string (str s), .string sub] w fun e w' => e = .returned (.bool (Lib.contains s x)) ∧ Below w.heap.size w w' := by
  have h1 := Go.Proofs.Any.strings_Contains containsLays (str s) sub m w (by rw [str_size]; omega) hm
  have e1 : (str s).data.toList = s := by simp [str]
  rw [e1, hx] at h1
  refine Calls.mono (show Calls Tryz.prog 26 #[.string (str s), .string sub] w _ from h1) ?_
  rintro e w' ⟨rfl, rfl⟩
  exact ⟨rfl, Below.refl _ _⟩

set_option maxRecDepth 20000 in
set_option maxHeartbeats 6400000 in
theorem articleOthers_v (lang s : List UInt8) (w : World) (hS : Ready9 w) (hM : ∃ m : Int, w.cell? ⟨1, 0, none⟩ = some (.int .i64 m)) (h1 : lang.length ≤ 9223372036854775807) (h2 : s.length ≤ 9223372036854775807) :
    Calls Tryz.prog 7 #[.string (str lang), .string (str s)] w fun e w' => e = .returned (.bool true) ∧ Below w.heap.size w w' := by
  have HAw := Lib.hid (awake9_any w hS)
  have z1 : (str lang).size = lang.length := rfl
  have z2 : (str s).size = s.length := rfl
  by_cases g2 : 80 < s.length
  · have t2 : decide ((80 : Int) < (s.length : Int)) = true := decide_eq_true (by omega)
    have t2n : decide (80 < s.length) = true := decide_eq_true g2
    clear g2
    go_enter Tryz.func7, Tryz.ntmps7
    go_wp2_with fail
    refine HAw.out.mono ?_
    rintro e w1 ⟨rfl, k1⟩
    go_wp2
    go_ret
    exact ⟨rfl, k1⟩
  have t2 : decide ((80 : Int) < (s.length : Int)) = false := decide_eq_false (by omega)
  have t2n : decide (80 < s.length) = false := decide_eq_false g2
  by_cases g1 : 10 < lang.length
  · have t1 : decide ((10 : Int) < (lang.length : Int)) = true := decide_eq_true (by omega)
    have t1n : decide (10 < lang.length) = true := decide_eq_true g1
    clear g1 g2
    go_enter Tryz.func7, Tryz.ntmps7
    go_wp2_with fail
    refine HAw.out.mono ?_
    rintro e w1 ⟨rfl, k1⟩
    go_wp2
    go_ret
    exact ⟨rfl, k1⟩
  have t1 : decide ((10 : Int) < (lang.length : Int)) = false := decide_eq_false (by omega)
  have t1n : decide (10 < lang.length) = false := decide_eq_false g1
  obtain ⟨mM, hmM⟩ := hM
  have hMb := World.block_lt_of_cell? w _ hmM
  have RL := Lib.hid (fun W => refLanguages_any W)
  have HC1 := Lib.hid (fun W (hW : Below w.heap.size w W) => contains9_any s ⟨#[32]⟩ [32] rfl mM W (by omega) ((hW.cell (p := ⟨1, 0, none⟩) hMb).trans hmM))
  have HC2 := Lib.hid (fun W (hW : Below w.heap.size w W) => contains9_any s ⟨#[39]⟩ [39] rfl mM W (by omega) ((hW.cell (p := ⟨1, 0, none⟩) hMb).trans hmM))
  have HC3 := Lib.hid (fun W (hW : Below w.heap.size w W) => contains9_any s ⟨#[239, 188, 135]⟩ [239, 188, 135] rfl mM W (by omega) ((hW.cell (p := ⟨1, 0, none⟩) hMb).trans hmM))
  have P1 := Lib.hid (fun W (hW : Below w.heap.size w W) => prSkip9_any lang s W (hS.below hW) (by omega) (by omega))
  have P2 := Lib.hid (fun W (hW : Below w.heap.size w W) => prStrip9_any lang s W (hS.below hW) (by omega) (by omega))
  have P3 := Lib.hid (fun W (hW : Below w.heap.size w W) => prInvert9_any lang s W (hS.below hW) (by omega) (by omega))
  have HOth : Hid ((langT.any fun x => x == lang) = false ∨ (Lib.contains s [32] = false ∧ Lib.contains s [39] = false ∧ Lib.contains s [239, 188, 135] = false) → skipN lang s = 0 ∧ stripN lang s = s ∧ invN lang s = s) := Lib.hid (fun h => art_others (by
    rcases h with h | ⟨h1, h2, h3⟩
    · exact .inl (arts_unknown h)
    · exact .inr ⟨contains_one h1, contains_one h2, contains_no h3⟩))
  obtain ⟨C1, e1⟩ : ∃ C, Lib.contains s [32] = C := ⟨_, rfl⟩
  obtain ⟨C2, e2⟩ : ∃ C, Lib.contains s [39] = C := ⟨_, rfl⟩
  obtain ⟨C3, e3⟩ : ∃ C, Lib.contains s [239, 188, 135] = C := ⟨_, rfl⟩
  rw [e1] at HC1 HOth
  rw [e2] at HC2 HOth
  rw [e3] at HC3 HOth
  obtain ⟨X1, e4⟩ : ∃ X, skipN lang s = X := ⟨_, rfl⟩
  obtain ⟨X2, e5⟩ : ∃ X, stripN lang s = X := ⟨_, rfl⟩
  obtain ⟨X3, e6⟩ : ∃ X, invN lang s = X := ⟨_, rfl⟩
  rw [e4] at P1 HOth
  rw [e5] at P2 HOth
  rw [e6] at P3 HOth
  have qs : ((str s).toList == (str s).toList) = true := beq_self_eq_true _
  have HQ := Lib.hid (fun (a b : List UInt8) => strs_beq a b)
  clear g1 g2 e1 e2 e3 e4 e5 e6 hmM hMb hS
  go_enter Tryz.func7, Tryz.ntmps7
  go_wp2_with fail
  refine HAw.out.mono ?_
  rintro e w1 ⟨rfl, k1⟩
  go_wp2_with fail
  refine (RL.out _).mono ?_
  rintro e w2 ⟨A2, rfl, hA2, k2⟩
  have b2 := below_next k1 k2
  go_wp2
  go_loopw [5, 20] (fun f i wr => ∃ (k : Nat) (K : Bool), k ≤ 10 ∧ f = .bool K ∧ i = .int .i64 (k : Int) ∧ Hid (((langT.take k).any fun x => x == lang) = K) ∧ Below w2.heap.size w2 wr) (fun _ i _ => 10 - (intOf i).toNat)
  case atStart => exact ⟨0, false, by omega, rfl, rfl, Lib.hid rfl, Below.refl _ _⟩
  case round =>
    obtain ⟨k, K, hk, rfl, rfl, HK, hb⟩ := hrel
    have b3 := below_next b2 hb
    by_cases hlt : k < 10
    · have i1 : decide ((k : Int) < 10) = true := decide_eq_true (by omega)
      have i1n : decide (k < 10) = true := decide_eq_true hlt
      have kz : (k : Int) < 10 := by omega
      obtain ⟨b0, o0, rfl, hB0, hc0⟩ := hA2.some_ (by omega)
      obtain ⟨x, hx⟩ : ∃ a, langT[k]? = some a := ⟨_, List.getElem?_eq_getElem (by have h9 : langT.length = 10 := rfl; omega)⟩
      have d0 : wr.cell? ⟨b0, o0 + k, none⟩ = some (.string (str x)) := (hb.cell (p := ⟨b0, o0 + k, none⟩) hB0).trans (hc0 k x hx)
      have hq := HQ.out x lang
      have HK2 : Hid (((langT.take (k + 1)).any fun x => x == lang) = (K || (x == lang))) := Lib.hid (by rw [take_next hx, List.any_append, HK.out]; simp)
      have hqq : (x == lang) = decide (x = lang) := by
        by_cases h : x = lang
        · rw [decide_eq_true h]; simpa using h
        · rw [decide_eq_false h]; simpa using h
      rw [hqq] at HK2
      obtain ⟨q, hqv⟩ : ∃ q, decide (x = lang) = q := ⟨_, rfl⟩
      rw [hqv] at hq HK2
      clear hc0 hx hqq hqv
      cases K with
      | true =>
        go_wp2
        go_roundw
        case rel => exact ⟨k + 1, true, by omega, rfl, by go_num, HK2, hb⟩
        case measure => simp [intOf]; omega
      | false =>
        rw [Bool.false_or] at HK2
        go_wp2
        go_roundw
        case rel => exact ⟨k + 1, q, by omega, rfl, by go_num, HK2, hb⟩
        case measure => simp [intOf]; omega
    · obtain rfl : k = 10 := by omega
      obtain ⟨w3, hw3⟩ : ∃ y : World, y = wr := ⟨_, rfl⟩
      subst hw3
      have hKK : (langT.any fun x => x == lang) = K := HK.out
      clear hA2 HK
      cases K with
      | false =>
        obtain ⟨rfl, rfl, rfl⟩ := HOth.out (.inl hKK)
        clear hKK
        go_wp2_with fail
        refine (P1.out _ b3).mono ?_
        rintro e w4 ⟨rfl, k4⟩
        have b4 := below_next b3 k4
        go_wp2_with fail
        refine (P2.out _ b4).mono ?_
        rintro e w5 ⟨rfl, k5⟩
        have b5 := below_next b4 k5
        go_wp2_with fail
        refine (P3.out _ b5).mono ?_
        rintro e w6 ⟨rfl, k6⟩
        go_wp2
        go_ret
        exact ⟨rfl, below_next b5 k6⟩
      | true =>
        clear hKK
        go_wp2_with fail
        refine (HC1.out _ b3).mono ?_
        rintro e w4 ⟨rfl, k4⟩
        have b4 := below_next b3 k4
        cases C1 with
        | true =>
          go_wp2
          go_ret
          exact ⟨rfl, b4⟩
        | false =>
          go_wp2_with fail
          refine (HC2.out _ b4).mono ?_
          rintro e w5 ⟨rfl, k5⟩
          have b5 := below_next b4 k5
          cases C2 with
          | true =>
            go_wp2
            go_ret
            exact ⟨rfl, b5⟩
          | false =>
            go_wp2_with fail
            refine (HC3.out _ b5).mono ?_
            rintro e w6 ⟨rfl, k6⟩
            have b6 := below_next b5 k6
            cases C3 with
            | true =>
              go_wp2
              go_ret
              exact ⟨rfl, b6⟩
            | false =>
              obtain ⟨rfl, rfl, rfl⟩ := HOth.out (.inr (by simp))
              go_wp2_with fail
              refine (P1.out _ b6).mono ?_
              rintro e w7 ⟨rfl, k7⟩
              have b7 := below_next b6 k7
              go_wp2_with fail
              refine (P2.out _ b7).mono ?_
              rintro e w8 ⟨rfl, k8⟩
              have b8 := below_next b7 k8
              go_wp2_with fail
              refine (P3.out _ b8).mono ?_
              rintro e w9 ⟨rfl, k9⟩
              go_wp2
              go_ret
              exact ⟨rfl, below_next b8 k9⟩

end Go.Proofs.YtmgofhbdaopapaaGreatDoor

namespace Go.Proofs.YtmgofhbdaopapaaGreatDoor
open Go.RowKit

/-- How a world of the class differs from the one at hand: what was drawn, the blocks behind. -/
structure Reach where
  d : Nat
  os : Array Obj

instance : Inhabited Reach := ⟨⟨0, #[]⟩⟩

def reach (w : World) (p : Reach) : World := { w with heap := w.heap ++ p.os, drawn := p.d }

theorem below_reach (w : World) (p : Reach) : Below w.heap.size w (reach w p) :=
  ⟨rfl, rfl, rfl, by show w.heap.size ≤ (w.heap ++ p.os).size; rw [Array.size_append]; omega, fun i hi => by
    show (w.heap ++ p.os)[i]? = w.heap[i]?
    rw [Array.getElem?_append_left hi]⟩

theorem reach_of_below {w w' : World} (h : Below w.heap.size w w') : ∃ p : Reach, w' = reach w p := by
  refine ⟨⟨w'.drawn, w'.heap.extract w.heap.size w'.heap.size⟩, ?_⟩
  have hh : w'.heap = w.heap ++ w'.heap.extract w.heap.size w'.heap.size := by
    apply Array.ext_getElem?
    intro i
    by_cases hi : i < w.heap.size
    · rw [Array.getElem?_append_left hi]; exact h.block i hi
    · rw [Array.getElem?_append_right (by omega), Array.getElem?_extract]
      have := h.size
      by_cases hj : i < w'.heap.size
      · rw [if_pos (by omega)]; congr 1; omega
      · rw [if_neg (by omega)]; exact Array.getElem?_eq_none (by omega)
  have ho := h.os; have ht := h.tape; have hp := h.output
  cases w'; cases w
  simp only at ho ht hp hh
  subst ho ht hp
  show World.mk _ _ _ _ _ = World.mk _ _ _ _ _
  congr 1

theorem cell_reach {w : World} {a : Addr} {v : Value} (hb : a.block < w.heap.size) (h : w.cell? a = some v) (p : Reach) : (reach w p).cell? a = some v :=
  ((below_reach w p).cell hb).trans h

theorem wp_region_reach {P : Program} {id : Nat} {Q : Exit → Act → World → Prop} {a : Act} {w : World} {l : List Oper} (hm : P.follows .mixedOrders = true) (hB : Region.lexB .any l.toArray = true)
    (h : wpQuiet P l.toArray (fun w' => ∃ p : Reach, w' = reach w p) (fun a' => ∀ w', (∃ p : Reach, w' = reach w p) → Q .normal a' w') l a) : (Code.region id l.toArray true).wp P Q a w :=
  wp_region_quiet (C := fun w' => ∃ p : Reach, w' = reach w p) hm hB (reach_of_below ⟨rfl, rfl, rfl, Nat.le_refl _, fun _ _ => rfl⟩) (by simpa using h)

theorem calls_reach {P : Program} {f : FuncId} {args : Array Value} {w : World} {p : Reach} {v : Value}
    (h : Calls P f args (reach w p) fun e w' => e = .returned v ∧ Below (reach w p).heap.size (reach w p) w') : Calls P f args (reach w p) fun e w'' => e = .returned v ∧ ∃ p : Reach, w'' = reach w p :=
  h.mono fun _ _ ⟨he, hq⟩ => ⟨he, reach_of_below (below_next (below_reach w p) hq)⟩

end Go.Proofs.YtmgofhbdaopapaaGreatDoor
