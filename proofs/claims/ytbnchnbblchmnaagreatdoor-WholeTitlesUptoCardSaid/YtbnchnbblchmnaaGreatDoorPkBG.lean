/-
  What the document promises through the layers of titles and search forms, as plain mathematics.
  The body of WholeSearchForms.
  Arguments that came in: slices of integers as lists, strings.
  An argument that is a slice of structs, as a list: given how one element reads.
  An argument that is a slice of words.
  TokenSets and WholeSearchForms at arguments as the model holds them.
  What the listed variables say of the tables when a call begins.
  Blanks, step by step.
  The reference's spaces, begin.
  The reference's begin.
-/
import Derived.Test.YtbnchnbblchmnaaGreatDoorPkAL
import Derived.Test.YtbnchnbblchmnaaGreatDoorPkBF
import Derived.Test.YtbnchnbblchmnaaGreatDoorPkAZ
import Derived.Test.YtbnchnbblchmnaaGreatDoorPkAY
import Derived.Test.YtbnchnbblchmnaaGreatDoorPkAB
import Derived.ProofKit
import Derived.OpenShut
import Derived.SliceStrings
import Derived.ChangeArms
import Derived.Deep.Slices
import Derived.Lib.SmallJoins
import Derived.Test.YtbnchnbblchmnaaGreatDoorProg
import Derived.ChangeSame
import Derived.Test.YtbnchnbblchmnaaGreatDoorPkBD
import Derived.Test.YtbnchnbblchmnaaGreatDoorPkAW
import Derived.Test.YtbnchnbblchmnaaGreatDoorPkAK
import Derived.Test.YtbnchnbblchmnaaGreatDoorRows
import Derived.Test.YtbnchnbblchmnaaGreatDoorPkAE
import Derived.Lib.LaidU8
import Derived.Lib.LaidU8T
import Derived.PinnedBridge
import Derived.Shelf.Vars
import Derived.Test.YtbnchnbblchmnaaGreatDoorPkAM
namespace Go.Proofs.YtbnchnbblchmnaaGreatDoor

/-! Primary weights of folded forms. -/
def primB (c : Nat) : Bool := !(is1 (wholeR c) c) || eqB (primL ((low1 c).flatMap singleL)) (primL (singleL c))
theorem chars_prim : (charL.all primB) = true := by kernel_rfl
theorem prim_single {c : Nat} (hc : hasN c = true) (hw : wholeR c = [c]) : primL ((low1 c).flatMap singleL) = primL (singleL c) := by
  have h := List.all_eq_true.1 chars_prim c ((char_mem c).2 hc)
  unfold primB at h
  rw [is1_of hw] at h
  simp only [Bool.not_true, Bool.false_or] at h
  exact eqB_eq h
theorem prim_two9 (a b : List El) : primL (a ++ b) = primL a ++ primL b := by
  unfold primL
  rw [List.map_append, List.filter_append]
theorem prim_foldL : ∀ d : List Nat, (∀ c ∈ d, hasN c = true ∧ wholeR c = [c]) → primL ((foldL d).flatMap singleL) = primL (d.flatMap singleL)
  | [], _ => rfl
  | c :: d, h => by
    obtain ⟨h1, h2⟩ := h c List.mem_cons_self
    have ih := prim_foldL d fun x hx => h x (List.mem_cons_of_mem _ hx)
    have e : foldL (c :: d) = low1 c ++ foldL d := List.flatMap_cons
    rw [e, List.flatMap_append, prim_two9, prim_single h1 h2, ih, List.flatMap_cons, prim_two9]
theorem prim_fold {s : List UInt8} (hs : (decR s).isSome = true) : nPrim [] (nFold s) = nPrim [] s := by
  have hf : (decR (nFold s)).isSome = true := by
    unfold nFold
    rw [dec_enc _ (dec_ok (nFL_dec s))]
    rfl
  unfold nPrim
  rw [good_root hs, good_root hf, if_pos rfl, if_pos rfl]
  unfold elsT
  rw [nL_nFold, dc_dec (nFL_dec s), List.map_nil, elems_root, elems_root]
  exact prim_foldL _ (dc_facts s)

/-- A title behind its article. -/
theorem title_rest {lang : List UInt8} {all : List (List UInt8)} (hm : (lang, all) ∈ langT.zip artT) {a : List UInt8} (ha : a ∈ all) {t : List UInt8} (hd : (decR t).isSome = true) (h0 : t ≠ []) (h1 : t.head? ≠ some 32) :
    stripN lang (if apoB a = true then a ++ t else a ++ 32 :: t) = t := by
  by_cases hap : apoB a = true
  · rw [if_pos hap]
    exact (art_each2 hm ha (.inl rfl) hap hd h0 h1).1
  · rw [if_neg hap]
    exact (art_each1 hm ha (.inl rfl) (by simpa using hap) (k := 1) (by decide) hd h0 h1).1
theorem whole_titles {t : List UInt8} (hd : (decR t).isSome = true) : wordsP (nFold t) = wordsP t ∧ nPrim [] (nFold t) = nPrim [] t := by
  refine ⟨?_, prim_fold hd⟩
  unfold wordsP
  rw [texts_fold]

/-! A string's own words are a phrase of it, at its beginning. -/
theorem behind_own (l : List (List UInt8)) (hl : l.length ≤ 1000000) : ∀ (ws : List (List UInt8)) (k : Nat), l.drop k = ws → behindB (castW l.zipIdx) 0 k ws = true
  | [], _, _ => by rw [behindB]
  | w :: ws, k, h => by
    have hk : l[k]? = some w := by
      have h1 := congrArg (fun x => x[0]?) h
      simpa [List.getElem?_drop] using h1
    have hlt := (List.getElem?_eq_some_iff.1 hk).1
    have hnext : l.drop (k + 1) = ws := by
      have h1 := congrArg (List.drop 1) h
      rwa [List.drop_drop, List.drop_one, List.tail_cons] at h1
    have hin : (w, (0 : Int) + (k : Int)) ∈ castW l.zipIdx := cast_mem.2 ⟨k, by omega, by have := idx_in (k := 0) hk; rwa [Nat.zero_add] at this⟩
    rw [behindB, behind_own l hl ws (k + 1) hnext, decide_eq_true hin, decide_eq_true (by omega)]
    rfl
theorem own_phrase (s : List UInt8) (hl : (textsB s).length ≤ 1000000) (h0 : textsB s ≠ []) : ∃ m, phraseI (castW (wordsP s)) (textsB s) = 0 :: m := by
  obtain ⟨w, ws, hw⟩ : ∃ w ws, textsB s = w :: ws := by
    cases h : textsB s with
    | nil => exact absurd h h0
    | cons w ws => exact ⟨w, ws, rfl⟩
  have hin : (w, (0 : Int)) ∈ castW (wordsP s) := cast_mem.2 ⟨0, rfl, by
    have h1 : (textsB s)[0]? = some w := by rw [hw]; rfl
    have := idx_in (k := 0) h1
    exact this⟩
  have hmem : (0 : Int) ∈ phraseI (castW (wordsP s)) (textsB s) := by
    rw [hw]
    unfold phraseI
    refine List.mem_filter.2 ⟨find_mem.2 hin, ?_⟩
    exact behind_own (textsB s) hl ws 1 (by rw [hw]; rfl)
  have hasc : (phraseI (castW (wordsP s)) (textsB s)).Pairwise (· < ·) := by
    rw [hw]
    exact (find_asc _ w).filter _
  have hpos : ∀ p ∈ phraseI (castW (wordsP s)) (textsB s), 0 ≤ p := by
    intro p hp
    rw [hw] at hp
    unfold phraseI at hp
    obtain ⟨k, rfl, -⟩ := cast_mem.1 (find_mem.1 (List.mem_filter.1 hp).1)
    omega
  cases hP : phraseI (castW (wordsP s)) (textsB s) with
  | nil => rw [hP] at hmem; cases hmem
  | cons p m =>
    rw [hP] at hmem hasc hpos
    have h1 := hpos p List.mem_cons_self
    rcases List.mem_cons.1 hmem with e | h2
    · exact ⟨m, by rw [← e]⟩
    · have := (List.pairwise_cons.1 hasc).1 0 h2
      omega
theorem search_forms (s : List UInt8) : wordsP (nSearch s) = wordsP s := by
  unfold wordsP
  rw [texts_nSearch]

end Go.Proofs.YtbnchnbblchmnaaGreatDoor

namespace Go.Proofs.YtbnchnbblchmnaaGreatDoor
open Go.RowKit

theorem castT_len (l : List WordL) : (castW l).length = l.length := by unfold castW; rw [List.length_map]
theorem wordsT_len (s : List UInt8) : (castW (wordsP s)).length = (textsB s).length := by
  rw [castT_len]
  unfold wordsP
  rw [List.length_zipIdx]
theorem idxT_fst (l : List (List UInt8)) (k : Nat) : (l.zipIdx k).map Prod.fst = l := by simp
theorem joinT_words (s : List UInt8) : joinI (castW (wordsP s)) = nSearch s := by
  rw [search_join]
  unfold joinI castW wordsP
  rw [List.map_map]
  congr 1
  exact idxT_fst (textsB s) 0
theorem joinT_mem_len (c : UInt8) : ∀ (l : List (List UInt8)) (x : List UInt8), x ∈ l → x.length ≤ (joinG c l).length
  | [], x, h => by cases h
  | [y], x, h => by rw [List.mem_singleton.1 h]; simp [joinG]
  | y :: z :: l, x, h => by
    rw [joinG, List.length_append, List.length_cons]
    rcases List.mem_cons.1 h with rfl | h
    · omega
    · have := joinT_mem_len c (z :: l) x h
      omega
theorem textT_len {s x : List UInt8} (h : x ∈ textsB s) : x.length ≤ 48 * s.length := by
  have h1 := joinT_mem_len 32 _ x h
  rw [← search_join] at h1
  have h2 := nSearch_len s
  omega
theorem decEndT_tuple {W w' : World} {r : Option (List Nat)} {e : Ending} (h : DecEnd W r e w') : ∃ u, e = .returned (.tuple #[u, .bool r.isSome]) := by
  cases r with
  | none => exact ⟨_, h⟩
  | some l => obtain ⟨v, h1, _⟩ := h; exact ⟨v, h1⟩
theorem wordsT_range {s : List UInt8} (h : s.length ≤ 200) : ∀ x ∈ castW (wordsP s), x.1.length ≤ 10000 ∧ -9223372036854775808 ≤ x.2 ∧ x.2 ≤ 9223372036854775807 := by
  intro z hz
  unfold castW at hz
  obtain ⟨y, hy, rfl⟩ := List.mem_map.1 hz
  have h0 := idx_mem (k := 0) hy
  have h1 := h0.2.1
  have h3 := texts_len s
  have h2 := textT_len h0.2.2.2
  refine ⟨?_, ?_, ?_⟩
  · show y.1.length ≤ 10000
    omega
  · show -9223372036854775808 ≤ (y.2 : Int)
    omega
  · show (y.2 : Int) ≤ 9223372036854775807
    omega
theorem topE : castW (wordsP [195, 137]) = [([101], 0)] := by kernel_rfl

set_option maxRecDepth 20000 in
set_option maxHeartbeats 3200000 in
theorem wholeSearchForms_v (s : List UInt8) (w : World)
    (OW : ∀ (s : List UInt8) (W : World), Below w.heap.size w W → s.length ≤ 3000 →
      Calls Tryz.prog 13 #[.string (str s)] W fun e w' => ∃ A n c, e = .returned (.slice A n c) ∧ SArr 2 wv w' w'.heap.size (.slice A n c) (castW (wordsP s)) ∧ Below W.heap.size W w')
    (OT : ∀ (s : List UInt8) (W : World), Below w.heap.size w W → s.length ≤ 200 →
      Calls Tryz.prog 20 #[.string (str s)] W fun e w' => ∃ A n c, e = .returned (.slice A n c) ∧ Arr sv w' w'.heap.size (.slice A n c) (textsB s) ∧ Below W.heap.size W w')
    (OJ : ∀ (A : Option Addr) (n c : Nat) (l : List WordI) (W : World), Below w.heap.size w W → SArr 2 wv W W.heap.size (.slice A n c) l → n ≤ 10000000 → (joinI l).length ≤ 10000000 →
      Calls Tryz.prog 22 #[.slice A n c] W fun e w' => e = .returned (.string (str (joinI l))) ∧ Below W.heap.size W w')
    (OP : ∀ (A A' : Option Addr) (n c n' c' : Nat) (l : List WordI) (ws : List (List UInt8)) (W : World), Below w.heap.size w W → SArr 2 wv W W.heap.size (.slice A n c) l → Arr sv W W.heap.size (.slice A' n' c') ws → n ≤ 10000 → n' ≤ 10000 → (∀ x ∈ l, x.1.length ≤ 10000 ∧ -9223372036854775808 ≤ x.2 ∧ x.2 ≤ 9223372036854775807) → (∀ x ∈ ws, x.length ≤ 10000) →
      Calls Tryz.prog 11 #[.slice A n c, .slice A' n' c'] W fun e w' => ∃ A n c, e = .returned (.slice A n c) ∧ Arr iv w' w'.heap.size (.slice A n c) (phraseI l ws) ∧ Below W.heap.size W w')
    (OS : ∀ (s : List UInt8) (W : World), Below w.heap.size w W → s.length ≤ 200 →
      Calls Tryz.prog 21 #[.string (str s)] W fun e w' => e = .returned (.string (str (nSearch s))) ∧ Below W.heap.size W w')
    (h1 : s.length ≤ 1048576) :
    Calls Tryz.prog 5 #[.string (str s)] w fun e w' => e = .returned (.bool true) ∧ Below w.heap.size w w' := by
  have h0 := fun W hW => OW [195, 137] W hW (by decide)
  rw [topE] at h0
  have H0 := Lib.hid h0
  have z1 : (str s).size = s.length := rfl
  have hq1 : ∀ W, (binOp .neq 32 (.agg #[.string (str [101]), .int .i64 0]) (.agg #[.string ⟨#[101]⟩, .int .i64 0])).run Tryz.prog W = .ok (.bool false) W := fun W => neq_word [101] [101] 0 0 W
  have HD := Lib.hid (fun W => refDecode_any s W (by omega))
  clear h0
  go_enter Tryz.func5, Tryz.ntmps5
  go_wp2_with fail
  refine (H0.out _ (Below.refl _ _)).mono ?_
  rintro e w1 ⟨A1, n1, c1, rfl, hA1, k1⟩
  obtain rfl : n1 = 1 := hA1.len.symm
  obtain ⟨bl, ol, rfl, hBl, hcl⟩ := words_cells hA1 (by decide)
  have d1 : w1.cell? ⟨bl, ol, none⟩ = some (.string (str [101])) := (hcl 0 _ rfl).1
  have d2 : w1.cell? ⟨bl, ol + 1, none⟩ = some (.int .i64 0) := (hcl 0 _ rfl).2
  clear hcl hA1
  go_wp2_with fail
  refine (HD.out _).mono ?_
  rintro e w2 ⟨h2, k2⟩
  obtain ⟨u, rfl⟩ := decEndT_tuple h2
  have b2 := below_next k1 k2
  clear h2
  cases hr : (decR s).isSome with
  | false =>
    clear hr
    go_wp2
    go_ret
    exact ⟨rfl, b2⟩
  | true =>
    clear hr
    by_cases g1 : 60 < s.length
    · have t1 : decide ((60 : Int) < (s.length : Int)) = true := decide_eq_true (by omega)
      have t1n : decide (60 < s.length) = true := decide_eq_true g1
      clear g1
      go_wp2
      go_ret
      exact ⟨rfl, b2⟩
    have t1 : decide ((60 : Int) < (s.length : Int)) = false := decide_eq_false (by omega)
    have t1n : decide (60 < s.length) = false := decide_eq_false g1
    have hsl := nSearch_len s
    have P1 := Lib.hid (fun W hW => OW s W hW (by omega))
    have P2 := Lib.hid (fun W hW => OT s W hW (by omega))
    have P3 := Lib.hid (fun W hW => OS s W hW (by omega))
    have P4 := fun W hW => OW (nSearch s) W hW (by omega)
    rw [search_forms] at P4
    have P4 := Lib.hid P4
    have R3 := Lib.hid (fun W => refSearch_any s W (by omega))
    have hln1 : (castW (wordsP s)).length ≤ 10000 := by rw [wordsT_len]; have := texts_len s; omega
    have hlt1 : (castW (wordsP s)).length = (textsB s).length := wordsT_len s
    have hjl : (joinI (castW (wordsP s))).length ≤ 10000000 := by rw [joinT_words]; omega
    have P5 := fun A n c W hW hA hn => OJ A n c (castW (wordsP s)) W hW hA hn hjl
    rw [joinT_words] at P5
    have P5 := Lib.hid P5
    have P6 := Lib.hid (fun A A' n c n' c' W hW hA hA' hn hn' => OP A A' n c n' c' (castW (wordsP s)) (textsB s) W hW hA hA' hn hn' (wordsT_range (by omega)) (fun x hx => by have := textT_len hx; omega))
    have HOwn := Lib.hid (own_phrase s (by have := texts_len s; omega))
    obtain ⟨X, e1⟩ : ∃ X, nSearch s = X := ⟨_, rfl⟩
    obtain ⟨T, e2⟩ : ∃ X, textsB s = X := ⟨_, rfl⟩
    rw [e2] at P2 P6 HOwn hlt1
    obtain ⟨L, e3⟩ : ∃ X, castW (wordsP s) = X := ⟨_, rfl⟩
    rw [e1] at P3 P4 P5 R3
    rw [e3] at P1 P4 P5 P6 HOwn hln1 hlt1
    have q1 : ((str X).toList == (str X).toList) = true := beq_self_eq_true _
    clear g1 e1 e2 e3 hsl hjl OW OT OJ OP OS h1
    go_wp2_with fail
    refine (P1.out _ b2).mono ?_
    rintro e w3 ⟨A3, n3, c3, rfl, hA3, k3⟩
    have b3 := below_next b2 k3
    have HA3 := Lib.hid hA3
    clear hA3
    go_wp2_with fail
    refine (P2.out _ b3).mono ?_
    rintro e w4 ⟨A4, n4, c4, rfl, hA4, k4⟩
    have b4 := below_next b3 k4
    have HA4 := Lib.hid hA4
    have HW4 := Lib.hid (HA3.out.up k4)
    clear hA4
    have hn34 : n3 = n4 := by have h8 := HA3.out.len; have h9 := HA4.out.len; omega
    have hn3 : n3 ≤ 10000 := by have h8 := HA3.out.len; omega
    subst hn34
    go_wp2_with fail
    refine (P3.out _ b4).mono ?_
    rintro e w5 ⟨rfl, k5⟩
    have b5 := below_next b4 k5
    have HW5 := Lib.hid (HW4.out.up k5)
    have HT5 := Lib.hid (HA4.out.up k5)
    go_wp2_with fail
    refine (P4.out _ b5).mono ?_
    rintro e w6 ⟨A6, n6, c6, rfl, hA6, k6⟩
    have b6 := below_next b5 k6
    have HW6 := Lib.hid (HW5.out.up k6)
    have HT6 := Lib.hid (HT5.out.up k6)
    have HS1 := Lib.hid (refSame10_any A3 A6 n3 c3 n6 c6 L L w6 HW6.out hA6 (by omega) (by have := hA6.len; omega))
    rw [decide_eq_true rfl] at HS1
    clear hA6
    go_wp2_with fail
    refine HS1.out.mono ?_
    rintro e w7 ⟨rfl, k7⟩
    have b7 := below_next b6 k7
    have HW7 := Lib.hid (HW6.out.up k7)
    have HT7 := Lib.hid (HT6.out.up k7)
    go_wp2_with fail
    refine (P5.out _ _ _ _ b7 HW7.out (by omega)).mono ?_
    rintro e w8 ⟨rfl, k8⟩
    have b8 := below_next b7 k8
    have HW8 := Lib.hid (HW7.out.up k8)
    have HT8 := Lib.hid (HT7.out.up k8)
    go_wp2_with fail
    refine (R3.out _).mono ?_
    rintro e w9 ⟨rfl, k9⟩
    have b9 := below_next b8 k9
    have HW9 := Lib.hid (HW8.out.up k9)
    have HT9 := Lib.hid (HT8.out.up k9)
    have q2 : ((n3 : Int) != (n3 : Int)) = false := by simp
    go_wp2_with fail
    refine (P6.out _ _ _ _ _ _ _ b9 HW9.out HT9.out hn3 hn3).mono ?_
    rintro e w10 ⟨A10, n10, c10, rfl, hA10, k10⟩
    have b10 := below_next b9 k10
    by_cases h0 : n3 = 0
    · have j1 : ((n3 : Int) == 0) = true := eqb_true (by omega)
      have j1n : (n3 == 0) = true := by simp [h0]
      clear hA10 h0
      go_wp2
      go_ret
      exact ⟨rfl, b10⟩
    · have j1 : ((n3 : Int) == 0) = false := eqb_false (by omega)
      have j1n : (n3 == 0) = false := by simpa using h0
      obtain ⟨m, hm⟩ := HOwn.out (fun e => h0 (by rw [← HA4.out.len, e]; rfl))
      rw [hm] at hA10
      have hl := hA10.len
      rw [List.length_cons] at hl
      have j2 : decide ((0 : Int) < (n10 : Int)) = true := decide_eq_true (by omega)
      have j2n : decide (0 < n10) = true := decide_eq_true (by omega)
      have j3 : (0 : Int) < (n10 : Int) := by omega
      obtain ⟨b0, o0, rfl, hB0, hc0⟩ := hA10.some_ (by omega)
      have d3 : w10.cell? ⟨b0, o0, none⟩ = some (.int .i64 0) := hc0 0 _ rfl
      clear hc0 hA10 hm hl h0
      go_wp2
      go_ret
      exact ⟨rfl, b10⟩

end Go.Proofs.YtbnchnbblchmnaaGreatDoor

namespace Go.Proofs.YtbnchnbblchmnaaGreatDoor
open Go.RowKit

theorem cell_block {W : World} {a : Addr} {v : Value} (h : W.cell? a = some v) : a.block < W.heap.size := World.block_lt_of_cell? W a h

theorem arr_of_ints {W : World} {x : Addr} {l c : Nat} {zs : List Int} (hl : l ≤ c) (hz : zs.length = c) (hcell : ∀ i, i < zs.length → W.cell? (x.add i) = some (.int .i64 (zs.getD i 0))) :
    ∃ xs, Arr iv W W.heap.size (.slice (some x) l c) xs ∧ xs.length = l := by
  have hlen : (zs.take l).length = l := by rw [List.length_take]; omega
  refine ⟨zs.take l, .inr ⟨x, c, by rw [hlen], by rw [hlen]; exact hl, fun h0 => ?_, fun i u hu => ?_⟩, hlen⟩
  · rw [hlen] at h0
    have := cell_block (hcell 0 (by omega))
    rwa [add_block] at this
  · have hi : i < l := by rw [← hlen]; exact (List.getElem?_eq_some_iff.1 hu).1
    rw [hcell i (by omega)]
    rw [List.getElem?_take, if_pos hi, List.getElem?_eq_getElem (show i < zs.length by omega)] at hu
    simp only [Option.some.injEq] at hu
    have hz' : zs.getD i 0 = zs[i]'(by omega) := by simp [List.getD, List.getElem?_eq_getElem (show i < zs.length by omega)]
    rw [hz', hu]
    rfl

theorem open_i {W : World} {x : Addr} {l c : Nat} {zs : List Int} (hl : l ≤ c) (hm : c ≤ maxLen) (hz : zs.length = c) (hcell : ∀ i, i < zs.length → W.cell? (x.add i) = some (.int .i64 (zs.getD i 0))) :
    ∃ xs, Arr iv W W.heap.size (.slice (some x) l c) xs ∧ xs.length = l ∧ l ≤ 9223372036854775807 := by
  obtain ⟨xs, h1, h2⟩ := arr_of_ints hl hz hcell
  unfold maxLen at hm
  exact ⟨xs, h1, h2, by omega⟩

theorem arr_of_texts {W : World} {x : Addr} {l c : Nat} {ss : List ByteArray} (hl : l ≤ c) (hz : l ≤ ss.length) (hcell : ∀ i, i < ss.length → W.cell? (x.add i) = some (.string (ss.getD i ByteArray.empty)))
    (hws : ∀ s ∈ ss, s.size ≤ maxLen) : ∃ xs, Arr sv W W.heap.size (.slice (some x) l c) xs ∧ xs.length = l ∧ ∀ s ∈ xs, s.length ≤ maxLen := by
  have hlen : ((ss.take l).map fun b => b.data.toList).length = l := by rw [List.length_map, List.length_take]; omega
  refine ⟨(ss.take l).map fun b => b.data.toList, .inr ⟨x, c, by rw [hlen], by rw [hlen]; exact hl, fun h0 => ?_, fun i u hu => ?_⟩, hlen, fun s hs => ?_⟩
  · rw [hlen] at h0
    have := cell_block (hcell 0 (by omega))
    rwa [add_block] at this
  · have hi : i < l := by rw [← hlen]; exact (List.getElem?_eq_some_iff.1 hu).1
    rw [hcell i (by omega)]
    rw [List.getElem?_map, List.getElem?_take, if_pos hi, List.getElem?_eq_getElem (show i < ss.length by omega)] at hu
    simp only [Option.map_some, Option.some.injEq] at hu
    have hz' : ss.getD i ByteArray.empty = ss[i]'(by omega) := by simp [List.getD, List.getElem?_eq_getElem (show i < ss.length by omega)]
    rw [hz', ← hu]
    unfold sv
    rw [str_data]
  · obtain ⟨b, hb, rfl⟩ := List.mem_map.1 hs
    have := hws b (List.mem_of_mem_take hb)
    exact this
theorem open_t {W : World} {x : Addr} {l c : Nat} {ss : List ByteArray} (hl : l ≤ c) (hm : c ≤ maxLen) (hz : l ≤ ss.length) (hcell : ∀ i, i < ss.length → W.cell? (x.add i) = some (.string (ss.getD i ByteArray.empty)))
    (hws : ∀ s ∈ ss, s.size ≤ maxLen) : ∃ xs, Arr sv W W.heap.size (.slice (some x) l c) xs ∧ xs.length = l ∧ l ≤ 9223372036854775807 ∧ ∀ s ∈ xs, s.length ≤ maxLen := by
  obtain ⟨bs, h1, h2, h3⟩ := arr_of_texts hl hz hcell hws
  unfold maxLen at hm
  exact ⟨bs, h1, h2, by omega, h3⟩

theorem open_b8 {W : World} {x : Addr} {l c : Nat} {zs : List Int} (hl : l ≤ c) (hm : c ≤ maxLen) (hz : zs.length = c) (hcell : ∀ i, i < zs.length → W.cell? (x.add i) = some (.int .u8 (zs.getD i 0)))
    (hwz : ∀ n ∈ zs, (Lit.int .u8 n).wf = true) : ∃ bs, Arr bv W W.heap.size (.slice (some x) l c) bs ∧ bs.length = l ∧ l ≤ 9223372036854775807 := by
  have hlen : ((zs.take l).map fun z => UInt8.ofNat z.toNat).length = l := by rw [List.length_map, List.length_take]; omega
  unfold maxLen at hm
  refine ⟨(zs.take l).map fun z => UInt8.ofNat z.toNat, .inr ⟨x, c, by rw [hlen], by rw [hlen]; exact hl, fun h0 => ?_, fun i u hu => ?_⟩, hlen, by omega⟩
  · rw [hlen] at h0
    have := cell_block (hcell 0 (by omega))
    rwa [add_block] at this
  · have hi : i < l := by rw [← hlen]; exact (List.getElem?_eq_some_iff.1 hu).1
    rw [hcell i (by omega)]
    rw [List.getElem?_map, List.getElem?_take, if_pos hi, List.getElem?_eq_getElem (show i < zs.length by omega)] at hu
    simp only [Option.map_some, Option.some.injEq] at hu
    have hz' : zs.getD i 0 = zs[i]'(by omega) := by simp [List.getD, List.getElem?_eq_getElem (show i < zs.length by omega)]
    rw [hz']
    have hb := Go.bounds_u8 (hwz _ (List.getElem_mem (show i < zs.length by omega)))
    subst hu
    unfold bv
    rw [UInt8.toNat_ofNat', Nat.mod_eq_of_lt (by omega), Int.toNat_of_nonneg hb.1]

end Go.Proofs.YtbnchnbblchmnaaGreatDoor

namespace Go.Proofs.YtbnchnbblchmnaaGreatDoor
open Go.RowKit Go.ChangeShapes Go.WideShapes Go.Deep Go.Joins

theorem sarr_open {H : Type} {enc : TypeId × Value → H} {P : Program} {W : World} {base : Nat} {spare : Nat → Bool} {held : Bool} {fuel : Nat} {cs : List Value} {x : DataW H × List MemPlace}
    {t e : TypeId} {sz : Nat} {α : Type} {val : α → List Value} (Good : α → Prop) (ht : P.underlying t = some (.slice e)) (hk : P.cellsOf e = sz) (hs : 0 < sz) (hv : ∀ u, (val u).length = sz)
    (helem : ∀ (n : Nat) (cs : List Value) (x : DataW H × List MemPlace), DataW.trod enc P W base spare held n e cs = some x → ∃ u, cs = val u ∧ Good u)
    (h : DataW.trod enc P W base spare held fuel t cs = some x) :
    ∃ A n c xs, cs = [.slice A n c] ∧ SArr sz val W W.heap.size (.slice A n c) xs ∧ xs.length = n ∧ n ≤ 9223372036854775807 ∧ ∀ u ∈ xs, Good u := by
  rcases open_slice ht h with ⟨rfl, _⟩ | ⟨a, len, cap, m, n, D, Pl, rfl, hb, hl, hm, hmm, _, hi⟩
  · exact ⟨none, 0, 0, [], rfl, .inl ⟨rfl, rfl⟩, rfl, by omega, by simp⟩
  · unfold maxLen at hm
    have hml : len ≤ m := by rw [hmm]; split <;> omega
    by_cases h0 : len = 0
    · subst h0
      exact ⟨some a, 0, cap, [], rfl, .inr ⟨a, cap, rfl, by simp, by simp, by simp⟩, rfl, by omega, by simp⟩
    · have hel : ∀ i, i < len → ∃ u : α, (∀ j v, (val u)[j]? = some v → W.cell? (a.add (i * sz + j)) = some v) ∧ Good u := by
        intro i hil
        obtain ⟨cs', hc, ht'⟩ := hi i (by omega)
        rw [hk] at hc
        obtain ⟨u, rfl, hg⟩ := helem n cs' _ ht'
        obtain ⟨_, hcl, hat⟩ := World.cells?_some hc
        refine ⟨u, fun j v hj => ?_, hg⟩
        have hjl : j < sz := by rw [← hv u]; exact (List.getElem?_eq_some_iff.1 hj).1
        have := hat j hjl
        rw [Go.Deep.add_add] at this
        rw [this, hj]
      obtain ⟨u0, _, _⟩ := hel 0 (by omega)
      have hel2 : ∀ i, ∃ u : α, i < len → (∀ j v, (val u)[j]? = some v → W.cell? (a.add (i * sz + j)) = some v) ∧ Good u := fun i => by
        by_cases hil : i < len
        · obtain ⟨u, h1, h2⟩ := hel i hil
          exact ⟨u, fun _ => ⟨h1, h2⟩⟩
        · exact ⟨u0, fun h => absurd h hil⟩
      obtain ⟨f, hf⟩ := Classical.skolem.1 hel2
      have hlen : ((List.range len).map f).length = len := by simp
      have hget : ∀ i u, ((List.range len).map f)[i]? = some u → i < len ∧ f i = u := by
        intro i u hu
        have hil : i < len := by rw [← hlen]; exact (List.getElem?_eq_some_iff.1 hu).1
        rw [List.getElem?_map, List.getElem?_range hil] at hu
        exact ⟨hil, by simpa using hu⟩
      refine ⟨some a, len, cap, (List.range len).map f, rfl, .inr ⟨a, cap, by rw [hlen], by rw [hlen]; exact hl, fun _ => ?_, fun i u hu j v hj => ?_⟩, hlen, by omega, fun u hu => ?_⟩
      · have h1 := (hf 0 (by omega)).1 0 _ (List.getElem?_eq_getElem (by rw [hv]; exact hs))
        have := cell_block h1
        rwa [add_block] at this
      · obtain ⟨hil, rfl⟩ := hget i u hu
        exact (hf i hil).1 j v hj
      · obtain ⟨i, hi'⟩ := List.getElem?_of_mem hu
        obtain ⟨hil, rfl⟩ := hget i u hi'
        exact (hf i hil).2

end Go.Proofs.YtbnchnbblchmnaaGreatDoor

namespace Go.Proofs.YtbnchnbblchmnaaGreatDoor
open Go.RowKit Go.ChangeShapes Go.WideShapes Go.Deep Go.Joins

/-- The words of an argument. -/
structure GivenW (W : World) (A : Option Addr) (n c : Nat) (l : List WordI) : Prop where
  arr : SArr 2 wv W W.heap.size (.slice A n c) l
  few : n ≤ 9223372036854775807
  good : ∀ x ∈ l, x.1.length ≤ 9223372036854775807 ∧ -9223372036854775808 ≤ x.2 ∧ x.2 ≤ 9223372036854775807

set_option maxRecDepth 100000 in
theorem word_elem {H : Type} {enc : TypeId × Value → H} {W : World} {base : Nat} {spare : Nat → Bool} {held : Bool} (n : Nat) (cs : List Value) (x : DataW H × List MemPlace)
    (h : DataW.trod enc Tryz.prog W base spare held n 32 cs = some x) : ∃ u : WordI, cs = wv u ∧ (u.1.length ≤ 9223372036854775807 ∧ -9223372036854775808 ≤ u.2 ∧ u.2 ≤ 9223372036854775807) := by
  have k2 : Tryz.prog.cellsOf 32 = 2 := by kernel_rfl
  have k1 : Tryz.prog.cellsOf 9 = 1 := by kernel_rfl
  have k3 : Tryz.prog.cellsOf 3 = 1 := by kernel_rfl
  obtain ⟨y0, y1, m, _, hl, h0, h1⟩ := trod_struct2 Tryz.underlying32 h
  rw [k2] at hl
  obtain ⟨c0, c1, rfl⟩ : ∃ c0 c1, cs = [c0, c1] := by
    match cs, hl with
    | [c0, c1], _ => exact ⟨c0, c1, rfl⟩
  simp only [k1, k3] at h0 h1
  obtain ⟨s0, e0, _, w0⟩ := DataW.trod_string Tryz.underlying9 h0
  obtain ⟨s1, e1, _, w1⟩ := DataW.trod_int Tryz.underlying3 h1
  simp at e0 e1
  subst e0 e1
  unfold maxLen at w0
  have w2 := bounds_i64 w1
  refine ⟨(s0.data.toList, s1), ?_, w0, ?_, ?_⟩
  · unfold wv
    rw [str_data]
  · show -9223372036854775808 ≤ s1
    omega
  · show s1 ≤ 9223372036854775807
    omega
theorem words_open {H : Type} {enc : TypeId × Value → H} {W : World} {base : Nat} {spare : Nat → Bool} {held : Bool} {fuel : Nat} {cs : List Value} {x : DataW H × List MemPlace}
    (h : DataW.trod enc Tryz.prog W base spare held fuel 22 cs = some x) : ∃ A n c t, cs = [.slice A n c] ∧ GivenW W A n c t := by
  obtain ⟨A, n, c, t, h1, h2, _, h4, h5⟩ := sarr_open (val := wv) (sz := 2) (fun u : WordI => u.1.length ≤ 9223372036854775807 ∧ -9223372036854775808 ≤ u.2 ∧ u.2 ≤ 9223372036854775807) Tryz.underlying22 (by kernel_rfl) (by decide) wv_len word_elem h
  exact ⟨A, n, c, t, h1, ⟨h2, h4, h5⟩⟩

end Go.Proofs.YtbnchnbblchmnaaGreatDoor

namespace Go.Proofs.YtbnchnbblchmnaaGreatDoor
open Go.RowKit

theorem tokenSets_u (A : Option Addr) (n c : Nat) (l : List WordI) (w : World) (hS : Ready10 w) (h : GivenW w A n c l) :
    Calls Tryz.prog 3 #[.slice A n c] w fun e w' => e = .returned (.bool true) ∧ Below w.heap.size w w' :=
  tokenSets_v A n c l w (own10_of hS) own10F_of (own10P_of hS) h.arr h.few (fun x hx => (h.good x hx).1) (fun x hx => (h.good x hx).2)
theorem wholeSearchForms_u (b : ByteArray) (w : World) (hS : Ready10 w) (h : b.size ≤ 1048576) :
    Calls Tryz.prog 5 #[.string b] w fun e w' => e = .returned (.bool true) ∧ Below w.heap.size w w' := by
  have e1 : b.data.toList.length = b.size := rfl
  rw [← str_data b]
  exact wholeSearchForms_v b.data.toList w
    (fun s W hW hs => prWords_any s W (hS.below hW) (by omega))
    (fun s W hW hs => prTexts_any s W (hS.below hW) (by omega))
    (fun A n c l W _ hA hn hl => prJoin_any A n c l W hA hn hl)
    (fun A A' n c n' c' l ws W _ hA hB hn hn' hl hw => prPhrase_any A A' n c n' c' l ws W hA hB (by omega) (by omega) (fun x hx => ⟨by have := (hl x hx).1; unfold maxLen; omega, (hl x hx).2⟩) (fun x hx => by have := hw x hx; unfold maxLen; omega))
    (fun s W hW hs => prSearch_s s W (hS.below hW).spans (by omega))
    (by omega)

end Go.Proofs.YtbnchnbblchmnaaGreatDoor

namespace Go.Proofs.YtbnchnbblchmnaaGreatDoor
open Go.RowKit Go.Shelf Go.Lib

theorem readsT_flat {P : Program} {w : World} {n : String} {dd : DataW Unit} (h : VarReads P w n dd) {g t : Nat} (hg : P.globalNamed n = some g) (ht : (P.globals[g]?).map (·.type) = some t) (hp : plainTy P 8 t = true) :
    ∃ u fz, w.heap[g]? = some (.cells (flat dd).toArray u fz) := by
  obtain ⟨g', t', cs, fuel, p, hg', ht', hvar, hd⟩ := h
  obtain rfl := Option.some.inj (hg.symm.trans hg')
  obtain rfl := Option.some.inj (ht.symm.trans ht')
  have h1 := flat_of_trod 8 fuel t _ dd p hp hd
  unfold World.var? at hvar
  rw [hg] at hvar
  simp only [Option.bind_some] at hvar
  split at hvar
  · rename_i cs' u fz hh
    cases hvar
    refine ⟨u, fz, ?_⟩
    rw [hh, ← h1]
  · cases hvar
theorem u8_types10 : U8Types Tryz.prog ren10 := ⟨decLays.t5, decLays.t119, decLays.t138, decLays.t139⟩
theorem u8_extra10 : U8Extra Tryz.prog ren10 where
  n3 := by kernel_rfl
  n4 := by kernel_rfl
  y3 := by kernel_rfl
  y4 := by kernel_rfl
  c5 := by kernel_rfl
  c119 := by kernel_rfl
  c138 := by kernel_rfl
theorem white_extra10 : WhiteExtra Tryz.prog ren10 where
  n6 := by kernel_rfl
  y6 := by kernel_rfl
  c3 := by kernel_rfl
  c49 := by kernel_rfl
  c193 := by kernel_rfl
  c194 := by kernel_rfl
  c196 := by kernel_rfl
  c198 := by kernel_rfl
theorem accept10_eq : Rows.laid_unicode_utf8_acceptRanges (H := Unit) = acceptData := by kernel_rfl
theorem white10_eq : Rows.laid_unicode_White_Space (H := Unit) = whiteData := by kernel_rfl
theorem ascii10_eq : flat (Rows.laid_strings_asciiSpace (H := Unit)) = (List.range 256).map fun c => Value.int .u8 (if Lib.isSp (UInt8.ofNat c) then 1 else 0) := by kernel_rfl
def laid10 : List (String × DataW Unit) := [("unicode/utf8.acceptRanges", Rows.laid_unicode_utf8_acceptRanges), ("unicode.White_Space", Rows.laid_unicode_White_Space), ("strings.asciiSpace", Rows.laid_strings_asciiSpace), ("bookplate/repertoire.spans", Rows.laid_bookplate_repertoire_spans), ("unicode/utf8.first", Rows.laid_unicode_utf8_first)]
theorem ready10_of {W : World} (hL : laidMet Tryz.prog laid10 W) : Ready10 W := by
  have r1 : VarReads Tryz.prog W "bookplate/repertoire.spans" Rows.laid_bookplate_repertoire_spans := laidMet.reads hL (by simp [laid10])
  have r2 : VarReads Tryz.prog W "unicode/utf8.acceptRanges" acceptData := accept10_eq ▸ laidMet.reads hL (by simp [laid10])
  have r3 : VarReads Tryz.prog W "unicode/utf8.first" firstData := Pinned.utf8First_eq ▸ laidMet.reads hL (n := "unicode/utf8.first") (d := Rows.laid_unicode_utf8_first) (by simp [laid10])
  have r4 : VarReads Tryz.prog W "unicode.White_Space" whiteData := white10_eq ▸ laidMet.reads hL (by simp [laid10])
  have r5 : VarReads Tryz.prog W "strings.asciiSpace" Rows.laid_strings_asciiSpace := laidMet.reads hL (by simp [laid10])
  refine ⟨?_, utf8Tabs_of_readsT u8_types10 u8_extra10 r3 r2, whiteTab_of_reads spaceLays white_extra10 r4, fun c hc => ?_⟩
  · obtain ⟨u, fz, h1⟩ := readsT_flat r1 (g := 0) (t := 120) (by kernel_rfl) (by kernel_rfl) (by kernel_rfl)
    have e : (flat (Rows.laid_bookplate_repertoire_spans (H := Unit))).toArray = spanCells := by kernel_rfl
    rw [e] at h1
    exact ⟨u, fz, h1⟩
  · obtain ⟨u, fz, h1⟩ := readsT_flat r5 (g := 1) (t := 142) (by kernel_rfl) (by kernel_rfl) (by kernel_rfl)
    rw [ascii10_eq] at h1
    rw [Go.cell_of_row W 1 c _ u fz h1]
    simp [hc]

end Go.Proofs.YtbnchnbblchmnaaGreatDoor

namespace Go.Proofs.YtbnchnbblchmnaaGreatDoor

theorem drop_at9 {s : List UInt8} {j : Nat} {b : UInt8} (h : s[j]? = some b) : s.drop j = b :: s.drop (j + 1) := by
  obtain ⟨h1, h2⟩ := List.getElem?_eq_some_iff.1 h
  rw [List.drop_eq_getElem_cons h1, h2]
theorem sp_yes {s : List UInt8} {j : Nat} (h : s[j]? = some 32) : spN s (j + 1) = spN s j := by
  unfold spN
  rw [drop_at9 h, blankN, if_pos rfl]
  omega
theorem sp_no {s : List UInt8} {j : Nat} {b : UInt8} (h : s[j]? = some b) (hb : b ≠ 32) : spN s j = j := by
  unfold spN
  rw [drop_at9 h, blankN, if_neg hb]
  rfl
theorem sp_end {s : List UInt8} {j : Nat} (h : s.length ≤ j) : spN s j = j := by
  unfold spN
  rw [List.drop_of_length_le h]
  rfl
theorem wd_yes {s : List UInt8} {j : Nat} {b : UInt8} (h : s[j]? = some b) (hb : b ≠ 32) : (j + 1) + wordN (s.drop (j + 1)) = j + wordN (s.drop j) := by
  rw [drop_at9 h, wordN, if_neg hb]
  omega
theorem wd_no {s : List UInt8} {j : Nat} (h : s[j]? = some 32) : j + wordN (s.drop j) = j := by
  rw [drop_at9 h, wordN, if_pos rfl]
  rfl
theorem wd_end {s : List UInt8} {j : Nat} (h : s.length ≤ j) : j + wordN (s.drop j) = j := by
  rw [List.drop_of_length_le h]
  rfl
theorem spN_le (s : List UInt8) (k : Nat) (hk : k ≤ s.length) : k ≤ spN s k ∧ spN s k ≤ s.length := by
  obtain ⟨u, h1, _, h3⟩ := blank_split (s.drop k)
  unfold spN
  rw [List.length_drop] at h3
  omega
theorem hits_step (s : List UInt8) (l : List (List UInt8)) (k : Nat) {a : List UInt8} (h : l[k]? = some a) (hp : (l.take k).findSome? (artHit s (wordN s) (cutR s 2).length) = none) :
    (∀ v, artHit s (wordN s) (cutR s 2).length a = some v → hitsN s l = v) ∧ (artHit s (wordN s) (cutR s 2).length a = none → (l.take (k + 1)).findSome? (artHit s (wordN s) (cutR s 2).length) = none) := by
  have ht : l.take (k + 1) = l.take k ++ [a] := by
    obtain ⟨h1, h2⟩ := List.getElem?_eq_some_iff.1 h
    rw [List.take_succ_eq_append_getElem h1, h2]
  have hl : l = l.take k ++ a :: l.drop (k + 1) := by
    obtain ⟨h1, h2⟩ := List.getElem?_eq_some_iff.1 h
    rw [← h2, ← List.drop_eq_getElem_cons h1, List.take_append_drop]
  refine ⟨fun v hv => ?_, fun hv => ?_⟩
  · unfold hitsN
    rw [hl, List.findSome?_append, hp, List.findSome?_cons, hv]
    rfl
  · rw [ht, List.findSome?_append, hp, List.findSome?_cons, hv]
    rfl
theorem hits_none {s : List UInt8} {l : List (List UInt8)} (h : l.findSome? (artHit s (wordN s) (cutR s 2).length) = none) : hitsN s l = (0, 0) := by
  unfold hitsN
  rw [h]
  rfl

end Go.Proofs.YtbnchnbblchmnaaGreatDoor

namespace Go.Proofs.YtbnchnbblchmnaaGreatDoor
open Go.RowKit

end Go.Proofs.YtbnchnbblchmnaaGreatDoor

namespace Go.Proofs.YtbnchnbblchmnaaGreatDoor
open Go.RowKit

theorem arts_ne {lang a : List UInt8} (ha : a ∈ artsOf lang) : a ≠ [] ∧ a.length ≤ 10 := by
  have hall : (artT.all fun l => l.all fun a => !(a == []) && Nat.ble a.length 10) = true := by decide +kernel
  unfold artsOf at ha
  cases hf : (langT.zip artT).find? fun p => p.1 == lang with
  | none => rw [hf] at ha; cases ha
  | some p =>
    rw [hf] at ha
    have hp := (List.of_mem_zip (List.mem_of_find?_eq_some hf)).2
    have h1 := List.all_eq_true.1 (List.all_eq_true.1 hall _ hp) a ha
    rw [Bool.and_eq_true] at h1
    refine ⟨fun e => ?_, Nat.le_of_ble_eq_true h1.2⟩
    rw [e] at h1
    cases h1.1
theorem arts_few (lang : List UInt8) : (artsOf lang).length ≤ 20 := by
  have hall : (artT.all fun l => Nat.ble l.length 20) = true := by decide +kernel
  unfold artsOf
  cases hf : (langT.zip artT).find? fun p => p.1 == lang with
  | none => exact Nat.zero_le _
  | some p =>
    have hp := (List.of_mem_zip (List.mem_of_find?_eq_some hf)).2
    exact Nat.le_of_ble_eq_true (List.all_eq_true.1 hall _ hp)

end Go.Proofs.YtbnchnbblchmnaaGreatDoor
