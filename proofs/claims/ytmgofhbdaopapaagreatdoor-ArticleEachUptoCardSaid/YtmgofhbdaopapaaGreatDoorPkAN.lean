/-
  The numbers of this program for the library's contracts of slices.Sorted over maps.Keys.
  The characters of a range over a string, and those of the reference.
  Plain data that a listed variable holds: what reads as a datum of numbers, strings, structs and arrays is the datum's values, cell for cell.
-/
import Derived.Test.YtmgofhbdaopapaaGreatDoorProg
import Derived.WalkKit
import Derived.Shelf.SlIter.Nil
import Derived.Shelf.SortM.Plain
import Derived.Shelf.SortM.SortNone
import Derived.Test.YtmgofhbdaopapaaGreatDoorPkAH
import Derived.Laws.RangeAny
import Derived.Lib.OthersKept
import Derived.Test.YtmgofhbdaopapaaGreatDoorWords
import Derived.Lib.LaidTab
import Derived.LaidLaws
namespace Go.Proofs.YtmgofhbdaopapaaGreatDoor
open Go.Shelf

def renK : Go.Shelf.Ren := ⟨fun | 7 => 54 | 10 => 81 | n => n, fun | 0 => 0 | 1 => 1 | 2 => 2 | 3 => 27 | 4 => 4 | 5 => 5 | 6 => 6 | 7 => 7 | 8 => 8 | 9 => 9 | 10 => 10 | 11 => 11 | 12 => 12 | 13 => 13 | 14 => 14 | 15 => 15 | 16 => 16 | 17 => 17 | 18 => 18 | 19 => 19 | 20 => 20 | 21 => 21 | 23 => 75 | 24 => 27 | 25 => 71 | 26 => 9 | 27 => 72 | 28 => 73 | 29 => 74 | 32 => 97 | 33 => 79 | 34 => 111 | 35 => 112 | 36 => 113 | 37 => 67 | 38 => 125 | 39 => 126 | 40 => 127 | 41 => 128 | 42 => 129 | 43 => 25 | 44 => 130 | 45 => 131 | 46 => 132 | 47 => 133 | 48 => 91 | 49 => 134 | 50 => 94 | 51 => 145 | 52 => 146 | 53 => 147 | 54 => 148 | 55 => 149 | 56 => 150 | 57 => 157 | 58 => 39 | 59 => 158 | 60 => 64 | 61 => 170 | 62 => 171 | 63 => 172 | 64 => 173 | 65 => 174 | 66 => 70 | 67 => 175 | 68 => 176 | 69 => 177 | 70 => 87 | 71 => 178 | 72 => 179 | 73 => 180 | 74 => 181 | 75 => 103 | n => n, fun  | n => n⟩
def renZ : Go.Shelf.Ren := ⟨fun | 6 => 53 | 8 => 79 | 9 => 80 | 11 => 101 | n => n, fun | 0 => 0 | 1 => 1 | 2 => 2 | 3 => 3 | 4 => 4 | 5 => 5 | 6 => 6 | 7 => 7 | 8 => 8 | 9 => 9 | 10 => 10 | 11 => 11 | 12 => 12 | 13 => 13 | 14 => 14 | 15 => 15 | 16 => 16 | 17 => 17 | 18 => 18 | 19 => 19 | 20 => 20 | 21 => 21 | 23 => 75 | 24 => 27 | 25 => 71 | 26 => 9 | 27 => 72 | 28 => 73 | 29 => 74 | 32 => 97 | 33 => 79 | 34 => 111 | 35 => 112 | 36 => 113 | 37 => 67 | 38 => 125 | 39 => 126 | 40 => 127 | 41 => 128 | 42 => 129 | 43 => 25 | 44 => 130 | 45 => 131 | 46 => 132 | 47 => 133 | 48 => 91 | 49 => 134 | 50 => 94 | 51 => 145 | 52 => 146 | 53 => 147 | 54 => 148 | 55 => 149 | 56 => 150 | 57 => 157 | 58 => 39 | 59 => 158 | 60 => 64 | 61 => 170 | 62 => 171 | 63 => 172 | 64 => 173 | 65 => 174 | 66 => 70 | 67 => 175 | 68 => 176 | 69 => 177 | 70 => 87 | 71 => 178 | 72 => 179 | 73 => 180 | 74 => 181 | 75 => 103 | n => n, fun  | n => n⟩
def renM : Go.Shelf.Ren := ⟨fun | 6 => 80 | 8 => 103 | 9 => 102 | 19 => 127 | 20 => 128 | 21 => 118 | 22 => 119 | 23 => 120 | 24 => 121 | 25 => 122 | 26 => 123 | 27 => 124 | 28 => 125 | 29 => 126 | 31 => 135 | 32 => 136 | 36 => 134 | 37 => 137 | 38 => 138 | 39 => 139 | 41 => 145 | n => n, fun | 0 => 0 | 1 => 1 | 2 => 2 | 3 => 3 | 4 => 4 | 5 => 5 | 6 => 6 | 7 => 7 | 8 => 8 | 9 => 9 | 10 => 10 | 11 => 11 | 12 => 12 | 13 => 13 | 14 => 14 | 15 => 15 | 16 => 16 | 17 => 17 | 18 => 18 | 19 => 19 | 20 => 20 | 21 => 21 | 22 => 27 | 23 => 27 | 24 => 97 | 25 => 9 | 26 => 27 | 27 => 27 | 28 => 97 | 29 => 9 | 30 => 112 | 31 => 113 | 32 => 67 | 33 => 112 | 34 => 125 | 35 => 126 | 36 => 127 | 37 => 128 | 38 => 129 | 39 => 25 | 40 => 130 | 41 => 131 | 42 => 132 | 43 => 133 | 44 => 91 | 45 => 134 | 46 => 94 | 47 => 125 | 48 => 128 | 49 => 129 | 50 => 25 | 51 => 130 | 52 => 132 | 53 => 145 | 54 => 146 | 55 => 147 | 56 => 148 | 57 => 149 | 58 => 150 | 59 => 79 | 60 => 148 | 61 => 150 | 62 => 79 | 63 => 157 | 64 => 39 | 65 => 158 | 66 => 158 | 67 => 64 | 68 => 170 | 69 => 171 | 70 => 172 | 71 => 173 | 72 => 174 | 73 => 70 | 74 => 175 | 75 => 176 | 76 => 177 | 77 => 87 | 78 => 178 | 79 => 179 | 80 => 180 | 81 => 181 | 82 => 103 | n => n, fun  | n => n⟩
theorem keysZ : SlLaysZ.n7 Tryz.prog renK := {
  mixed := by kernel_rfl,
  f7 := ⟨ "maps.Keys[map[string][]string,string,[]string]", by kernel_rfl, Tryz.func54.trans (congrArg some (by kernel_rfl))⟩,
  f10 := ⟨ "maps.Keys[map[string][]string,string,[]string]$1", by kernel_rfl, Tryz.func81.trans (congrArg some (by kernel_rfl))⟩,
  t0 := Tryz.underlying0,
  a0 := Tryz.isAgg0,
  z0 := Tryz.sizeOf0,
  v0 := Tryz.zeroValue0,
  t4 := Tryz.underlying4,
  a4 := Tryz.isAgg4,
  z4 := Tryz.sizeOf4,
  v4 := Tryz.zeroValue4,
  t23 := Tryz.underlying75,
  a23 := Tryz.isAgg75,
  z23 := Tryz.sizeOf75,
  v23 := Tryz.zeroValue75,
  t26 := Tryz.underlying9,
  a26 := Tryz.isAgg9,
  z26 := Tryz.sizeOf9,
  v26 := Tryz.zeroValue9,
  t27 := Tryz.underlying72,
  a27 := Tryz.isAgg72,
  z27 := Tryz.sizeOf72,
  v27 := Tryz.zeroValue72,
  t28 := Tryz.underlying73,
  a28 := Tryz.isAgg73,
  z28 := Tryz.sizeOf73,
  v28 := Tryz.zeroValue73,
  t33 := Tryz.underlying79,
  a33 := Tryz.isAgg79,
  z33 := Tryz.sizeOf79,
  v33 := Tryz.zeroValue79
}
theorem sortedZ : SlLaysZ.n6 Tryz.prog renZ := {
  mixed := by kernel_rfl,
  f6 := ⟨ "slices.Sorted[string]", by kernel_rfl, Tryz.func53.trans (congrArg some (by kernel_rfl))⟩,
  f8 := ⟨ "slices.Collect[string]", by kernel_rfl, Tryz.func79.trans (congrArg some (by kernel_rfl))⟩,
  f11 := ⟨ "slices.AppendSeq[[]string,string]", by kernel_rfl, Tryz.func101.trans (congrArg some (by kernel_rfl))⟩,
  t0 := Tryz.underlying0,
  a0 := Tryz.isAgg0,
  z0 := Tryz.sizeOf0,
  v0 := Tryz.zeroValue0,
  t24 := Tryz.underlying27,
  a24 := Tryz.isAgg27,
  z24 := Tryz.sizeOf27,
  v24 := Tryz.zeroValue27,
  t26 := Tryz.underlying9,
  a26 := Tryz.isAgg9,
  z26 := Tryz.sizeOf9,
  v26 := Tryz.zeroValue9,
  t28 := Tryz.underlying73,
  a28 := Tryz.isAgg73,
  z28 := Tryz.sizeOf73,
  v28 := Tryz.zeroValue73,
  i26 := by kernel_rfl
}
theorem sortM : SlLaysM.n6 Tryz.prog renM := {
  mixed := by kernel_rfl,
  f6 := ⟨ "slices.Sort[[]string,string]", by kernel_rfl, Tryz.func80.trans (congrArg some (by kernel_rfl))⟩,
  f8 := Tryz.func103.trans (congrArg some (by kernel_rfl)),
  f9 := ⟨ "slices.pdqsortOrdered[string]", by kernel_rfl, Tryz.func102.trans (congrArg some (by kernel_rfl))⟩,
  f19 := Tryz.func127.trans (congrArg some (by kernel_rfl)),
  f20 := Tryz.func128.trans (congrArg some (by kernel_rfl)),
  f21 := ⟨ "slices.insertionSortOrdered[string]", by kernel_rfl, Tryz.func118.trans (congrArg some (by kernel_rfl))⟩,
  f22 := ⟨ "slices.heapSortOrdered[string]", by kernel_rfl, Tryz.func119.trans (congrArg some (by kernel_rfl))⟩,
  f23 := ⟨ "slices.breakPatternsOrdered[string]", by kernel_rfl, Tryz.func120.trans (congrArg some (by kernel_rfl))⟩,
  f24 := ⟨ "slices.choosePivotOrdered[string]", by kernel_rfl, Tryz.func121.trans (congrArg some (by kernel_rfl))⟩,
  f25 := ⟨ "slices.reverseRangeOrdered[string]", by kernel_rfl, Tryz.func122.trans (congrArg some (by kernel_rfl))⟩,
  f26 := ⟨ "slices.partialInsertionSortOrdered[string]", by kernel_rfl, Tryz.func123.trans (congrArg some (by kernel_rfl))⟩,
  f27 := ⟨ "cmp.Less[string]", by kernel_rfl, Tryz.func124.trans (congrArg some (by kernel_rfl))⟩,
  f28 := ⟨ "slices.partitionEqualOrdered[string]", by kernel_rfl, Tryz.func125.trans (congrArg some (by kernel_rfl))⟩,
  f29 := ⟨ "slices.partitionOrdered[string]", by kernel_rfl, Tryz.func126.trans (congrArg some (by kernel_rfl))⟩,
  f31 := Tryz.func135.trans (congrArg some (by kernel_rfl)),
  f32 := Tryz.func136.trans (congrArg some (by kernel_rfl)),
  f36 := ⟨ "slices.siftDownOrdered[string]", by kernel_rfl, Tryz.func134.trans (congrArg some (by kernel_rfl))⟩,
  f37 := ⟨ "slices.medianAdjacentOrdered[string]", by kernel_rfl, Tryz.func137.trans (congrArg some (by kernel_rfl))⟩,
  f38 := ⟨ "slices.medianOrdered[string]", by kernel_rfl, Tryz.func138.trans (congrArg some (by kernel_rfl))⟩,
  f39 := ⟨ "cmp.isNaN[string]", by kernel_rfl, Tryz.func139.trans (congrArg some (by kernel_rfl))⟩,
  f41 := ⟨ "slices.order2Ordered[string]", by kernel_rfl, Tryz.func145.trans (congrArg some (by kernel_rfl))⟩,
  t0 := Tryz.underlying0,
  a0 := Tryz.isAgg0,
  z0 := Tryz.sizeOf0,
  v0 := Tryz.zeroValue0,
  t3 := Tryz.underlying3,
  a3 := Tryz.isAgg3,
  z3 := Tryz.sizeOf3,
  v3 := Tryz.zeroValue3,
  t4 := Tryz.underlying4,
  a4 := Tryz.isAgg4,
  z4 := Tryz.sizeOf4,
  v4 := Tryz.zeroValue4,
  t5 := Tryz.underlying5,
  a5 := Tryz.isAgg5,
  z5 := Tryz.sizeOf5,
  v5 := Tryz.zeroValue5,
  t9 := Tryz.underlying9,
  a9 := Tryz.isAgg9,
  z9 := Tryz.sizeOf9,
  v9 := Tryz.zeroValue9,
  t26 := Tryz.underlying27,
  a26 := Tryz.isAgg27,
  z26 := Tryz.sizeOf27,
  v26 := Tryz.zeroValue27,
  t27 := Tryz.underlying27,
  a27 := Tryz.isAgg27,
  z27 := Tryz.sizeOf27,
  v27 := Tryz.zeroValue27,
  t29 := Tryz.underlying9,
  a29 := Tryz.isAgg9,
  z29 := Tryz.sizeOf9,
  v29 := Tryz.zeroValue9,
  t32 := Tryz.underlying67,
  a32 := Tryz.isAgg67,
  z32 := Tryz.sizeOf67,
  v32 := Tryz.zeroValue67,
  t35 := Tryz.underlying126,
  a35 := Tryz.isAgg126,
  z35 := Tryz.sizeOf126,
  v35 := Tryz.zeroValue126,
  t36 := Tryz.underlying127,
  a36 := Tryz.isAgg127,
  z36 := Tryz.sizeOf127,
  v36 := Tryz.zeroValue127,
  t41 := Tryz.underlying131,
  a41 := Tryz.isAgg131,
  z41 := Tryz.sizeOf131,
  v41 := Tryz.zeroValue131,
  t44 := Tryz.underlying91,
  a44 := Tryz.isAgg91,
  z44 := Tryz.sizeOf91,
  v44 := Tryz.zeroValue91,
  t46 := Tryz.underlying94,
  a46 := Tryz.isAgg94,
  z46 := Tryz.sizeOf94,
  v46 := Tryz.zeroValue94,
  t53 := Tryz.underlying145,
  a53 := Tryz.isAgg145,
  z53 := Tryz.sizeOf145,
  v53 := Tryz.zeroValue145,
  t57 := Tryz.underlying149,
  a57 := Tryz.isAgg149,
  z57 := Tryz.sizeOf149,
  v57 := Tryz.zeroValue149,
  t63 := Tryz.underlying157,
  a63 := Tryz.isAgg157,
  z63 := Tryz.sizeOf157,
  v63 := Tryz.zeroValue157,
  t64 := Tryz.underlying39,
  a64 := Tryz.isAgg39,
  z64 := Tryz.sizeOf39,
  v64 := Tryz.zeroValue39
}

end Go.Proofs.YtmgofhbdaopapaaGreatDoor

namespace Go.Proofs.YtmgofhbdaopapaaGreatDoor
open Go.RowKit

theorem get_str (s : List UInt8) (j : Nat) : (str s).get! j = s.getD j 0 := by
  show (s.toArray)[j]! = _
  simp [List.getD]
  rfl
/-- The character at the beginning of a list of bytes, as Go reads it, and its width. -/
def runeAt (t : List UInt8) : Nat × Nat := Utf8.decode (str t) 0
theorem decode_drop (s : List UInt8) (k : Nat) : Utf8.decode (str s) k = runeAt (s.drop k) := by
  have hg : ∀ j, (str s).get! (k + j) = (str (s.drop k)).get! (0 + j) := by
    intro j
    rw [get_str, get_str]
    simp [List.getD]
  have hl : ∀ j, (k + j < (str s).size) = (0 + j < (str (s.drop k)).size) := by
    intro j
    show (k + j < s.length) = (0 + j < (s.drop k).length)
    rw [List.length_drop]
    simp
    omega
  unfold runeAt Utf8.decode
  simp only [hg, hl]

theorem rune_ascii {b : UInt8} {t : List UInt8} (h : b.toNat < 128) : runeAt (b :: t) = (b.toNat, 1) := by
  unfold runeAt Utf8.decode
  simp only [get_str]
  simp [h]
def goodU (c : Nat) : Bool := decide (c < 55296) || decide (57344 ≤ c)
theorem rune_two {b c1 : UInt8} {t : List UInt8} (h : ¬ b.toNat < 128) (h2 : is2 b.toNat c1.toNat = true) : runeAt (b :: c1 :: t) = (v2 b.toNat c1.toNat, 2) := by
  obtain ⟨k1, k2, k3⟩ := is2_of h2
  have e1 : b.toNat / 32 = 6 := by omega
  have e2 : b.toNat % 32 * 64 + c1.toNat % 64 = v2 b.toNat c1.toNat := by unfold v2; omega
  have e3 : 128 ≤ v2 b.toNat c1.toNat := by unfold v2; omega
  have e4 : (0 + 1 < (str (b :: c1 :: t)).size) = True := by simp [str_size]
  unfold runeAt Utf8.decode
  simp only [get_str, e4]
  simp [h, e1, k3, e2, e3]
theorem valid_nat {c : Nat} (h : c < 65536) : Utf8.valid (c : Int) = goodU c := by
  unfold Utf8.valid goodU
  rw [Bool.eq_iff_iff]
  simp only [Bool.or_eq_true, Bool.and_eq_true, decide_eq_true_eq]
  omega
theorem rune_three {b c1 c2 : UInt8} {t : List UInt8} (h : ¬ b.toNat < 128) (h3 : is3 b.toNat c1.toNat c2.toNat = true) :
    runeAt (b :: c1 :: c2 :: t) = if goodU (v3 b.toNat c1.toNat c2.toNat) = true then (v3 b.toNat c1.toNat c2.toNat, 3) else (65533, 1) := by
  obtain ⟨k1, k2, k3, k4, k5⟩ := is3_of h3
  have e1 : ¬ b.toNat / 32 = 6 := by omega
  have e1' : b.toNat / 16 = 14 := by omega
  have e2 : b.toNat % 16 * 4096 + c1.toNat % 64 * 64 + c2.toNat % 64 = v3 b.toNat c1.toNat c2.toNat := by unfold v3; omega
  have e4 : (0 + 1 < (str (b :: c1 :: c2 :: t)).size) = True := by simp [str_size]
  have e5 : (0 + 2 < (str (b :: c1 :: c2 :: t)).size) = True := by simp [str_size]
  have e6 : v3 b.toNat c1.toNat c2.toNat < 65536 := by unfold v3; omega
  have e7 := valid_nat e6
  unfold runeAt Utf8.decode
  simp only [get_str, e4, e5]
  have g0 : (b :: c1 :: c2 :: t).getD (0 + 0) 0 = b := rfl
  have g1 : (b :: c1 :: c2 :: t).getD (0 + 1) 0 = c1 := rfl
  have g2 : (b :: c1 :: c2 :: t).getD (0 + 2) 0 = c2 := rfl
  rw [g0, g1, g2, e2, e7]
  generalize v3 b.toNat c1.toNat c2.toNat = V at *
  simp [h, e1, e1', k3, k4, k5, Utf8.runeError]

theorem no_kind_65533 : kindR 65533 = 0 := by kernel_rfl
theorem memB_none {l : List Nat} {c : Int} (hl : ∀ x ∈ l, x < 55296) (h : 55296 ≤ c) : memB l c = false := by
  unfold memB
  rw [List.any_eq_false]
  intro d hd
  have := hl d hd
  simp
  omega
theorem latin_low : ∀ x ∈ latinL, x < 55296 := of_decide_eq_true (by kernel_rfl)
theorem greek_low : ∀ x ∈ greekL, x < 55296 := of_decide_eq_true (by kernel_rfl)
theorem cyr_low : ∀ x ∈ cyrL, x < 55296 := of_decide_eq_true (by kernel_rfl)
theorem inB_false {c lo hi : Int} (h : ¬ (lo ≤ c ∧ c ≤ hi)) : inB c lo hi = false := by
  unfold inB
  rw [Bool.and_eq_false_iff]
  by_cases h1 : lo ≤ c
  · exact .inr (by simp; omega)
  · exact .inl (by simp; omega)
theorem kind_surrogate {c : Nat} (h : 55296 ≤ c) (h2 : c < 57344) : kindR (c : Int) = 0 := by
  unfold kindR clsR
  rw [inB_false (by omega), if_neg (by decide)]
  unfold clsN
  rw [inB_false (by omega), inB_false (by omega), inB_false (by omega), inB_false (by omega), inB_false (by omega), inB_false (by omega), inB_false (by omega), inB_false (by omega), inB_false (by omega), inB_false (by omega), inB_false (by omega),
    memB_none latin_low (by omega), memB_none greek_low (by omega), memB_none cyr_low (by omega)]
  have e : ∀ d : Int, d < 55296 ∨ 57344 ≤ d → ((c : Int) == d) = false := fun d hd => eqb_false (by omega)
  rw [e 32 (by omega), e 160 (by omega), e 178 (by omega), e 179 (by omega), e 185 (by omega), e 383 (by omega), e 64257 (by omega), e 64258 (by omega), e 803 (by omega), e 807 (by omega), e 808 (by omega)]
  rfl

theorem kind_big {c : Nat} (h : 65536 ≤ c) : kindR (c : Int) = 0 := by
  by_cases hk : kindR (c : Int) = 0
  · exact hk
  · have h1 : hasR (c : Int) = true := has_kind.2 hk
    have := has_range h1
    omega
theorem pair_snd {a b c d : Nat} (h : (a, b) = (c, d)) : b = d := congrArg Prod.snd h
theorem at_none_facts {t : List UInt8} (h0 : t ≠ []) (h : atR t = (0, 0)) :
    ¬ (t.getD 0 0).toNat < 128 ∧ (1 < t.length → is2 (t.getD 0 0).toNat (t.getD 1 0).toNat = false) ∧ (2 < t.length → is3 (t.getD 0 0).toNat (t.getD 1 0).toNat (t.getD 2 0).toNat = false) := by
  match t with
  | [] => exact absurd rfl h0
  | b :: t =>
    have hb : ¬ b.toNat < 128 := fun hb => by rw [at_ascii hb] at h; exact absurd (pair_snd h) (by decide)
    refine ⟨hb, ?_, ?_⟩
    · intro hl
      match t with
      | [] => simp at hl
      | c1 :: t =>
        show is2 b.toNat c1.toNat = false
        refine bool_false fun h2 => ?_
        rw [at_two hb h2] at h
        exact absurd (pair_snd h) (by decide)
    · intro hl
      match t with
      | [] => simp at hl
      | [_] => simp at hl
      | c1 :: c2 :: t =>
        show is3 b.toNat c1.toNat c2.toNat = false
        refine bool_false fun h3 => ?_
        have h2 : is2 b.toNat c1.toNat = false := is2_no (is3_of h3).1
        rw [at_three hb h2 h3] at h
        exact absurd (pair_snd h) (by decide)
theorem rune_none {t : List UInt8} (h0 : t ≠ []) (h : atR t = (0, 0)) : kindR ((runeAt t).1 : Int) = 0 := by
  obtain ⟨h1, h2, h3⟩ := at_none_facts h0 h
  have hl : (str t).size = t.length := rfl
  unfold runeAt Utf8.decode
  simp only [get_str, hl, Nat.zero_add]
  generalize (t.getD 0 0).toNat = b0 at *
  generalize (t.getD 1 0).toNat = b1 at *
  generalize (t.getD 2 0).toNat = b2 at *
  generalize (t.getD 3 0).toNat = b3 at *
  rw [if_neg h1]
  split
  · rename_i hc
    simp only [Bool.and_eq_true, beq_iff_eq, decide_eq_true_eq] at hc
    have h4 := of_decide_eq_false (h2 hc.2.1)
    rw [if_neg (by omega)]
    exact no_kind_65533
  · split
    · rename_i hc
      simp only [Bool.and_eq_true, beq_iff_eq, decide_eq_true_eq] at hc
      have h4 := of_decide_eq_false (h3 hc.2.1)
      unfold v3 at h4
      rw [if_neg (by
        simp only [Bool.and_eq_true, decide_eq_true_eq]
        rintro ⟨h5, _⟩
        omega)]
      exact no_kind_65533
    · split
      · split
        · rename_i hc
          simp only [Bool.and_eq_true, decide_eq_true_eq] at hc
          exact kind_big hc.1
        · exact no_kind_65533
      · exact no_kind_65533

/-- A character of a range is one of the repertoire exactly if the reference finds it there. -/
theorem rune_good {t : List UInt8} (h0 : t ≠ []) (h : kindR ((runeAt t).1 : Int) ≠ 0) : atR t = runeAt t := by
  rcases at_cases t with rfl | ⟨b, t, rfl, hb⟩ | ⟨b, c1, t, rfl, hb, h2⟩ | ⟨b, c1, c2, t, rfl, hb, h2, h3⟩ | ⟨_, hn⟩
  · exact absurd rfl h0
  · rw [at_ascii hb, rune_ascii hb]
  · rw [at_two hb h2, rune_two hb h2]
  · rw [at_three hb h2 h3, rune_three hb h3] at *
    split
    · rfl
    · rename_i hg
      rw [if_neg hg] at h
      exact absurd no_kind_65533 h
  · exact absurd (rune_none h0 hn) h
theorem rune_bad {t : List UInt8} (h0 : t ≠ []) (h : kindR ((runeAt t).1 : Int) = 0) : (atR t).2 = 0 ∨ kindR ((atR t).1 : Int) = 0 := by
  rcases at_cases t with rfl | ⟨b, t, rfl, hb⟩ | ⟨b, c1, t, rfl, hb, h2⟩ | ⟨b, c1, c2, t, rfl, hb, h2, h3⟩ | ⟨_, hn⟩
  · exact absurd rfl h0
  · rw [rune_ascii hb] at h
    rw [at_ascii hb]
    exact .inr h
  · rw [rune_two hb h2] at h
    rw [at_two hb h2]
    exact .inr h
  · rw [rune_three hb h3] at h
    rw [at_three hb h2 h3]
    by_cases hg : goodU (v3 b.toNat c1.toNat c2.toNat) = true
    · rw [if_pos hg] at h
      exact .inr h
    · refine .inr (kind_surrogate ?_ ?_)
      · unfold goodU at hg
        simp only [Bool.or_eq_true, decide_eq_true_eq, not_or] at hg
        show 55296 ≤ v3 _ _ _
        omega
      · unfold goodU at hg
        simp only [Bool.or_eq_true, decide_eq_true_eq, not_or] at hg
        show v3 _ _ _ < 57344
        omega
  · exact .inl (by rw [hn])
theorem Past.rune {s : List UInt8} {k c n : Nat} {l : List Nat} (h : Past s k l) (hk : k < s.length) (ha : Utf8.decode (str s) k = (c, n)) (hc : hasR (c : Int) = true) : Past s (k + n) (l ++ [c]) ∧ n ≠ 0 := by
  have hne : s.drop k ≠ [] := fun e => by rw [List.drop_eq_nil_iff] at e; omega
  rw [decode_drop] at ha
  have h1 := rune_good hne (by rw [ha]; exact has_kind.1 hc)
  rw [ha] at h1
  have h0 : n ≠ 0 := by
    intro h0
    subst h0
    rcases at_cases (s.drop k) with e | ⟨b, t, e, hb⟩ | ⟨b, c1, t, e, hb, h2⟩ | ⟨b, c1, c2, t, e, hb, h2, h3⟩ | ⟨_, hn⟩
    · exact hne e
    · rw [e, at_ascii hb] at h1; exact absurd (pair_snd h1) (by decide)
    · rw [e, at_two hb h2] at h1; exact absurd (pair_snd h1) (by decide)
    · rw [e, at_three hb h2 h3] at h1; exact absurd (pair_snd h1) (by decide)
    · rw [hn] at h1
      injection h1 with e1 e2
      rw [← e1] at hc
      exact absurd hc (by decide)
  exact ⟨h.next hk h1 h0 (has_kind.1 hc), h0⟩
theorem Past.rune_bad {s : List UInt8} {k c n : Nat} {l : List Nat} (h : Past s k l) (hk : k < s.length) (ha : Utf8.decode (str s) k = (c, n)) (hc : hasR (c : Int) = false) : decR s = none := by
  have hne : s.drop k ≠ [] := fun e => by rw [List.drop_eq_nil_iff] at e; omega
  rw [decode_drop] at ha
  have h1 := Go.Proofs.YtmgofhbdaopapaaGreatDoor.rune_bad hne (by rw [ha]; exact has_kind_no hc)
  exact h.bad hk rfl h1

/-! Rows of the call's own beside an iterator. -/
theorem own_iter {w : World} {B e size n : Nat} {v : Value} {xs : List Value} {k : Nat} {s : ByteArray} {pos : Nat} (h : w.ownsRow B e size v n xs) (hk : w.heap[k]? = some (.stringIter s pos)) (pos' : Nat) : (w.iterAt k s pos').ownsRow B e size v n xs := by
  refine ⟨h.1, ?_⟩
  rcases h.2 with h0 | ⟨g, cap, cur, hv, hb, hg, rest⟩
  · exact .inl h0
  · exact .inr ⟨g, cap, cur, hv, hb, (Lib.iterAt_other _ _ _ _ _ (fun e => by subst e; rw [hk] at hg; cases hg)).trans hg, rest⟩
theorem own_not_iter {w : World} {B e size n : Nat} {v : Value} {xs : List Value} {k : Nat} {s : ByteArray} {pos : Nat} (h : w.ownsRow B e size v n xs) (hk : w.heap[k]? = some (.stringIter s pos)) : v.ownBlock ≠ some k := by
  rcases h.2 with ⟨rfl, _⟩ | ⟨g, cap, cur, rfl, hb, hg, rest⟩
  · simp [Value.ownBlock]
  · intro e
    simp only [Value.ownBlock, Option.some.injEq] at e
    subst e
    rw [hk] at hg
    cases hg

end Go.Proofs.YtmgofhbdaopapaaGreatDoor

namespace Go.Proofs.YtmgofhbdaopapaaGreatDoor
open Go.RowKit

mutual
def flat {H : Type} : DataW H → List Value
  | .lit (.bool b) => [.bool b]
  | .lit (.int k n) => [.int k n]
  | .lit (.string s) => [.string ⟨s.toArray⟩]
  | .agg ds => flatAll ds
  | _ => []
def flatAll {H : Type} : List (DataW H) → List Value
  | [] => []
  | d :: r => flat d ++ flatAll r
end

def offsOk (P : Program) : List Field → Nat → Nat → Bool
  | [], o, c => o == c
  | f :: r, o, c => f.offset == o && offsOk P r (o + P.cellsOf f.type) c
/-- A type of numbers, strings, structs and arrays, at most n deep, whose parts lie one behind the other. -/
def plainTy (P : Program) : Nat → TypeId → Bool
  | 0, _ => false
  | n + 1, t => match P.underlying t with
    | some (.int _) => true
    | some .string => true
    | some .bool => true
    | some (.array m e) => P.cellsOf t == m * P.cellsOf e && plainTy P n e
    | some (.struct fs) => offsOk P fs.toList 0 (P.cellsOf t) && fs.toList.all fun f => plainTy P n f.type
    | _ => false

section
variable {H : Type} {enc : TypeId × Value → H} {P : Program} {w : World} {base : Nat} {sp : Nat → Bool} {held : Bool}

theorem trod_arr {fuel : Nat} {t e : TypeId} {m : Nat} {cs : List Value} {d : DataW H} {p : List MemPlace} (ht : P.underlying t = some (.array m e)) (h : DataW.trod enc P w base sp held fuel t cs = some (d, p)) :
    ∃ n xs, fuel = n + 1 ∧ d = .agg (xs.map (fun x : DataW H × List MemPlace => x.1)) ∧ cs.length = P.cellsOf t ∧
      (List.range m).mapM (fun i => DataW.trod enc P w base sp held n e ((cs.drop (i * P.cellsOf e)).take (P.cellsOf e))) = some xs := by
  cases fuel with
  | zero => simp [DataW.trod] at h
  | succ n =>
    simp only [DataW.trod, ht] at h
    split at h
    · rename_i hl
      obtain ⟨xs, hm, hx⟩ := Option.map_eq_some_iff.1 h
      exact ⟨n, xs, rfl, (congrArg Prod.fst hx).symm, hl, hm⟩
    · cases h

theorem flat_rows {c : Nat} {cs : List Value} : ∀ (m : Nat) (ds : List (DataW H)), ds.length = m → (∀ i d, ds[i]? = some d → (cs.drop (i * c)).take c = flat d) → cs.length = m * c → cs = flatAll ds := by
  intro m
  induction m generalizing cs with
  | zero =>
    intro ds hds _ hl
    rw [List.length_eq_zero_iff.1 hds]
    rw [Nat.zero_mul] at hl
    exact List.length_eq_zero_iff.1 hl
  | succ m ih =>
    intro ds hds hall hl
    match ds, hds with
    | d :: r, hds =>
      have h0 := hall 0 d rfl
      rw [Nat.zero_mul, List.drop_zero] at h0
      have h1 := ih (cs := cs.drop c) r (by simpa using hds) (fun i d' hd' => by
        rw [List.drop_drop, ← hall (i + 1) d' (by simpa using hd')]
        congr 2
        rw [Nat.succ_mul]
        omega) (by rw [List.length_drop, hl, Nat.succ_mul]; omega)
      rw [flatAll, ← h0, ← h1, List.take_append_drop]

theorem flat_struct {cs : List Value} : ∀ (fs : List Field) (ds : List (DataW H)) (o : Nat), fs.length = ds.length → offsOk P fs o cs.length = true →
    (∀ (i : Nat) (f : Field) (d : DataW H), fs[i]? = some f → ds[i]? = some d → (cs.drop f.offset).take (P.cellsOf f.type) = flat d) → cs.drop o = flatAll ds
  | [], [], o, _, ho, _ => by
    unfold offsOk at ho
    rw [beq_iff_eq] at ho
    rw [flatAll, List.drop_eq_nil_iff]
    omega
  | f :: fs, d :: ds, o, hl, ho, hall => by
    unfold offsOk at ho
    rw [Bool.and_eq_true, beq_iff_eq] at ho
    have h0 := hall 0 f d rfl rfl
    have h1 := flat_struct fs ds _ (by simpa using hl) ho.2 fun i f' d' hf' hd' => hall (i + 1) f' d' (by simpa using hf') (by simpa using hd')
    rw [ho.1] at h0
    rw [flatAll, ← h0, ← h1, ← List.drop_drop, List.take_append_drop]
  | [], _ :: _, _, hl, _, _ => by simp at hl
  | _ :: _, [], _, hl, _, _ => by simp at hl

theorem flat_of_trod : ∀ (n fuel : Nat) (t : TypeId) (cs : List Value) (d : DataW H) (p : List MemPlace), plainTy P n t = true → DataW.trod enc P w base sp held fuel t cs = some (d, p) → cs = flat d := by
  intro n
  induction n with
  | zero => intro fuel t cs d p h; cases h
  | succ n ih =>
    intro fuel t cs d p hp h
    unfold plainTy at hp
    split at hp
    · rename_i k ht
      obtain ⟨z, rfl, hx, _⟩ := DataW.trod_int ht h
      rw [show d = _ from congrArg Prod.fst hx]
      rfl
    · rename_i ht
      obtain ⟨s, rfl, hx, _⟩ := DataW.trod_string ht h
      rw [show d = _ from congrArg Prod.fst hx]
      rfl
    · rename_i ht
      obtain ⟨b, rfl, hx⟩ := DataW.trod_bool ht h
      rw [show d = _ from congrArg Prod.fst hx]
      rfl
    · rename_i m e ht
      rw [Bool.and_eq_true, beq_iff_eq] at hp
      obtain ⟨f, xs, rfl, rfl, hl, hm⟩ := trod_arr ht h
      have hxl : xs.length = m := by simpa using Lib.mapM_length hm
      refine flat_rows (c := P.cellsOf e) m _ (by rw [List.length_map]; exact hxl) (fun i d hd => ?_) (by rw [hl, hp.1])
      rw [List.getElem?_map] at hd
      obtain ⟨x, hx, rfl⟩ := Option.map_eq_some_iff.1 hd
      have hi : i < m := by rw [← hxl]; exact (List.getElem?_eq_some_iff.1 hx).1
      obtain ⟨b, hb, hf⟩ := Lib.mapM_at hm i i (by simp [hi])
      rw [hx] at hb
      cases hb
      exact ih f e _ x.1 x.2 hp.2 hf
    · rename_i fs ht
      rw [Bool.and_eq_true] at hp
      obtain ⟨xs, f, rfl, hx, hl, hxl, hall⟩ := DataW.trod_struct ht h
      rw [show d = _ from congrArg Prod.fst hx]
      have := flat_struct (P := P) (cs := cs) fs.toList (xs.map (·.1)) 0 (by simp [hxl]) (by rw [hl]; exact hp.1) (fun i g d hg hd => by
        rw [List.getElem?_map] at hd
        obtain ⟨x, hx, rfl⟩ := Option.map_eq_some_iff.1 hd
        have hg2 : fs[i]? = some g := by rwa [← Array.getElem?_toList]
        have h1 := hall i g hg2
        rw [hx] at h1
        exact ih f g.type _ x.1 x.2 (List.all_eq_true.1 hp.2 g (List.mem_of_getElem? hg)) h1)
      rw [List.drop_zero] at this
      rw [this]
      rfl
    · cases hp
end

/-- A listed variable of such a type holds its datum's values. -/
theorem laid_flat {P : Program} {w : World} {n : String} {dd : DataW Unit} {rest : List (String × DataW Unit)} (h : laidMet P ((n, dd) :: rest) w) {g t : Nat} (hg : P.globalNamed n = some g) (ht : (P.globals[g]?).map (·.type) = some t) (hp : plainTy P 8 t = true) :
    ∃ u fz, w.heap[g]? = some (.cells (flat dd).toArray u fz) := by
  obtain ⟨ps, ⟨g', t', cs, fuel, p, q, hg', ht', hvar, hd, _, _⟩, _⟩ := h
  obtain rfl := Option.some.inj (hg.symm.trans hg')
  obtain rfl := Option.some.inj (ht.symm.trans ht')
  have h1 := flat_of_trod 8 fuel t _ dd p hp hd
  unfold World.var? at hvar
  rw [hg] at hvar
  simp only [Option.bind_some] at hvar
  split at hvar
  · rename_i cs' u fz hh
    cases hvar
    refine ⟨u, fz, ?_⟩
    rw [hh, ← h1]
  · cases hvar

end Go.Proofs.YtmgofhbdaopapaaGreatDoor
