/-
  The numbers of this program for the library's contracts of unicode, slices of integers, and sorted keys.
  A range over an iterator that keeps state of its own in cells: what the iterator leaves alone is said by the caller's own block, not by the kind of a block.
-/
import Derived.Test.YtbnchnbblchmnaaDoorProg
import Derived.WalkKit
import Derived.Shelf.Unicode.DecodeAny
import Derived.Shelf.Unicode.IsSpaceAnyD
import Derived.Shelf.Slices.CompactI
import Derived.Shelf.SlicesE.DeleteFunc
import Derived.Shelf.SortM.Plain
import Derived.Shelf.SortM.SortNone
import Derived.RangeFuncNested
import Derived.RangeFuncLeaves
namespace Go.Proofs.YtbnchnbblchmnaaDoor
open Go.Shelf

def ren10 : Go.Shelf.Ren := ⟨fun | 197 => 52 | 199 => 53 | 260 => 65 | 261 => 66 | 311 => 87 | 312 => 88 | n => n, fun | 0 => 0 | 3 => 3 | 4 => 4 | 5 => 5 | 9 => 9 | 21 => 21 | 46 => 83 | 49 => 100 | 51 => 96 | 105 => 88 | 119 => 87 | 138 => 121 | 139 => 122 | 141 => 98 | 193 => 123 | 194 => 124 | 196 => 126 | 198 => 128 | 201 => 131 | 226 => 141 | 227 => 142 | n => n, fun | 3 => 3 | 4 => 4 | 6 => 1 | n => n⟩
theorem decLays : Lays.n197 Tryd.prog ren10 := {
  mixed := by kernel_rfl,
  f197 := Tryd.func52.trans (congrArg some (by kernel_rfl)),
  f260 := Tryd.func65.trans (congrArg some (by kernel_rfl)),
  t0 := Tryd.underlying0,
  a0 := Tryd.isAgg0,
  z0 := Tryd.sizeOf0,
  v0 := Tryd.zeroValue0,
  t3 := Tryd.underlying3,
  a3 := Tryd.isAgg3,
  z3 := Tryd.sizeOf3,
  v3 := Tryd.zeroValue3,
  t4 := Tryd.underlying4,
  a4 := Tryd.isAgg4,
  z4 := Tryd.sizeOf4,
  v4 := Tryd.zeroValue4,
  t5 := Tryd.underlying5,
  a5 := Tryd.isAgg5,
  z5 := Tryd.sizeOf5,
  v5 := Tryd.zeroValue5,
  t9 := Tryd.underlying9,
  a9 := Tryd.isAgg9,
  z9 := Tryd.sizeOf9,
  v9 := Tryd.zeroValue9,
  t21 := Tryd.underlying21,
  a21 := Tryd.isAgg21,
  z21 := Tryd.sizeOf21,
  v21 := Tryd.zeroValue21,
  t46 := Tryd.underlying83,
  a46 := Tryd.isAgg83,
  z46 := Tryd.sizeOf83,
  v46 := Tryd.zeroValue83,
  t105 := Tryd.underlying88,
  a105 := Tryd.isAgg88,
  z105 := Tryd.sizeOf88,
  v105 := Tryd.zeroValue88,
  t119 := Tryd.underlying87,
  a119 := Tryd.isAgg87,
  z119 := Tryd.sizeOf87,
  t138 := Tryd.underlying121,
  a138 := Tryd.isAgg121,
  z138 := Tryd.sizeOf121,
  v138 := Tryd.zeroValue121,
  t139 := Tryd.underlying122,
  a139 := Tryd.isAgg122,
  z139 := Tryd.sizeOf122,
  v139 := Tryd.zeroValue122,
  g3 := by kernel_rfl,
  g4 := by kernel_rfl
}
theorem spaceLays : Lays.n199 Tryd.prog ren10 := {
  mixed := by kernel_rfl,
  f199 := Tryd.func53.trans (congrArg some (by kernel_rfl)),
  f261 := Tryd.func66.trans (congrArg some (by kernel_rfl)),
  f311 := Tryd.func87.trans (congrArg some (by kernel_rfl)),
  f312 := Tryd.func88.trans (congrArg some (by kernel_rfl)),
  t0 := Tryd.underlying0,
  a0 := Tryd.isAgg0,
  z0 := Tryd.sizeOf0,
  v0 := Tryd.zeroValue0,
  t3 := Tryd.underlying3,
  a3 := Tryd.isAgg3,
  z3 := Tryd.sizeOf3,
  v3 := Tryd.zeroValue3,
  t4 := Tryd.underlying4,
  a4 := Tryd.isAgg4,
  z4 := Tryd.sizeOf4,
  v4 := Tryd.zeroValue4,
  t21 := Tryd.underlying21,
  a21 := Tryd.isAgg21,
  z21 := Tryd.sizeOf21,
  v21 := Tryd.zeroValue21,
  t46 := Tryd.underlying83,
  a46 := Tryd.isAgg83,
  z46 := Tryd.sizeOf83,
  v46 := Tryd.zeroValue83,
  t49 := Tryd.underlying100,
  a49 := Tryd.isAgg100,
  z49 := Tryd.sizeOf100,
  v49 := Tryd.zeroValue100,
  t51 := Tryd.underlying96,
  a51 := Tryd.isAgg96,
  z51 := Tryd.sizeOf96,
  v51 := Tryd.zeroValue96,
  t141 := Tryd.underlying98,
  a141 := Tryd.isAgg98,
  z141 := Tryd.sizeOf98,
  v141 := Tryd.zeroValue98,
  t193 := Tryd.underlying123,
  a193 := Tryd.isAgg123,
  z193 := Tryd.sizeOf123,
  v193 := Tryd.zeroValue123,
  t194 := Tryd.underlying124,
  a194 := Tryd.isAgg124,
  z194 := Tryd.sizeOf124,
  v194 := Tryd.zeroValue124,
  t196 := Tryd.underlying126,
  a196 := Tryd.isAgg126,
  z196 := Tryd.sizeOf126,
  v196 := Tryd.zeroValue126,
  t198 := Tryd.underlying128,
  a198 := Tryd.isAgg128,
  z198 := Tryd.sizeOf128,
  v198 := Tryd.zeroValue128,
  t201 := Tryd.underlying131,
  a201 := Tryd.isAgg131,
  z201 := Tryd.sizeOf131,
  v201 := Tryd.zeroValue131,
  t226 := Tryd.underlying141,
  a226 := Tryd.isAgg141,
  z226 := Tryd.sizeOf141,
  v226 := Tryd.zeroValue141,
  t227 := Tryd.underlying142,
  a227 := Tryd.isAgg142,
  z227 := Tryd.sizeOf142,
  v227 := Tryd.zeroValue142,
  g6 := by kernel_rfl
}
def renC : Go.Shelf.Ren := ⟨fun | 20 => 50 | n => n, fun | 0 => 0 | 3 => 3 | 4 => 4 | 22 => 38 | n => n, fun  | n => n⟩
theorem compactLays : Lays2.n20 Tryd.prog renC := {
  mixed := by kernel_rfl,
  f20 := Tryd.func50.trans (congrArg some (by kernel_rfl)),
  t0 := Tryd.underlying0,
  a0 := Tryd.isAgg0,
  z0 := Tryd.sizeOf0,
  v0 := Tryd.zeroValue0,
  t3 := Tryd.underlying3,
  a3 := Tryd.isAgg3,
  z3 := Tryd.sizeOf3,
  v3 := Tryd.zeroValue3,
  t4 := Tryd.underlying4,
  a4 := Tryd.isAgg4,
  z4 := Tryd.sizeOf4,
  v4 := Tryd.zeroValue4,
  t22 := Tryd.underlying38,
  a22 := Tryd.isAgg38,
  z22 := Tryd.sizeOf38,
  v22 := Tryd.zeroValue38,
  i3 := by kernel_rfl
}
def renH : Go.Shelf.Ren := ⟨fun | 6 => 48 | 10 => 33 | n => n, fun | 0 => 0 | 1 => 1 | 2 => 2 | 3 => 3 | 4 => 4 | 5 => 5 | 6 => 6 | 7 => 7 | 8 => 8 | 9 => 9 | 10 => 10 | 11 => 11 | 12 => 12 | 13 => 13 | 14 => 14 | 15 => 15 | 16 => 16 | 17 => 17 | 18 => 18 | 19 => 19 | 20 => 20 | 21 => 21 | 22 => 38 | 23 => 3 | 24 => 84 | 25 => 59 | 29 => 61 | 30 => 143 | 31 => 77 | 32 => 166 | 33 => 167 | 34 => 168 | 35 => 169 | 36 => 170 | 37 => 92 | 38 => 96 | 39 => 171 | 40 => 172 | 41 => 173 | 42 => 93 | 43 => 174 | 44 => 175 | 45 => 176 | 46 => 177 | 47 => 105 | n => n, fun  | n => n⟩
theorem deleteLays : SlLaysH.n10 Tryd.prog renH := {
  mixed := by kernel_rfl,
  f6 := ⟨ "slices.IndexFunc[[]int,int]", by kernel_rfl, Tryd.func48.trans (congrArg some (by kernel_rfl))⟩,
  f10 := ⟨ "slices.DeleteFunc[[]int,int]", by kernel_rfl, Tryd.func33.trans (congrArg some (by kernel_rfl))⟩,
  t0 := Tryd.underlying0,
  a0 := Tryd.isAgg0,
  z0 := Tryd.sizeOf0,
  v0 := Tryd.zeroValue0,
  t3 := Tryd.underlying3,
  a3 := Tryd.isAgg3,
  z3 := Tryd.sizeOf3,
  v3 := Tryd.zeroValue3,
  t4 := Tryd.underlying4,
  a4 := Tryd.isAgg4,
  z4 := Tryd.sizeOf4,
  v4 := Tryd.zeroValue4,
  t22 := Tryd.underlying38,
  a22 := Tryd.isAgg38,
  z22 := Tryd.sizeOf38,
  v22 := Tryd.zeroValue38,
  a23 := Tryd.isAgg3,
  z23 := Tryd.sizeOf3,
  t25 := Tryd.underlying59,
  a25 := Tryd.isAgg59,
  z25 := Tryd.sizeOf59,
  v25 := Tryd.zeroValue59
}
def renI : Go.Shelf.Ren := ⟨fun | 5 => 49 | 7 => 63 | 8 => 64 | 10 => 76 | 11 => 77 | 12 => 78 | 13 => 79 | 14 => 80 | 15 => 81 | 16 => 82 | 17 => 83 | 18 => 84 | 19 => 85 | 20 => 86 | 30 => 93 | 31 => 94 | 32 => 95 | 33 => 96 | 34 => 97 | 35 => 98 | 40 => 105 | n => n, fun | 0 => 0 | 1 => 1 | 2 => 2 | 3 => 3 | 4 => 4 | 5 => 5 | 6 => 6 | 7 => 7 | 8 => 8 | 9 => 9 | 10 => 10 | 11 => 11 | 12 => 12 | 13 => 13 | 14 => 14 | 15 => 15 | 16 => 16 | 17 => 17 | 18 => 18 | 19 => 19 | 20 => 20 | 21 => 21 | 22 => 38 | 23 => 38 | 24 => 85 | 25 => 3 | 26 => 27 | 27 => 27 | 29 => 9 | 30 => 94 | 31 => 95 | 32 => 83 | 34 => 108 | 35 => 109 | 36 => 110 | 37 => 111 | 38 => 112 | 39 => 113 | 40 => 114 | 41 => 115 | 42 => 116 | 43 => 117 | 44 => 96 | 45 => 118 | 46 => 119 | 50 => 44 | 53 => 135 | 54 => 136 | 55 => 137 | 56 => 138 | 57 => 139 | 58 => 140 | 59 => 59 | 62 => 31 | 63 => 148 | 64 => 53 | 65 => 149 | 67 => 77 | 68 => 166 | 69 => 167 | 70 => 168 | 71 => 169 | 72 => 170 | 73 => 92 | 74 => 171 | 75 => 172 | 76 => 173 | 77 => 93 | 78 => 174 | 79 => 175 | 80 => 176 | 81 => 177 | 82 => 105 | n => n, fun  | n => n⟩
theorem sortI : SlLaysM.n5 Tryd.prog renI := {
  mixed := by kernel_rfl,
  f5 := ⟨ "slices.Sort[[]int,int]", by kernel_rfl, Tryd.func49.trans (congrArg some (by kernel_rfl))⟩,
  f7 := ⟨ "slices.pdqsortOrdered[int]", by kernel_rfl, Tryd.func63.trans (congrArg some (by kernel_rfl))⟩,
  f8 := Tryd.func64.trans (congrArg some (by kernel_rfl)),
  f10 := ⟨ "slices.insertionSortOrdered[int]", by kernel_rfl, Tryd.func76.trans (congrArg some (by kernel_rfl))⟩,
  f11 := ⟨ "slices.heapSortOrdered[int]", by kernel_rfl, Tryd.func77.trans (congrArg some (by kernel_rfl))⟩,
  f12 := ⟨ "slices.breakPatternsOrdered[int]", by kernel_rfl, Tryd.func78.trans (congrArg some (by kernel_rfl))⟩,
  f13 := ⟨ "slices.choosePivotOrdered[int]", by kernel_rfl, Tryd.func79.trans (congrArg some (by kernel_rfl))⟩,
  f14 := ⟨ "slices.reverseRangeOrdered[int]", by kernel_rfl, Tryd.func80.trans (congrArg some (by kernel_rfl))⟩,
  f15 := ⟨ "slices.partialInsertionSortOrdered[int]", by kernel_rfl, Tryd.func81.trans (congrArg some (by kernel_rfl))⟩,
  f16 := ⟨ "cmp.Less[int]", by kernel_rfl, Tryd.func82.trans (congrArg some (by kernel_rfl))⟩,
  f17 := ⟨ "slices.partitionEqualOrdered[int]", by kernel_rfl, Tryd.func83.trans (congrArg some (by kernel_rfl))⟩,
  f18 := ⟨ "slices.partitionOrdered[int]", by kernel_rfl, Tryd.func84.trans (congrArg some (by kernel_rfl))⟩,
  f19 := Tryd.func85.trans (congrArg some (by kernel_rfl)),
  f20 := Tryd.func86.trans (congrArg some (by kernel_rfl)),
  f30 := ⟨ "slices.siftDownOrdered[int]", by kernel_rfl, Tryd.func93.trans (congrArg some (by kernel_rfl))⟩,
  f31 := Tryd.func94.trans (congrArg some (by kernel_rfl)),
  f32 := Tryd.func95.trans (congrArg some (by kernel_rfl)),
  f33 := ⟨ "slices.medianAdjacentOrdered[int]", by kernel_rfl, Tryd.func96.trans (congrArg some (by kernel_rfl))⟩,
  f34 := ⟨ "slices.medianOrdered[int]", by kernel_rfl, Tryd.func97.trans (congrArg some (by kernel_rfl))⟩,
  f35 := ⟨ "cmp.isNaN[int]", by kernel_rfl, Tryd.func98.trans (congrArg some (by kernel_rfl))⟩,
  f40 := ⟨ "slices.order2Ordered[int]", by kernel_rfl, Tryd.func105.trans (congrArg some (by kernel_rfl))⟩,
  t0 := Tryd.underlying0,
  a0 := Tryd.isAgg0,
  z0 := Tryd.sizeOf0,
  v0 := Tryd.zeroValue0,
  t3 := Tryd.underlying3,
  a3 := Tryd.isAgg3,
  z3 := Tryd.sizeOf3,
  v3 := Tryd.zeroValue3,
  t4 := Tryd.underlying4,
  a4 := Tryd.isAgg4,
  z4 := Tryd.sizeOf4,
  v4 := Tryd.zeroValue4,
  t5 := Tryd.underlying5,
  a5 := Tryd.isAgg5,
  z5 := Tryd.sizeOf5,
  v5 := Tryd.zeroValue5,
  t9 := Tryd.underlying9,
  a9 := Tryd.isAgg9,
  z9 := Tryd.sizeOf9,
  v9 := Tryd.zeroValue9,
  t22 := Tryd.underlying38,
  a22 := Tryd.isAgg38,
  z22 := Tryd.sizeOf38,
  v22 := Tryd.zeroValue38,
  t23 := Tryd.underlying38,
  a23 := Tryd.isAgg38,
  z23 := Tryd.sizeOf38,
  v23 := Tryd.zeroValue38,
  t25 := Tryd.underlying3,
  a25 := Tryd.isAgg3,
  z25 := Tryd.sizeOf3,
  v25 := Tryd.zeroValue3,
  t32 := Tryd.underlying83,
  a32 := Tryd.isAgg83,
  z32 := Tryd.sizeOf83,
  v32 := Tryd.zeroValue83,
  t35 := Tryd.underlying109,
  a35 := Tryd.isAgg109,
  z35 := Tryd.sizeOf109,
  v35 := Tryd.zeroValue109,
  t36 := Tryd.underlying110,
  a36 := Tryd.isAgg110,
  z36 := Tryd.sizeOf110,
  v36 := Tryd.zeroValue110,
  t41 := Tryd.underlying115,
  a41 := Tryd.isAgg115,
  z41 := Tryd.sizeOf115,
  v41 := Tryd.zeroValue115,
  t44 := Tryd.underlying96,
  a44 := Tryd.isAgg96,
  z44 := Tryd.sizeOf96,
  v44 := Tryd.zeroValue96,
  t46 := Tryd.underlying119,
  a46 := Tryd.isAgg119,
  z46 := Tryd.sizeOf119,
  v46 := Tryd.zeroValue119,
  t53 := Tryd.underlying135,
  a53 := Tryd.isAgg135,
  z53 := Tryd.sizeOf135,
  v53 := Tryd.zeroValue135,
  t57 := Tryd.underlying139,
  a57 := Tryd.isAgg139,
  z57 := Tryd.sizeOf139,
  v57 := Tryd.zeroValue139,
  t63 := Tryd.underlying148,
  a63 := Tryd.isAgg148,
  z63 := Tryd.sizeOf148,
  v63 := Tryd.zeroValue148,
  t64 := Tryd.underlying53,
  a64 := Tryd.isAgg53,
  z64 := Tryd.sizeOf53,
  v64 := Tryd.zeroValue53
}

end Go.Proofs.YtbnchnbblchmnaaDoor

namespace Go.Proofs.YtbnchnbblchmnaaDoor
open Go.RowKit

/-- B is as A was below lo and at the block g. -/
structure Apart (lo : Nat) (g : Option Nat) (A B : World) : Prop where
  os : B.os = A.os
  tape : B.tape = A.tape
  output : B.output = A.output
  size : A.heap.size ≤ B.heap.size
  block : ∀ k, k < A.heap.size → (k < lo ∨ g = some k) → B.heap[k]? = A.heap[k]?

theorem Apart.refl (lo : Nat) (g : Option Nat) (A : World) : Apart lo g A A := ⟨rfl, rfl, rfl, Nat.le_refl _, fun _ _ _ => rfl⟩
theorem Apart.trans {lo : Nat} {g : Option Nat} {A B C : World} (h : Apart lo g A B) (k : Apart lo g B C) : Apart lo g A C :=
  ⟨k.os.trans h.os, k.tape.trans h.tape, k.output.trans h.output, Nat.le_trans h.size k.size, fun i hi hg => (k.block i (Nat.lt_of_lt_of_le hi h.size) hg).trans (h.block i hi hg)⟩
theorem Apart.mono {lo lo' : Nat} {g : Option Nat} {A B : World} (h : Apart lo g A B) (hl : lo' ≤ lo) : Apart lo' g A B :=
  ⟨h.os, h.tape, h.output, h.size, fun k hk hg => h.block k hk (by
    rcases hg with h1 | h1
    · exact .inl (by omega)
    · exact .inr h1)⟩
theorem Apart.of_below {lo : Nat} {g : Option Nat} {A B : World} (h : Below A.heap.size A B) : Apart lo g A B :=
  ⟨h.os, h.tape, h.output, h.size, fun k hk _ => h.block k hk⟩
theorem Apart.of_grownBy {lo : Nat} {g : Option Nat} {A B : World} {row : Option Nat} (h : A.grownBy B row) (hr : ∀ r, row = some r → lo ≤ r ∧ g ≠ some r) : Apart lo g A B :=
  ⟨h.os, h.tape, h.output, h.size, fun k hk hg => h.block k hk (fun e => by
    have := hr k e.symm
    rcases hg with h1 | h1
    · omega
    · exact this.2 h1)⟩
theorem Apart.alloc (lo : Nat) (g : Option Nat) (A : World) (o : Obj) : Apart lo g A (A.alloc o) := Apart.of_below ((Below.refl _ A).alloc (Nat.le_refl _) o)
theorem Apart.putObj {lo : Nat} {g : Option Nat} (A : World) (r : Nat) (o : Obj) (hr : lo ≤ r) (hg : g ≠ some r) : Apart lo g A (A.putObj r o) :=
  Apart.of_grownBy (grownBy_putObj' A r o) (fun r' e => by cases e; exact ⟨hr, hg⟩)
theorem Apart.setCell {lo : Nat} {g : Option Nat} (A : World) (b : Nat) (v : Value) (hr : lo ≤ b) (hg : g ≠ some b) : Apart lo g A (A.setCell ⟨b, 0, none⟩ v) :=
  Apart.of_grownBy (grownBy_setCell' A b v) (fun r' e => by cases e; exact ⟨hr, hg⟩)
theorem Apart.below {lo n : Nat} {g : Option Nat} {w A B : World} (h : Apart lo g A B) (hb : Below n w A) (hn : n ≤ lo) (hw : n ≤ w.heap.size) : Below n w B :=
  ⟨h.os.trans hb.os, h.tape.trans hb.tape, h.output.trans hb.output, Nat.le_trans hb.size h.size, fun k hk => (h.block k (by have := hb.size; omega) (.inl (by omega))).trans (hb.block k hk)⟩

/-- What a round leaves alone: the blocks of U, and those from lo on but for g; g' is g or a new block. -/
structure RoundC (lo : Nat) (U : Nat → Prop) (g g' : Option Nat) (A B : World) : Prop where
  own : g' = g ∨ ∃ k, g' = some k ∧ A.heap.size ≤ k
  size : A.heap.size ≤ B.heap.size
  block : ∀ k, k < A.heap.size → (U k ∨ (lo ≤ k ∧ g ≠ some k)) → B.heap[k]? = A.heap[k]?
theorem RoundC.trans {lo : Nat} {U : Nat → Prop} {g g' : Option Nat} {A B C : World} (h : RoundC lo U g g A B) (k : RoundC lo U g g' B C) : RoundC lo U g g' A C :=
  ⟨by rcases k.own with e | ⟨r, e, hr⟩
      · exact .inl e
      · exact .inr ⟨r, e, Nat.le_trans h.size hr⟩,
   Nat.le_trans h.size k.size, fun i hi hU => (k.block i (Nat.lt_of_lt_of_le hi h.size) hU).trans (h.block i hi hU)⟩
theorem RoundC.of_below {lo : Nat} {U : Nat → Prop} {g : Option Nat} {A B : World} (h : Below A.heap.size A B) : RoundC lo U g g A B := ⟨.inl rfl, h.size, fun k hk _ => h.block k hk⟩
theorem RoundC.cells {lo : Nat} {U : Nat → Prop} {g g' : Option Nat} {A B : World} (h : RoundC lo U g g' A B) {b : Nat} {v : Value} {t : TypeId} (hU : U b ∨ (lo ≤ b ∧ g ≠ some b)) (hb : Boxed A b t v) : Boxed B b t v :=
  (h.block b hb.lt hU).trans hb

/-- The contract of an iterator that never is told to stop. -/
def SeqC {α : Type} (F : Fence) (n : Nat) (P : Program) (gf : Nat) (lb : Array Value) (encs : α → Array Value) (U : Nat → Prop) (S : List α → Prop) (N : Nat) (w : World) : Prop :=
  ∀ (l : Nat) (J : Option Nat → List α → World → Prop) (g0 : Option Nat) (W : World), Below w.heap.size w W →
    (∀ g s A, J g s A → ∀ k, g = some k → ∃ o, A.heap[k]? = some o ∧ o.isCells = true) →
    (∀ g s A B, J g s A → Apart W.heap.size g A B → J g s B) →
    (∀ g pre x W1, J g pre W1 → pre.length < N → YieldAt F (n - 1) P l (encs x) W1 fun e W' =>
      e = .returned (.bool true) ∧ ∃ g', J g' (pre ++ [x]) W' ∧ RoundC W.heap.size U g g' W1 W') →
    J g0 [] W →
    CallsIn F n P gf (#[.func (.yield l) #[] #[]] ++ lb) W fun e W' => (∃ v, e = .returned v) ∧ ∃ xs, S xs ∧ ∃ g, J g xs W'

/-- How the body of a round is left. -/
def postC {α : Type} (lo : Nat) (U : Nat → Prop) (I : Option Nat → List α → World → Prop) (g : Option Nat) (xs : List α) (W : World) : Exit → Act → World → Prop
  | .normal, _, W' => ∃ g', I g' xs W' ∧ RoundC lo U g g' W W'
  | .ret, _, _ => False
  | .exit _, _, _ => False
  | .goto _, _, _ => False
  | .panic _, _, _ => False
  | .outgrown, _, _ => False

variable {F : Fence} {n : Nat} {P : Program}

theorem wpIn_rangeFunc_sep {α : Type} {g : Operand} {ps : Array Tmp} {assign body : Code} {Q : Exit → Act → World → Prop} {a : Act} {w : World}
    (hro : F.round = none) (h1 : 1 ≤ n) {gf : Nat} {lb : Array Value} (hg : a.eval g = .func (.func gf) #[] lb) (hFg : F.fn gf) (eg : ∀ args w, (callFunc gf args).run P w = .ok (.enter gf args) w)
    {encs : α → Array Value} {U : Nat → Prop} {S : List α → Prop} {N : Nat} {w0 : World} (hseq : SeqC F (n - 1) P gf lb encs U S N w0)
    (hb0 : Below w0.heap.size w0 w) (hps : ∀ x, (encs x).size = ps.size)
    (I : Option Nat → List α → World → Prop)
    (hIc : ∀ g s A, I g s A → ∀ k, g = some k → ∃ o, A.heap[k]? = some o ∧ o.isCells = true)
    (hI : ∀ g s A B, I g s A → Apart w.heap.size g A B → I g s B)
    (g0 : Option Nat) (h0 : I g0 [] w) (Ax : α → Act → World → Prop)
    (hAx : ∀ x a' A k o o', Ax x a' A → A.heap[k]? = some o → o.isCells = false → Ax x a' (A.putObj k o'))
    (hassign : ∀ (l : Nat) (go : Option Nat) (pre : List α) (x : α) (W : World) (K : Act → World → Prop), I go pre W → (∀ a' W', RoundC w.heap.size U go go W W' → I go pre W' → Ax x a' W' → K a' W') →
      assign.wpIn (F.inRound l) (n - 1 - 1) P (Exit.then K (fun _ _ _ => False)) { tmps := (ps.zip (encs x)).foldl (fun t (p, v) => t.setIfInBounds p v) a.tmps, defers := [] } W)
    (hbody : ∀ (l : Nat) (go : Option Nat) (pre : List α) (x : α) (a' : Act) (W : World), I go pre W → Ax x a' W → pre.length < N → body.wpIn (F.inRound l) (n - 1 - 1) P (postC w.heap.size U I go (pre ++ [x]) W) a' W)
    (hdone : ∀ (D : Nat) (xs : List α) (go : Option Nat) (W : World), w.heap.size ≤ D → S xs → I go xs W → W.heap[D]? = some (.deferred (some [])) → Q .normal { a with defers := { target := .collected D, args := #[] } :: a.defers } W) :
    (Code.rangeFunc g ps assign body).wpIn F n P Q a w := by
  refine wpIn_rangeFunc ?_
  intro fn hfn
  rw [hro]
  obtain ⟨rec, hrec⟩ : ∃ rec : LoopState → Option Code → Loop, rec = fun st pe => { state := st, pending := pe, fn, tmps := a.tmps, params := ps, assign, body, defers := w.heap.size } := ⟨_, rfl⟩
  obtain ⟨W1, hW1⟩ : ∃ W1, (w.alloc (.deferred (some []))).alloc (.loop (rec .ready none)) = W1 := ⟨_, rfl⟩
  have hL1 : W1.heap[w.heap.size + 1]? = some (.loop (rec .ready none)) := by
    rw [← hW1]; have := World.alloc_heap_new (w.alloc (.deferred (some []))) (.loop (rec .ready none)); rwa [World.size_alloc] at this
  have hK1 : W1.heap[w.heap.size]? = some (.deferred (some [])) := by
    rw [← hW1]; exact (Below.heap_alloc _ _ _ (by simp)).trans (World.alloc_heap_new w _)
  have hs1 : W1.heap.size = w.heap.size + 2 := by rw [← hW1]; simp
  have hI1 : I g0 [] W1 := by rw [← hW1]; exact hI _ _ _ _ (hI _ _ _ _ h0 (Apart.alloc _ _ _ _)) (Apart.alloc _ _ _ _)
  have hb1 : Below w0.heap.size w0 W1 := by
    rw [← hW1]; exact hb0.trans ((((Below.refl _ w).alloc (Nat.le_refl _) _).alloc (by simp) _).mono hb0.size)
  have hne : ∀ {go : Option Nat} {s : List α} {A : World} {k : Nat} {o : Obj}, I go s A → A.heap[k]? = some o → o.isCells = false → go ≠ some k := by
    intro go s A k o hi hk ho e
    obtain ⟨o', h1', h2'⟩ := hIc _ _ _ hi k e
    rw [hk] at h1'; cases h1'; rw [ho] at h2'; cases h2'
  have hput : ∀ {go : Option Nat} {s : List α} {A : World} {k : Nat} {o : Obj} (o' : Obj), I go s A → w.heap.size ≤ k → A.heap[k]? = some o → o.isCells = false → I go s (A.putObj k o') :=
    fun o' hi hk ho hc => hI _ _ _ _ hi (Apart.putObj _ _ o' hk (hne hi ho hc))
  refine ⟨w.heap.size + 1, [{ target := .collected w.heap.size, args := #[] }], W1, { target := .fn (.func gf) lb, args := #[.func (.yield (w.heap.size + 1)) #[] #[]] }, W1, gf,
    #[.func (.yield (w.heap.size + 1)) #[] #[]] ++ lb, W1, ?_, ?_, ?_, ?_, fun _ => h1, ?_⟩
  · rw [← hW1, hrec]; exact run_enterLoop_outer _ _ _ _ _
  · simp only [resolve, hg]
    simp [go_sem]
  · intro f' hf'; simp [Target.leads] at hf'; subst hf'; exact hFg
  · simp [invoke, go_sem, eg]
  · refine (hseq (w.heap.size + 1)
      (fun go pre W => I go pre W ∧ W.heap[w.heap.size + 1]? = some (.loop (rec .ready none)) ∧ W.heap[w.heap.size]? = some (.deferred (some [])))
      g0 W1 hb1
      (fun go s A hs k e => hIc _ _ _ hs.1 k e)
      (fun go s A B hs hA => ⟨hI _ _ _ _ hs.1 (hA.mono (by omega)), (hA.block _ (Array.getElem?_eq_some_iff.1 hs.2.1).1 (.inl (by omega))).trans hs.2.1, (hA.block _ (Array.getElem?_eq_some_iff.1 hs.2.2).1 (.inl (by omega))).trans hs.2.2⟩)
      ?_ ⟨hI1, hL1, hK1⟩).mono ?_
    · -- one round
      rintro go pre x W ⟨hi, hl, hk⟩ hlen
      have hy := run_yield (P := P) (args := encs x) hl (by rw [hrec]; exact hps x)
      rw [hrec] at hy
      refine ⟨fn, _, assign, body, hy, roundIn_of_wpIn hfn (hassign _ go pre x W _ hi ?_)⟩
      clear hy
      intro a' Wa hRa hia hax
      have hgl := hne hi hl rfl
      have hgk := hne hi hk rfl
      have hla : Wa.heap[w.heap.size + 1]? = some (.loop (rec .ready none)) := (hRa.block _ (Array.getElem?_eq_some_iff.1 hl).1 (.inr ⟨by omega, hgl⟩)).trans hl
      have hka : Wa.heap[w.heap.size]? = some (.deferred (some [])) := (hRa.block _ (Array.getElem?_eq_some_iff.1 hk).1 (.inr ⟨by omega, hgk⟩)).trans hk
      have hlt : w.heap.size + 1 < Wa.heap.size := (Array.getElem?_eq_some_iff.1 hla).1
      refine ⟨_, run_beginRound hla (by rw [hrec]), ?_⟩
      have hl2 : (Wa.putObj (w.heap.size + 1) (.loop { rec .ready none with state := .busy })).heap[w.heap.size + 1]? = some (.loop { rec .ready none with state := .busy }) := World.putObj_heap_same hlt
      have hk2 : (Wa.putObj (w.heap.size + 1) (.loop { rec .ready none with state := .busy })).heap[w.heap.size]? = some (.deferred (some [])) := (World.putObj_heap_other (by omega)).trans hka
      have hsz : ∀ (A : World) (o : Obj), (A.putObj (w.heap.size + 1) o).heap.size = A.heap.size := fun A o => by simp
      refine wpIn_mono (hbody _ go pre x a' _ (hput _ hia (by omega) hla rfl) (hAx _ _ _ _ _ _ hax hla rfl) hlen) ?_
      rintro e a3 W3 hp
      cases e with
      | normal =>
        obtain ⟨g', hi3, hR⟩ := hp
        have hl3 : W3.heap[w.heap.size + 1]? = some (.loop { rec .ready none with state := .busy }) := (hR.block _ (by rw [hsz]; omega) (.inr ⟨by omega, hgl⟩)).trans hl2
        have hk3 : W3.heap[w.heap.size]? = some (.deferred (some [])) := (hR.block _ (by rw [hsz]; omega) (.inr ⟨by omega, hgk⟩)).trans hk2
        have hr := run_endRound (P := P) none hl3
        rw [hrec] at hr
        have hrl := World.putObj_heap_same (o := .loop (rec .ready none)) (Array.getElem?_eq_some_iff.1 hl3).1
        refine ⟨_, _, hr, rfl, g', ⟨?_, ?_, ?_⟩, ⟨?_, ?_, ?_⟩⟩
        · have := hput (.loop (rec .ready none)) hi3 (by omega) hl3 rfl
          rw [hrec] at this
          exact this
        · rw [hrec] at hrl ⊢
          exact hrl
        · exact (World.putObj_heap_other (by omega)).trans hk3
        · rcases hR.own with e | ⟨k, e, hk'⟩
          · exact .inl e
          · rw [hsz] at hk'; exact .inr ⟨k, e, Nat.le_trans hRa.size hk'⟩
        · have := hR.size
          rw [hsz] at this; rw [hsz]; exact Nat.le_trans hRa.size this
        · intro k hk' hUk
          by_cases ek : k = w.heap.size + 1
          · subst ek
            rw [hl]
            rw [hrec] at hrl ⊢
            exact hrl
          · have hUk' : U k ∨ (w.heap.size ≤ k ∧ go ≠ some k) := by
              rcases hUk with h | h
              · exact .inl h
              · exact .inr ⟨by omega, h.2⟩
            exact (World.putObj_heap_other ek).trans ((hR.block k (by rw [hsz]; exact Nat.lt_of_lt_of_le hk' hRa.size) hUk').trans ((World.putObj_heap_other ek).trans (hRa.block k hk' hUk')))
      | ret => exact hp.elim
      | exit id => exact hp.elim
      | goto t => exact hp.elim
      | panic ch => exact hp.elim
      | outgrown => exact hp.elim
    · -- behind the iterator
      rintro e W2 ⟨⟨v, rfl⟩, xs, hS, go, hi, hl, hk⟩
      exact ⟨none, _, by have := run_endLoop (P := P) hl (by rw [hrec]; simp); rw [hrec] at this; exact this, hdone _ xs go _ (Nat.le_refl _) hS (hput _ hi (by omega) hl rfl) ((World.putObj_heap_other (by omega)).trans hk)⟩

end Go.Proofs.YtbnchnbblchmnaaDoor
