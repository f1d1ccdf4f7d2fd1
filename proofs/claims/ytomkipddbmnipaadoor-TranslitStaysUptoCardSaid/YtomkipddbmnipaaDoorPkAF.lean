/-
  The numbers of this program for the library's contracts of strings and unicode/utf8.
  Transliteration by tables in plain mathematics.
-/
import Derived.Test.YtomkipddbmnipaaDoorProg
import Derived.WalkKit
import Derived.Shelf.Strings.BuilderK
import Derived.Shelf.Strings.OnBuilder
import Derived.Shelf.Small.Wraps
import Derived.Shelf.Strings.Prefix
import Derived.Shelf.Strings.Cut
import Derived.Shelf.Strings.Split
import Derived.Shelf.Unicode.DecodeAny
import Derived.Test.YtomkipddbmnipaaDoorPkAD
namespace Go.Proofs.YtomkipddbmnipaaDoor
open Go.Shelf

def ren7 : Go.Shelf.Ren := ⟨fun | 99 => 32 | 103 => 49 | 138 => 74 | 143 => 75 | 145 => 56 | 146 => 55 | 166 => 50 | 169 => 52 | 195 => 81 | 197 => 51 | 206 => 46 | 210 => 64 | 217 => 83 | 218 => 82 | 219 => 76 | 220 => 68 | 221 => 67 | 224 => 85 | 225 => 84 | 240 => 65 | 260 => 66 | 266 => 88 | 267 => 86 | 268 => 73 | 276 => 72 | 314 => 89 | n => n, fun | 0 => 0 | 3 => 3 | 4 => 4 | 5 => 5 | 9 => 9 | 20 => 20 | 21 => 21 | 24 => 48 | 31 => 77 | 37 => 42 | 46 => 76 | 51 => 107 | 59 => 79 | 70 => 63 | 72 => 65 | 75 => 69 | 80 => 74 | 105 => 72 | 119 => 92 | 127 => 87 | 138 => 94 | 139 => 95 | 146 => 108 | 164 => 90 | n => n, fun | 1 => 3 | 3 => 0 | 4 => 1 | n => n⟩
theorem cutpLays : Lays.n103 Tryd.prog ren7 := {
  mixed := by kernel_rfl,
  f103 := Tryd.func49.trans (congrArg some (by kernel_rfl)),
  f206 := Tryd.func46.trans (congrArg some (by kernel_rfl)),
  f210 := Tryd.func64.trans (congrArg some (by kernel_rfl)),
  t3 := Tryd.underlying3,
  a3 := Tryd.isAgg3,
  z3 := Tryd.sizeOf3,
  v3 := Tryd.zeroValue3,
  t4 := Tryd.underlying4,
  a4 := Tryd.isAgg4,
  z4 := Tryd.sizeOf4,
  v4 := Tryd.zeroValue4,
  t9 := Tryd.underlying9,
  a9 := Tryd.isAgg9,
  z9 := Tryd.sizeOf9,
  v9 := Tryd.zeroValue9,
  t24 := Tryd.underlying48,
  a24 := Tryd.isAgg48,
  z24 := Tryd.sizeOf48,
  v24 := Tryd.zeroValue48
}
theorem hasLays : Lays.n99 Tryd.prog ren7 := {
  mixed := by kernel_rfl,
  f99 := Tryd.func32.trans (congrArg some (by kernel_rfl)),
  f206 := Tryd.func46.trans (congrArg some (by kernel_rfl)),
  t3 := Tryd.underlying3,
  a3 := Tryd.isAgg3,
  z3 := Tryd.sizeOf3,
  v3 := Tryd.zeroValue3,
  t4 := Tryd.underlying4,
  a4 := Tryd.isAgg4,
  z4 := Tryd.sizeOf4,
  v4 := Tryd.zeroValue4,
  t9 := Tryd.underlying9,
  a9 := Tryd.isAgg9,
  z9 := Tryd.sizeOf9,
  v9 := Tryd.zeroValue9
}
theorem cutLays : Lays.n145 Tryd.prog ren7 := {
  mixed := by kernel_rfl,
  f145 := Tryd.func56.trans (congrArg some (by kernel_rfl)),
  f217 := Tryd.func83.trans (congrArg some (by kernel_rfl)),
  f219 := Tryd.func76.trans (congrArg some (by kernel_rfl)),
  f220 := Tryd.func68.trans (congrArg some (by kernel_rfl)),
  f224 := Tryd.func85.trans (congrArg some (by kernel_rfl)),
  f225 := Tryd.func84.trans (congrArg some (by kernel_rfl)),
  f266 := Tryd.func88.trans (congrArg some (by kernel_rfl)),
  f267 := Tryd.func86.trans (congrArg some (by kernel_rfl)),
  f314 := Tryd.func89.trans (congrArg some (by kernel_rfl)),
  t3 := Tryd.underlying3,
  a3 := Tryd.isAgg3,
  z3 := Tryd.sizeOf3,
  v3 := Tryd.zeroValue3,
  t4 := Tryd.underlying4,
  a4 := Tryd.isAgg4,
  z4 := Tryd.sizeOf4,
  v4 := Tryd.zeroValue4,
  t5 := Tryd.underlying5,
  a5 := Tryd.isAgg5,
  z5 := Tryd.sizeOf5,
  v5 := Tryd.zeroValue5,
  t9 := Tryd.underlying9,
  a9 := Tryd.isAgg9,
  z9 := Tryd.sizeOf9,
  v9 := Tryd.zeroValue9,
  t46 := Tryd.underlying76,
  a46 := Tryd.isAgg76,
  z46 := Tryd.sizeOf76,
  v46 := Tryd.zeroValue76,
  t51 := Tryd.underlying107,
  a51 := Tryd.isAgg107,
  z51 := Tryd.sizeOf107,
  v51 := Tryd.zeroValue107,
  t59 := Tryd.underlying79,
  a59 := Tryd.isAgg79,
  z59 := Tryd.sizeOf79,
  v59 := Tryd.zeroValue79,
  t146 := Tryd.underlying108,
  a146 := Tryd.isAgg108,
  z146 := Tryd.sizeOf108,
  v146 := Tryd.zeroValue108,
  g1 := by kernel_rfl
}
theorem splitLays : Lays.n146 Tryd.prog ren7 := {
  mixed := by kernel_rfl,
  f138 := Tryd.func74.trans (congrArg some (by kernel_rfl)),
  f143 := Tryd.func75.trans (congrArg some (by kernel_rfl)),
  f146 := Tryd.func55.trans (congrArg some (by kernel_rfl)),
  f195 := Tryd.func81.trans (congrArg some (by kernel_rfl)),
  f197 := Tryd.func51.trans (congrArg some (by kernel_rfl)),
  f217 := Tryd.func83.trans (congrArg some (by kernel_rfl)),
  f218 := Tryd.func82.trans (congrArg some (by kernel_rfl)),
  f219 := Tryd.func76.trans (congrArg some (by kernel_rfl)),
  f221 := Tryd.func67.trans (congrArg some (by kernel_rfl)),
  f224 := Tryd.func85.trans (congrArg some (by kernel_rfl)),
  f225 := Tryd.func84.trans (congrArg some (by kernel_rfl)),
  f260 := Tryd.func66.trans (congrArg some (by kernel_rfl)),
  f266 := Tryd.func88.trans (congrArg some (by kernel_rfl)),
  f267 := Tryd.func86.trans (congrArg some (by kernel_rfl)),
  f268 := Tryd.func73.trans (congrArg some (by kernel_rfl)),
  f314 := Tryd.func89.trans (congrArg some (by kernel_rfl)),
  t0 := Tryd.underlying0,
  a0 := Tryd.isAgg0,
  z0 := Tryd.sizeOf0,
  v0 := Tryd.zeroValue0,
  t3 := Tryd.underlying3,
  a3 := Tryd.isAgg3,
  z3 := Tryd.sizeOf3,
  v3 := Tryd.zeroValue3,
  t4 := Tryd.underlying4,
  a4 := Tryd.isAgg4,
  z4 := Tryd.sizeOf4,
  v4 := Tryd.zeroValue4,
  t5 := Tryd.underlying5,
  a5 := Tryd.isAgg5,
  z5 := Tryd.sizeOf5,
  v5 := Tryd.zeroValue5,
  t9 := Tryd.underlying9,
  a9 := Tryd.isAgg9,
  z9 := Tryd.sizeOf9,
  v9 := Tryd.zeroValue9,
  t21 := Tryd.underlying21,
  a21 := Tryd.isAgg21,
  z21 := Tryd.sizeOf21,
  v21 := Tryd.zeroValue21,
  t31 := Tryd.underlying77,
  a31 := Tryd.isAgg77,
  z31 := Tryd.sizeOf77,
  v31 := Tryd.zeroValue77,
  t46 := Tryd.underlying76,
  a46 := Tryd.isAgg76,
  z46 := Tryd.sizeOf76,
  v46 := Tryd.zeroValue76,
  t51 := Tryd.underlying107,
  a51 := Tryd.isAgg107,
  z51 := Tryd.sizeOf107,
  v51 := Tryd.zeroValue107,
  t105 := Tryd.underlying72,
  a105 := Tryd.isAgg72,
  z105 := Tryd.sizeOf72,
  v105 := Tryd.zeroValue72,
  t119 := Tryd.underlying92,
  a119 := Tryd.isAgg92,
  z119 := Tryd.sizeOf92,
  t138 := Tryd.underlying94,
  a138 := Tryd.isAgg94,
  z138 := Tryd.sizeOf94,
  v138 := Tryd.zeroValue94,
  t139 := Tryd.underlying95,
  a139 := Tryd.isAgg95,
  z139 := Tryd.sizeOf95,
  v139 := Tryd.zeroValue95,
  t146 := Tryd.underlying108,
  a146 := Tryd.isAgg108,
  z146 := Tryd.sizeOf108,
  v146 := Tryd.zeroValue108,
  g1 := by kernel_rfl,
  g3 := by kernel_rfl,
  g4 := by kernel_rfl
}
theorem decLays : Lays.n197 Tryd.prog ren7 := {
  mixed := by kernel_rfl,
  f197 := Tryd.func51.trans (congrArg some (by kernel_rfl)),
  f260 := Tryd.func66.trans (congrArg some (by kernel_rfl)),
  t0 := Tryd.underlying0,
  a0 := Tryd.isAgg0,
  z0 := Tryd.sizeOf0,
  v0 := Tryd.zeroValue0,
  t3 := Tryd.underlying3,
  a3 := Tryd.isAgg3,
  z3 := Tryd.sizeOf3,
  v3 := Tryd.zeroValue3,
  t4 := Tryd.underlying4,
  a4 := Tryd.isAgg4,
  z4 := Tryd.sizeOf4,
  v4 := Tryd.zeroValue4,
  t5 := Tryd.underlying5,
  a5 := Tryd.isAgg5,
  z5 := Tryd.sizeOf5,
  v5 := Tryd.zeroValue5,
  t9 := Tryd.underlying9,
  a9 := Tryd.isAgg9,
  z9 := Tryd.sizeOf9,
  v9 := Tryd.zeroValue9,
  t21 := Tryd.underlying21,
  a21 := Tryd.isAgg21,
  z21 := Tryd.sizeOf21,
  v21 := Tryd.zeroValue21,
  t46 := Tryd.underlying76,
  a46 := Tryd.isAgg76,
  z46 := Tryd.sizeOf76,
  v46 := Tryd.zeroValue76,
  t105 := Tryd.underlying72,
  a105 := Tryd.isAgg72,
  z105 := Tryd.sizeOf72,
  v105 := Tryd.zeroValue72,
  t119 := Tryd.underlying92,
  a119 := Tryd.isAgg92,
  z119 := Tryd.sizeOf92,
  t138 := Tryd.underlying94,
  a138 := Tryd.isAgg94,
  z138 := Tryd.sizeOf94,
  v138 := Tryd.zeroValue94,
  t139 := Tryd.underlying95,
  a139 := Tryd.isAgg95,
  z139 := Tryd.sizeOf95,
  v139 := Tryd.zeroValue95,
  g3 := by kernel_rfl,
  g4 := by kernel_rfl
}
theorem wstrLays : Lays.n166 Tryd.prog ren7 := {
  mixed := by kernel_rfl,
  f166 := Tryd.func50.trans (congrArg some (by kernel_rfl)),
  f240 := Tryd.func65.trans (congrArg some (by kernel_rfl)),
  f276 := Tryd.func72.trans (congrArg some (by kernel_rfl)),
  t0 := Tryd.underlying0,
  a0 := Tryd.isAgg0,
  z0 := Tryd.sizeOf0,
  v0 := Tryd.zeroValue0,
  t3 := Tryd.underlying3,
  a3 := Tryd.isAgg3,
  z3 := Tryd.sizeOf3,
  v3 := Tryd.zeroValue3,
  t4 := Tryd.underlying4,
  a4 := Tryd.isAgg4,
  z4 := Tryd.sizeOf4,
  v4 := Tryd.zeroValue4,
  t9 := Tryd.underlying9,
  a9 := Tryd.isAgg9,
  z9 := Tryd.sizeOf9,
  v9 := Tryd.zeroValue9,
  t20 := Tryd.underlying20,
  a20 := Tryd.isAgg20,
  z20 := Tryd.sizeOf20,
  v20 := Tryd.zeroValue20,
  t37 := Tryd.underlying42,
  a37 := Tryd.isAgg42,
  z37 := Tryd.sizeOf42,
  v37 := Tryd.zeroValue42,
  t70 := Tryd.underlying63,
  a70 := Tryd.isAgg63,
  z70 := Tryd.sizeOf63,
  v70 := Tryd.zeroValue63,
  t72 := Tryd.underlying65,
  a72 := Tryd.isAgg65,
  z72 := Tryd.sizeOf65,
  v72 := Tryd.zeroValue65,
  t75 := Tryd.underlying69,
  a75 := Tryd.isAgg69,
  z75 := Tryd.sizeOf69,
  v75 := Tryd.zeroValue69,
  t164 := Tryd.underlying90,
  a164 := Tryd.isAgg90,
  z164 := Tryd.sizeOf90,
  v164 := Tryd.zeroValue90
}
theorem bstrLays : Lays.n169 Tryd.prog ren7 := {
  mixed := by kernel_rfl,
  f169 := Tryd.func52.trans (congrArg some (by kernel_rfl)),
  t0 := Tryd.underlying0,
  a0 := Tryd.isAgg0,
  z0 := Tryd.sizeOf0,
  v0 := Tryd.zeroValue0,
  t3 := Tryd.underlying3,
  a3 := Tryd.isAgg3,
  z3 := Tryd.sizeOf3,
  v3 := Tryd.zeroValue3,
  t9 := Tryd.underlying9,
  a9 := Tryd.isAgg9,
  z9 := Tryd.sizeOf9,
  v9 := Tryd.zeroValue9,
  t37 := Tryd.underlying42,
  a37 := Tryd.isAgg42,
  z37 := Tryd.sizeOf42,
  v37 := Tryd.zeroValue42,
  t70 := Tryd.underlying63,
  a70 := Tryd.isAgg63,
  z70 := Tryd.sizeOf63,
  v70 := Tryd.zeroValue63,
  t72 := Tryd.underlying65,
  a72 := Tryd.isAgg65,
  z72 := Tryd.sizeOf65,
  v72 := Tryd.zeroValue65,
  t127 := Tryd.underlying87,
  a127 := Tryd.isAgg87,
  z127 := Tryd.sizeOf87,
  v127 := Tryd.zeroValue87
}

theorem buildExtra7 : Builder.Extra Tryd.prog ren7 where
  sizeBuilder := by kernel_rfl
  liesBuilder := by kernel_rfl
  t5 := Tryd.underlying5
  a5 := Tryd.isAgg5
  z5 := Tryd.sizeOf5
  v5 := Tryd.zeroValue5
  infoByte := by kernel_rfl
  cellsByte := by kernel_rfl
  sizeByte := by kernel_rfl
  neB5 := by decide

end Go.Proofs.YtomkipddbmnipaaDoor

namespace Go.Proofs.YtomkipddbmnipaaDoor

abbrev RuleL := List UInt8 × List UInt8
/-- A string begins with another one. -/
def begB (s p : List UInt8) : Bool := decide (s.take p.length = p)
theorem beg_iff {s p : List UInt8} : begB s p = true ↔ ∃ r, s = p ++ r := by
  unfold begB
  rw [decide_eq_true_eq]
  constructor
  · intro h
    exact ⟨s.drop p.length, by conv => lhs; rw [← List.take_append_drop p.length s, h]⟩
  · rintro ⟨r, rfl⟩
    simp
theorem beg_drop {s p : List UInt8} (h : begB s p = true) : s = p ++ s.drop p.length := by
  obtain ⟨r, rfl⟩ := beg_iff.1 h
  simp
theorem beg_len {s p : List UInt8} (h : begB s p = true) : p.length ≤ s.length := by
  obtain ⟨r, rfl⟩ := beg_iff.1 h
  simp
theorem beg_app (p r : List UInt8) : begB (p ++ r) p = true := beg_iff.2 ⟨r, rfl⟩
/-- Of two beginnings, the shorter one is a beginning of the longer one. -/
theorem beg_two {s p q : List UInt8} (hp : begB s p = true) (hq : begB s q = true) (h : p.length ≤ q.length) : begB q p = true := by
  obtain ⟨r, rfl⟩ := beg_iff.1 hp
  obtain ⟨r2, h2⟩ := beg_iff.1 hq
  refine beg_iff.2 ⟨q.drop p.length, ?_⟩
  have h3 := congrArg (List.take p.length) h2
  rw [List.take_left, List.take_append_of_le_length h] at h3
  conv => lhs; rw [← List.take_append_drop p.length q, ← h3]
theorem beg_same {s p q : List UInt8} (hp : begB s p = true) (hq : begB s q = true) (h : p.length = q.length) : p = q := by
  obtain ⟨r, rfl⟩ := beg_iff.1 hp
  obtain ⟨r2, h2⟩ := beg_iff.1 hq
  have h3 := congrArg (List.take p.length) h2
  rw [List.take_left, h, List.take_left] at h3
  exact h3

/-! The rule with the longest From; the first one of these. -/
def better (s : List UInt8) (o : Option RuleL) (x : RuleL) : Option RuleL :=
  if (begB s x.1 && (match o with | none => true | some y => decide (y.1.length < x.1.length))) = true then some x else o
def bestL (t : List RuleL) (s : List UInt8) : Option RuleL := t.foldl (better s) none
/-- What is the best of the rules looked at so far. -/
def BestOf (t : List RuleL) (s : List UInt8) (o : Option RuleL) : Prop :=
  match o with
  | none => ∀ y ∈ t, begB s y.1 = false
  | some x => ∃ i, t[i]? = some x ∧ begB s x.1 = true ∧ (∀ y ∈ t, begB s y.1 = true → y.1.length ≤ x.1.length) ∧ ∀ (j : Nat) (y : RuleL), j < i → t[j]? = some y → begB s y.1 = true → y.1.length < x.1.length
theorem best_nil (s : List UInt8) : BestOf [] s none := fun y hy => by simp at hy
theorem best_step {t : List RuleL} {s : List UInt8} {o : Option RuleL} (h : BestOf t s o) (x : RuleL) : BestOf (t ++ [x]) s (better s o x) := by
  unfold better
  cases o with
  | none =>
    by_cases hx : begB s x.1 = true
    · rw [if_pos (by simpa using hx)]
      refine ⟨t.length, by simp, hx, fun y hy hb => ?_, fun j y hj hy hb => ?_⟩
      · rcases List.mem_append.1 hy with hy | hy
        · rw [h y hy] at hb; cases hb
        · rw [List.mem_singleton.1 hy]; exact Nat.le_refl _
      · rw [List.getElem?_append_left hj] at hy
        rw [h y (List.mem_of_getElem? hy)] at hb
        cases hb
    · rw [if_neg (by simpa using hx)]
      intro y hy
      rcases List.mem_append.1 hy with hy | hy
      · exact h y hy
      · rw [List.mem_singleton.1 hy]; simpa using hx
  | some z =>
    obtain ⟨i, hi, hz, hall, hfirst⟩ := h
    have hil := (List.getElem?_eq_some_iff.1 hi).1
    by_cases hx : begB s x.1 = true ∧ z.1.length < x.1.length
    · rw [if_pos (by simpa using hx)]
      refine ⟨t.length, by simp, hx.1, fun y hy hb => ?_, fun j y hj hy hb => ?_⟩
      · rcases List.mem_append.1 hy with hy | hy
        · have := hall y hy hb; omega
        · rw [List.mem_singleton.1 hy]; exact Nat.le_refl _
      · rw [List.getElem?_append_left hj] at hy
        have := hall y (List.mem_of_getElem? hy) hb
        omega
    · rw [if_neg (by simpa using hx)]
      refine ⟨i, by rw [List.getElem?_append_left hil]; exact hi, hz, fun y hy hb => ?_, fun j y hj hy hb => ?_⟩
      · rcases List.mem_append.1 hy with hy | hy
        · exact hall y hy hb
        · rw [List.mem_singleton.1 hy] at hb ⊢
          have : ¬ z.1.length < x.1.length := fun h => hx ⟨hb, h⟩
          omega
      · rw [List.getElem?_append_left (by omega)] at hy
        exact hfirst j y hj hy hb
theorem best_fold : ∀ (l t : List RuleL) (s : List UInt8) (o : Option RuleL), BestOf t s o → BestOf (t ++ l) s (l.foldl (better s) o)
  | [], t, s, o, h => by rw [List.append_nil]; exact h
  | x :: l, t, s, o, h => by
    have := best_fold l (t ++ [x]) s _ (best_step h x)
    rw [List.append_assoc] at this
    exact this
theorem best_of (t : List RuleL) (s : List UInt8) : BestOf t s (bestL t s) := best_fold t [] s none (best_nil s)
theorem best_unique {t : List RuleL} {s : List UInt8} {o o' : Option RuleL} (h : BestOf t s o) (h' : BestOf t s o') : o = o' := by
  cases o with
  | none =>
    cases o' with
    | none => rfl
    | some x =>
      obtain ⟨i, hi, hb, _⟩ := h'
      rw [h x (List.mem_of_getElem? hi)] at hb
      cases hb
  | some x =>
    obtain ⟨i, hi, hb, hall, hf⟩ := h
    cases o' with
    | none =>
      rw [h' x (List.mem_of_getElem? hi)] at hb
      cases hb
    | some y =>
      obtain ⟨j, hj, hb', hall', hf'⟩ := h'
      have h1 := hall y (List.mem_of_getElem? hj) hb'
      have h2 := hall' x (List.mem_of_getElem? hi) hb
      rcases Nat.lt_trichotomy i j with hlt | rfl | hgt
      · have := hf' i x hlt hi hb; omega
      · rw [hi] at hj; exact hj
      · have := hf j y hgt hj hb'; omega
theorem best_eq {t : List RuleL} {s : List UInt8} {o : Option RuleL} (h : BestOf t s o) : bestL t s = o := best_unique (best_of t s) h
theorem best_mem {t : List RuleL} {s : List UInt8} {x : RuleL} (h : bestL t s = some x) : x ∈ t ∧ begB s x.1 = true := by
  have := best_of t s
  rw [h] at this
  obtain ⟨i, hi, hb, _⟩ := this
  exact ⟨List.mem_of_getElem? hi, hb⟩
/-- A rule whose From is longer than that of every other one with which the string begins. -/
theorem best_only {t : List RuleL} {s : List UInt8} {x : RuleL} (hx : x ∈ t) (hb : begB s x.1 = true) (h : ∀ y ∈ t, begB s y.1 = true → y = x ∨ y.1.length < x.1.length) : bestL t s = some x := by
  have hbo := best_of t s
  cases ho : bestL t s with
  | none =>
    rw [ho] at hbo
    rw [hbo x hx] at hb
    cases hb
  | some y =>
    rw [ho] at hbo
    obtain ⟨i, hi, hy, hall, _⟩ := hbo
    have h1 := hall x hx hb
    rcases h y (List.mem_of_getElem? hi) hy with rfl | h2
    · rfl
    · omega

/-! Running a table. -/
/-- The first character. -/
def cut1 (s : List UInt8) : List UInt8 := s.take (atR s).2
def runF : Nat → List RuleL → List UInt8 → List UInt8 × Nat
  | 0, _, _ => ([], 0)
  | f + 1, t, s => if s = [] then ([], 0) else match bestL t s with
    | some x => let r := runF f t (s.drop x.1.length); (x.2 ++ r.1, r.2)
    | none => let r := runF f t (s.drop (cut1 s).length); (cut1 s ++ r.1, r.2 + 1)
def runL (t : List RuleL) (s : List UInt8) : List UInt8 × Nat := runF s.length t s
/-- A side of a rule. -/
def sideB (s : List UInt8) : Bool := match decR s with | some l => decide (1 ≤ l.length) && decide (l.length ≤ 6) | none => false
theorem side_enc {s : List UInt8} (h : sideB s = true) : ∃ l, decR s = some l ∧ encL l = s ∧ (∀ c ∈ l, okC c) ∧ 1 ≤ l.length ∧ l.length ≤ 6 := by
  unfold sideB at h
  cases hd : decR s with
  | none => rw [hd] at h; cases h
  | some l =>
    rw [hd] at h
    simp only [Bool.and_eq_true, decide_eq_true_eq] at h
    obtain ⟨h1, h2⟩ := enc_dec hd
    exact ⟨l, rfl, h1, h2, h⟩
theorem side_ne {s : List UInt8} (h : sideB s = true) : s ≠ [] := by
  obtain ⟨l, h1, _, _, h2, _⟩ := side_enc h
  rintro rfl
  rw [decR_nil] at h1
  injection h1 with h1
  rw [← h1] at h2
  simp at h2
/-- All Froms are sides. -/
def Good (t : List RuleL) : Prop := ∀ x ∈ t, sideB x.1 = true
theorem cut1_enc {c : Nat} (h : c < 65536) (r : List UInt8) : cut1 (encC c ++ r) = encC c := by
  unfold cut1
  rw [atR_enc h]
  exact List.take_left
theorem cut1_some {s : List UInt8} {l : List Nat} (h : decR s = some l) (h0 : s ≠ []) : ∃ c m, l = c :: m ∧ okC c ∧ cut1 s = encC c ∧ s = encC c ++ encL m ∧ decR (encL m) = some m ∧ (∀ x ∈ m, okC x) := by
  obtain ⟨h1, h2⟩ := enc_dec h
  cases l with
  | nil => exact absurd h1.symm h0
  | cons c m =>
    have hm : ∀ x ∈ m, okC x := fun x hx => h2 x (by simp [hx])
    have hs : s = encC c ++ encL m := h1.symm
    refine ⟨c, m, rfl, h2 c (by simp), ?_, hs, dec_enc m hm, hm⟩
    rw [hs]
    exact cut1_enc (h2 c (by simp)).1 _
/-- What is left behind a beginning that is encoded is encoded. -/
theorem enc_rest {s p : List UInt8} {l k : List Nat} (hs : decR s = some l) (hp : decR p = some k) (hb : begB s p = true) : ∃ m, decR (s.drop p.length) = some m ∧ l = k ++ m := by
  have h1 := beg_drop hb
  have h2 := dec_app (t := s.drop p.length) hp
  rw [← h1, hs] at h2
  cases hm : decR (s.drop p.length) with
  | none => rw [hm] at h2; cases h2
  | some m => rw [hm] at h2; exact ⟨m, rfl, Option.some.inj h2⟩
theorem drop_cut {s : List UInt8} {c : Nat} {m : List Nat} (hcut : cut1 s = encC c) (hs : s = encC c ++ encL m) : s.drop (cut1 s).length = encL m := by
  rw [hcut, hs]
  exact List.drop_left
theorem len_enc {s : List UInt8} {c : Nat} {m : List Nat} (hs : s = encC c ++ encL m) : (encL m).length + (encC c).length = s.length := by
  rw [hs, List.length_append, Nat.add_comm]
theorem runF_more {t : List RuleL} (hg : Good t) : ∀ (f g : Nat) (s : List UInt8) (l : List Nat), decR s = some l → s.length ≤ f → s.length ≤ g → runF f t s = runF g t s
  | 0, 0, _, _, _, _, _ => rfl
  | 0, g + 1, s, _, _, h, _ => by
    have : s = [] := List.length_eq_zero_iff.1 (by omega)
    subst this
    rfl
  | f + 1, 0, s, _, _, _, h => by
    have : s = [] := List.length_eq_zero_iff.1 (by omega)
    subst this
    rfl
  | f + 1, g + 1, s, l, hd, hf, hg' => by
    rw [runF, runF]
    by_cases h0 : s = []
    · rw [if_pos h0, if_pos h0]
    · rw [if_neg h0, if_neg h0]
      have hl : 0 < s.length := List.length_pos_iff.2 h0
      cases hb : bestL t s with
      | none =>
        obtain ⟨c, m, hlm, hc, hcut, hs, hm, _⟩ := cut1_some hd h0
        have hcl := (encC_len c).1
        have hdr : s.drop (cut1 s).length = encL m := drop_cut hcut hs
        have hlen : (encL m).length + (encC c).length = s.length := len_enc hs
        have := runF_more hg f g (encL m) m hm (by omega) (by omega)
        simp only [hdr, this]
      | some x =>
        obtain ⟨hx, hbx⟩ := best_mem hb
        obtain ⟨k, hk, _, _, _, _⟩ := side_enc (hg x hx)
        obtain ⟨m, hm, _⟩ := enc_rest hd hk hbx
        have hne := side_ne (hg x hx)
        have hxl : 0 < x.1.length := List.length_pos_iff.2 hne
        have := runF_more hg f g (s.drop x.1.length) m hm (by rw [List.length_drop]; omega) (by rw [List.length_drop]; omega)
        simp only [this]
theorem run_nil (t : List RuleL) : runL t [] = ([], 0) := rfl
theorem run_some {t : List RuleL} (hg : Good t) {s : List UInt8} {l : List Nat} (hd : decR s = some l) (h0 : s ≠ []) {x : RuleL} (hb : bestL t s = some x) :
    runL t s = (x.2 ++ (runL t (s.drop x.1.length)).1, (runL t (s.drop x.1.length)).2) := by
  have hl : 0 < s.length := List.length_pos_iff.2 h0
  obtain ⟨hx, hbx⟩ := best_mem hb
  obtain ⟨k, hk, _, _, _, _⟩ := side_enc (hg x hx)
  obtain ⟨m, hm, _⟩ := enc_rest hd hk hbx
  have hxl : 0 < x.1.length := List.length_pos_iff.2 (side_ne (hg x hx))
  obtain ⟨n, hn⟩ : ∃ n, s.length = n + 1 := ⟨s.length - 1, by omega⟩
  have e : runL t (s.drop x.1.length) = runF n t (s.drop x.1.length) := runF_more hg _ _ _ m hm (Nat.le_refl _) (by rw [List.length_drop]; omega)
  rw [e]
  unfold runL
  rw [hn, runF, if_neg h0, hb]
theorem run_none {t : List RuleL} (hg : Good t) {s : List UInt8} {l : List Nat} (hd : decR s = some l) (h0 : s ≠ []) (hb : bestL t s = none) :
    runL t s = (cut1 s ++ (runL t (s.drop (cut1 s).length)).1, (runL t (s.drop (cut1 s).length)).2 + 1) := by
  have hl : 0 < s.length := List.length_pos_iff.2 h0
  obtain ⟨c, m, hlm, hc, hcut, hs, hm, _⟩ := cut1_some hd h0
  have hcl := (encC_len c).1
  have hdr : s.drop (cut1 s).length = encL m := drop_cut hcut hs
  have hlen : (encL m).length + (encC c).length = s.length := len_enc hs
  obtain ⟨n, hn⟩ : ∃ n, s.length = n + 1 := ⟨s.length - 1, by omega⟩
  have e : runL t (s.drop (cut1 s).length) = runF n t (s.drop (cut1 s).length) := by rw [hdr]; exact runF_more hg _ _ _ m hm (Nat.le_refl _) (by omega)
  rw [e]
  unfold runL
  rw [hn, runF, if_neg h0, hb]

end Go.Proofs.YtomkipddbmnipaaDoor
