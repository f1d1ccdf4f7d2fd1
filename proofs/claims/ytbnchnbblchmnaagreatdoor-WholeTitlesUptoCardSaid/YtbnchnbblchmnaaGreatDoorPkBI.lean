/-
  The program's articles() builds its map.
  The numbers of this program for the library's contracts of slices.Sorted over maps.Keys.
  The program's Languages, Articles.
  The program's own Is, Alike, Join.
  The numbers of this program for the library's contracts of strings.
-/
import Derived.Test.YtbnchnbblchmnaaGreatDoorPkBH
import Derived.Test.YtbnchnbblchmnaaGreatDoorProg
import Derived.WalkKit
import Derived.Shelf.SlIter.Nil
import Derived.Shelf.SortM.Plain
import Derived.Shelf.SortM.SortNone
import Derived.Test.YtbnchnbblchmnaaGreatDoorPkAF
import Derived.Test.YtbnchnbblchmnaaGreatDoorPkAW
import Derived.Shelf.Strings.Prefix
namespace Go.Proofs.YtbnchnbblchmnaaGreatDoor
open Go.RowKit Go.Maps

set_option maxRecDepth 100000 in
set_option maxHeartbeats 6400000 in
theorem articles_any (w : World) : Calls Tryz.prog 136 #[] w fun e w' => ∃ D, e = .returned (.map (some w.heap.size)) ∧ ArtMap w' w.heap.size 10 D (langT.zip artT) ∧ Below w.heap.size w w' := by
  have hmm := @run_makeMap Tryz.prog
  have A0 := ArtMap.start w
  have g0 : Below w.heap.size w (w.alloc (.map #[] 0)) := (Below.refl _ _).alloc (Nat.le_refl _) _
  obtain ⟨W1, r1, ⟨D1, A1⟩, h1⟩ := A0.put [100, 97, 110] [[101, 110], [101, 116], [100, 101, 110], [100, 101, 116]] 4 #[.string ⟨#[101, 110]⟩, .string ⟨#[101, 116]⟩, .string ⟨#[100, 101, 110]⟩, .string ⟨#[100, 101, 116]⟩] rfl (by kernel_rfl) (by decide +kernel) (by omega) (by decide)
  have q1 : (Instr.mapUpdate 161 (.map (some w.heap.size)) (.string ⟨#[100, 97, 110]⟩) (.slice (some ⟨(w.heap.size + 1), 0, none⟩) 4 4)).run Tryz.prog ((w.alloc (.map #[] 0)).alloc (.cells #[.string ⟨#[101, 110]⟩, .string ⟨#[101, 116]⟩, .string ⟨#[100, 101, 110]⟩, .string ⟨#[100, 101, 116]⟩] 9)) = .ok () W1 := by
    have e : (w.alloc (.map #[] 0)).heap.size = w.heap.size + 1 := by simp
    rw [← e]
    exact r1
  have g1 : Below w.heap.size w W1 := below_grown g0 h1 (Nat.le_refl _) (fun g e => by injection e with e; omega)
  clear r1 h1 A0 g0
  obtain ⟨W2, r2, ⟨D2, A2⟩, h2⟩ := A1.put [100, 117, 116] [[100, 101], [104, 101, 116], [101, 101, 110], [39, 116]] 4 #[.string ⟨#[100, 101]⟩, .string ⟨#[104, 101, 116]⟩, .string ⟨#[101, 101, 110]⟩, .string ⟨#[39, 116]⟩] rfl (by kernel_rfl) (by decide +kernel) (by omega) (by decide)
  have q2 : (Instr.mapUpdate 161 (.map (some w.heap.size)) (.string ⟨#[100, 117, 116]⟩) (.slice (some ⟨W1.heap.size, 0, none⟩) 4 4)).run Tryz.prog (W1.alloc (.cells #[.string ⟨#[100, 101]⟩, .string ⟨#[104, 101, 116]⟩, .string ⟨#[101, 101, 110]⟩, .string ⟨#[39, 116]⟩] 9)) = .ok () W2 := by
    exact r2
  have g2 : Below w.heap.size w W2 := below_grown g1 h2 (Nat.le_refl _) (fun g e => by injection e with e; omega)
  clear r2 h2 A1 g1
  obtain ⟨W3, r3, ⟨D3, A3⟩, h3⟩ := A2.put [101, 110, 103] [[116, 104, 101], [97], [97, 110]] 3 #[.string ⟨#[116, 104, 101]⟩, .string ⟨#[97]⟩, .string ⟨#[97, 110]⟩] rfl (by kernel_rfl) (by decide +kernel) (by omega) (by decide)
  have q3 : (Instr.mapUpdate 161 (.map (some w.heap.size)) (.string ⟨#[101, 110, 103]⟩) (.slice (some ⟨W2.heap.size, 0, none⟩) 3 3)).run Tryz.prog (W2.alloc (.cells #[.string ⟨#[116, 104, 101]⟩, .string ⟨#[97]⟩, .string ⟨#[97, 110]⟩] 9)) = .ok () W3 := by
    exact r3
  have g3 : Below w.heap.size w W3 := below_grown g2 h3 (Nat.le_refl _) (fun g e => by injection e with e; omega)
  clear r3 h3 A2 g2
  obtain ⟨W4, r4, ⟨D4, A4⟩, h4⟩ := A3.put [102, 114, 101] [[108, 101], [108, 97], [108, 101, 115], [108, 39], [117, 110], [117, 110, 101], [100, 101, 115]] 7 #[.string ⟨#[108, 101]⟩, .string ⟨#[108, 97]⟩, .string ⟨#[108, 101, 115]⟩, .string ⟨#[108, 39]⟩, .string ⟨#[117, 110]⟩, .string ⟨#[117, 110, 101]⟩, .string ⟨#[100, 101, 115]⟩] rfl (by kernel_rfl) (by decide +kernel) (by omega) (by decide)
  have q4 : (Instr.mapUpdate 161 (.map (some w.heap.size)) (.string ⟨#[102, 114, 101]⟩) (.slice (some ⟨W3.heap.size, 0, none⟩) 7 7)).run Tryz.prog (W3.alloc (.cells #[.string ⟨#[108, 101]⟩, .string ⟨#[108, 97]⟩, .string ⟨#[108, 101, 115]⟩, .string ⟨#[108, 39]⟩, .string ⟨#[117, 110]⟩, .string ⟨#[117, 110, 101]⟩, .string ⟨#[100, 101, 115]⟩] 9)) = .ok () W4 := by
    exact r4
  have g4 : Below w.heap.size w W4 := below_grown g3 h4 (Nat.le_refl _) (fun g e => by injection e with e; omega)
  clear r4 h4 A3 g3
  obtain ⟨W5, r5, ⟨D5, A5⟩, h5⟩ := A4.put [103, 101, 114] [[100, 101, 114], [100, 105, 101], [100, 97, 115], [101, 105, 110], [101, 105, 110, 101]] 5 #[.string ⟨#[100, 101, 114]⟩, .string ⟨#[100, 105, 101]⟩, .string ⟨#[100, 97, 115]⟩, .string ⟨#[101, 105, 110]⟩, .string ⟨#[101, 105, 110, 101]⟩] rfl (by kernel_rfl) (by decide +kernel) (by omega) (by decide)
  have q5 : (Instr.mapUpdate 161 (.map (some w.heap.size)) (.string ⟨#[103, 101, 114]⟩) (.slice (some ⟨W4.heap.size, 0, none⟩) 5 5)).run Tryz.prog (W4.alloc (.cells #[.string ⟨#[100, 101, 114]⟩, .string ⟨#[100, 105, 101]⟩, .string ⟨#[100, 97, 115]⟩, .string ⟨#[101, 105, 110]⟩, .string ⟨#[101, 105, 110, 101]⟩] 9)) = .ok () W5 := by
    exact r5
  have g5 : Below w.heap.size w W5 := below_grown g4 h5 (Nat.le_refl _) (fun g e => by injection e with e; omega)
  clear r5 h5 A4 g4
  obtain ⟨W6, r6, ⟨D6, A6⟩, h6⟩ := A5.put [103, 114, 101] [[206, 191], [206, 183], [207, 132, 206, 191], [206, 191, 206, 185], [207, 132, 206, 177]] 5 #[.string ⟨#[206, 191]⟩, .string ⟨#[206, 183]⟩, .string ⟨#[207, 132, 206, 191]⟩, .string ⟨#[206, 191, 206, 185]⟩, .string ⟨#[207, 132, 206, 177]⟩] rfl (by kernel_rfl) (by decide +kernel) (by omega) (by decide)
  have q6 : (Instr.mapUpdate 161 (.map (some w.heap.size)) (.string ⟨#[103, 114, 101]⟩) (.slice (some ⟨W5.heap.size, 0, none⟩) 5 5)).run Tryz.prog (W5.alloc (.cells #[.string ⟨#[206, 191]⟩, .string ⟨#[206, 183]⟩, .string ⟨#[207, 132, 206, 191]⟩, .string ⟨#[206, 191, 206, 185]⟩, .string ⟨#[207, 132, 206, 177]⟩] 9)) = .ok () W6 := by
    exact r6
  have g6 : Below w.heap.size w W6 := below_grown g5 h6 (Nat.le_refl _) (fun g e => by injection e with e; omega)
  clear r6 h6 A5 g5
  obtain ⟨W7, r7, ⟨D7, A7⟩, h7⟩ := A6.put [105, 116, 97] [[105, 108], [108, 111], [108, 97], [105], [103, 108, 105], [108, 101], [108, 39], [117, 110], [117, 110, 111], [117, 110, 97]] 10 #[.string ⟨#[105, 108]⟩, .string ⟨#[108, 111]⟩, .string ⟨#[108, 97]⟩, .string ⟨#[105]⟩, .string ⟨#[103, 108, 105]⟩, .string ⟨#[108, 101]⟩, .string ⟨#[108, 39]⟩, .string ⟨#[117, 110]⟩, .string ⟨#[117, 110, 111]⟩, .string ⟨#[117, 110, 97]⟩] rfl (by kernel_rfl) (by decide +kernel) (by omega) (by decide)
  have q7 : (Instr.mapUpdate 161 (.map (some w.heap.size)) (.string ⟨#[105, 116, 97]⟩) (.slice (some ⟨W6.heap.size, 0, none⟩) 10 10)).run Tryz.prog (W6.alloc (.cells #[.string ⟨#[105, 108]⟩, .string ⟨#[108, 111]⟩, .string ⟨#[108, 97]⟩, .string ⟨#[105]⟩, .string ⟨#[103, 108, 105]⟩, .string ⟨#[108, 101]⟩, .string ⟨#[108, 39]⟩, .string ⟨#[117, 110]⟩, .string ⟨#[117, 110, 111]⟩, .string ⟨#[117, 110, 97]⟩] 9)) = .ok () W7 := by
    exact r7
  have g7 : Below w.heap.size w W7 := below_grown g6 h7 (Nat.le_refl _) (fun g e => by injection e with e; omega)
  clear r7 h7 A6 g6
  obtain ⟨W8, r8, ⟨D8, A8⟩, h8⟩ := A7.put [112, 111, 114] [[111], [97], [111, 115], [97, 115], [117, 109], [117, 109, 97]] 6 #[.string ⟨#[111]⟩, .string ⟨#[97]⟩, .string ⟨#[111, 115]⟩, .string ⟨#[97, 115]⟩, .string ⟨#[117, 109]⟩, .string ⟨#[117, 109, 97]⟩] rfl (by kernel_rfl) (by decide +kernel) (by omega) (by decide)
  have q8 : (Instr.mapUpdate 161 (.map (some w.heap.size)) (.string ⟨#[112, 111, 114]⟩) (.slice (some ⟨W7.heap.size, 0, none⟩) 6 6)).run Tryz.prog (W7.alloc (.cells #[.string ⟨#[111]⟩, .string ⟨#[97]⟩, .string ⟨#[111, 115]⟩, .string ⟨#[97, 115]⟩, .string ⟨#[117, 109]⟩, .string ⟨#[117, 109, 97]⟩] 9)) = .ok () W8 := by
    exact r8
  have g8 : Below w.heap.size w W8 := below_grown g7 h8 (Nat.le_refl _) (fun g e => by injection e with e; omega)
  clear r8 h8 A7 g7
  obtain ⟨W9, r9, ⟨D9, A9⟩, h9⟩ := A8.put [115, 112, 97] [[101, 108], [108, 97], [108, 111, 115], [108, 97, 115], [117, 110], [117, 110, 97]] 6 #[.string ⟨#[101, 108]⟩, .string ⟨#[108, 97]⟩, .string ⟨#[108, 111, 115]⟩, .string ⟨#[108, 97, 115]⟩, .string ⟨#[117, 110]⟩, .string ⟨#[117, 110, 97]⟩] rfl (by kernel_rfl) (by decide +kernel) (by omega) (by decide)
  have q9 : (Instr.mapUpdate 161 (.map (some w.heap.size)) (.string ⟨#[115, 112, 97]⟩) (.slice (some ⟨W8.heap.size, 0, none⟩) 6 6)).run Tryz.prog (W8.alloc (.cells #[.string ⟨#[101, 108]⟩, .string ⟨#[108, 97]⟩, .string ⟨#[108, 111, 115]⟩, .string ⟨#[108, 97, 115]⟩, .string ⟨#[117, 110]⟩, .string ⟨#[117, 110, 97]⟩] 9)) = .ok () W9 := by
    exact r9
  have g9 : Below w.heap.size w W9 := below_grown g8 h9 (Nat.le_refl _) (fun g e => by injection e with e; omega)
  clear r9 h9 A8 g8
  obtain ⟨W10, r10, ⟨D10, A10⟩, h10⟩ := A9.put [115, 119, 101] [[101, 110], [101, 116, 116], [100, 101, 110], [100, 101, 116]] 4 #[.string ⟨#[101, 110]⟩, .string ⟨#[101, 116, 116]⟩, .string ⟨#[100, 101, 110]⟩, .string ⟨#[100, 101, 116]⟩] rfl (by kernel_rfl) (by decide +kernel) (by omega) (by decide)
  have q10 : (Instr.mapUpdate 161 (.map (some w.heap.size)) (.string ⟨#[115, 119, 101]⟩) (.slice (some ⟨W9.heap.size, 0, none⟩) 4 4)).run Tryz.prog (W9.alloc (.cells #[.string ⟨#[101, 110]⟩, .string ⟨#[101, 116, 116]⟩, .string ⟨#[100, 101, 110]⟩, .string ⟨#[100, 101, 116]⟩] 9)) = .ok () W10 := by
    exact r10
  have g10 : Below w.heap.size w W10 := below_grown g9 h10 (Nat.le_refl _) (fun g e => by injection e with e; omega)
  clear r10 h10 A9 g9
  have HA := Lib.hid A10
  have HG := Lib.hid g10
  clear A10 g10
  go_enter Tryz.func136, Tryz.ntmps136
  go_wp2
  go_ret
  exact ⟨_, rfl, HA.out, HG.out⟩

end Go.Proofs.YtbnchnbblchmnaaGreatDoor

namespace Go.Proofs.YtbnchnbblchmnaaGreatDoor
open Go.Shelf

def renK : Go.Shelf.Ren := ⟨fun  | n => n, fun | 0 => 0 | 1 => 1 | 2 => 2 | 3 => 25 | 4 => 4 | 5 => 5 | 6 => 6 | 7 => 7 | 8 => 8 | 9 => 9 | 10 => 10 | 11 => 11 | 12 => 12 | 13 => 13 | 14 => 14 | 15 => 15 | 16 => 16 | 17 => 17 | 18 => 18 | 19 => 19 | 20 => 20 | 21 => 21 | 23 => 161 | 24 => 25 | 25 => 50 | 26 => 9 | 27 => 51 | 28 => 52 | 32 => 95 | 33 => 45 | 34 => 124 | 35 => 125 | 36 => 97 | 37 => 98 | 38 => 149 | 39 => 127 | 40 => 128 | 41 => 150 | 42 => 151 | 43 => 152 | 44 => 153 | 45 => 133 | 46 => 154 | 47 => 135 | 48 => 136 | 49 => 137 | 50 => 138 | 51 => 155 | 52 => 156 | 53 => 157 | 54 => 171 | 55 => 159 | 56 => 172 | 57 => 173 | 58 => 72 | 59 => 195 | 60 => 84 | 61 => 206 | 62 => 207 | 63 => 208 | 64 => 209 | 65 => 210 | 66 => 88 | 67 => 211 | 68 => 212 | 69 => 213 | 70 => 115 | 71 => 214 | 72 => 215 | 73 => 216 | 74 => 217 | 75 => 147 | n => n, fun  | n => n⟩
def renZ : Go.Shelf.Ren := ⟨fun | 6 => 26 | 8 => 56 | 9 => 57 | 11 => 88 | n => n, fun | 0 => 0 | 1 => 1 | 2 => 2 | 3 => 3 | 4 => 4 | 5 => 5 | 6 => 6 | 7 => 7 | 8 => 8 | 9 => 9 | 10 => 10 | 11 => 11 | 12 => 12 | 13 => 13 | 14 => 14 | 15 => 15 | 16 => 16 | 17 => 17 | 18 => 18 | 19 => 19 | 20 => 20 | 21 => 21 | 23 => 161 | 24 => 25 | 25 => 50 | 26 => 9 | 27 => 51 | 28 => 52 | 32 => 95 | 33 => 45 | 34 => 124 | 35 => 125 | 36 => 97 | 37 => 98 | 38 => 149 | 39 => 127 | 40 => 128 | 41 => 150 | 42 => 151 | 43 => 152 | 44 => 153 | 45 => 133 | 46 => 154 | 47 => 135 | 48 => 136 | 49 => 137 | 50 => 138 | 51 => 155 | 52 => 156 | 53 => 157 | 54 => 171 | 55 => 159 | 56 => 172 | 57 => 173 | 58 => 72 | 59 => 195 | 60 => 84 | 61 => 206 | 62 => 207 | 63 => 208 | 64 => 209 | 65 => 210 | 66 => 88 | 67 => 211 | 68 => 212 | 69 => 213 | 70 => 115 | 71 => 214 | 72 => 215 | 73 => 216 | 74 => 217 | 75 => 147 | n => n, fun  | n => n⟩
def renM : Go.Shelf.Ren := ⟨fun | 6 => 57 | 8 => 60 | 9 => 89 | 19 => 99 | 20 => 100 | 21 => 121 | 22 => 122 | 23 => 123 | 24 => 124 | 25 => 125 | 26 => 126 | 27 => 127 | 28 => 128 | 29 => 129 | 31 => 131 | 32 => 132 | 36 => 150 | 37 => 151 | 38 => 152 | 39 => 153 | 41 => 164 | n => n, fun | 0 => 0 | 1 => 1 | 2 => 2 | 3 => 3 | 4 => 4 | 5 => 5 | 6 => 6 | 7 => 7 | 8 => 8 | 9 => 9 | 10 => 10 | 11 => 11 | 12 => 12 | 13 => 13 | 14 => 14 | 15 => 15 | 16 => 16 | 17 => 17 | 18 => 18 | 19 => 19 | 20 => 20 | 21 => 21 | 22 => 25 | 23 => 25 | 24 => 95 | 25 => 9 | 26 => 25 | 27 => 25 | 28 => 95 | 29 => 9 | 30 => 125 | 31 => 97 | 32 => 98 | 33 => 125 | 34 => 149 | 35 => 127 | 36 => 128 | 37 => 150 | 38 => 151 | 39 => 152 | 40 => 153 | 41 => 133 | 42 => 154 | 43 => 135 | 44 => 136 | 45 => 137 | 46 => 138 | 47 => 149 | 48 => 150 | 49 => 151 | 50 => 152 | 51 => 153 | 52 => 154 | 53 => 155 | 54 => 156 | 55 => 157 | 56 => 171 | 57 => 159 | 58 => 172 | 59 => 45 | 60 => 171 | 61 => 172 | 62 => 45 | 63 => 173 | 64 => 72 | 65 => 195 | 66 => 195 | 67 => 84 | 68 => 206 | 69 => 207 | 70 => 208 | 71 => 209 | 72 => 210 | 73 => 88 | 74 => 211 | 75 => 212 | 76 => 213 | 77 => 115 | 78 => 214 | 79 => 215 | 80 => 216 | 81 => 217 | 82 => 147 | n => n, fun  | n => n⟩
theorem sortedZ : SlLaysZ.n6 Tryz.prog renZ := {
  mixed := by kernel_rfl,
  f6 := ⟨ "slices.Sorted[string]", by kernel_rfl, Tryz.func26.trans (congrArg some (by kernel_rfl))⟩,
  f8 := ⟨ "slices.Collect[string]", by kernel_rfl, Tryz.func56.trans (congrArg some (by kernel_rfl))⟩,
  f11 := ⟨ "slices.AppendSeq[[]string,string]", by kernel_rfl, Tryz.func88.trans (congrArg some (by kernel_rfl))⟩,
  t0 := Tryz.underlying0,
  a0 := Tryz.isAgg0,
  z0 := Tryz.sizeOf0,
  v0 := Tryz.zeroValue0,
  t24 := Tryz.underlying25,
  a24 := Tryz.isAgg25,
  z24 := Tryz.sizeOf25,
  v24 := Tryz.zeroValue25,
  t26 := Tryz.underlying9,
  a26 := Tryz.isAgg9,
  z26 := Tryz.sizeOf9,
  v26 := Tryz.zeroValue9,
  t28 := Tryz.underlying52,
  a28 := Tryz.isAgg52,
  z28 := Tryz.sizeOf52,
  v28 := Tryz.zeroValue52,
  i26 := by kernel_rfl
}
theorem sortM : SlLaysM.n6 Tryz.prog renM := {
  mixed := by kernel_rfl,
  f6 := ⟨ "slices.Sort[[]string,string]", by kernel_rfl, Tryz.func57.trans (congrArg some (by kernel_rfl))⟩,
  f8 := Tryz.func60.trans (congrArg some (by kernel_rfl)),
  f9 := ⟨ "slices.pdqsortOrdered[string]", by kernel_rfl, Tryz.func89.trans (congrArg some (by kernel_rfl))⟩,
  f19 := Tryz.func99.trans (congrArg some (by kernel_rfl)),
  f20 := Tryz.func100.trans (congrArg some (by kernel_rfl)),
  f21 := ⟨ "slices.insertionSortOrdered[string]", by kernel_rfl, Tryz.func121.trans (congrArg some (by kernel_rfl))⟩,
  f22 := ⟨ "slices.heapSortOrdered[string]", by kernel_rfl, Tryz.func122.trans (congrArg some (by kernel_rfl))⟩,
  f23 := ⟨ "slices.breakPatternsOrdered[string]", by kernel_rfl, Tryz.func123.trans (congrArg some (by kernel_rfl))⟩,
  f24 := ⟨ "slices.choosePivotOrdered[string]", by kernel_rfl, Tryz.func124.trans (congrArg some (by kernel_rfl))⟩,
  f25 := ⟨ "slices.reverseRangeOrdered[string]", by kernel_rfl, Tryz.func125.trans (congrArg some (by kernel_rfl))⟩,
  f26 := ⟨ "slices.partialInsertionSortOrdered[string]", by kernel_rfl, Tryz.func126.trans (congrArg some (by kernel_rfl))⟩,
  f27 := ⟨ "cmp.Less[string]", by kernel_rfl, Tryz.func127.trans (congrArg some (by kernel_rfl))⟩,
  f28 := ⟨ "slices.partitionEqualOrdered[string]", by kernel_rfl, Tryz.func128.trans (congrArg some (by kernel_rfl))⟩,
  f29 := ⟨ "slices.partitionOrdered[string]", by kernel_rfl, Tryz.func129.trans (congrArg some (by kernel_rfl))⟩,
  f31 := Tryz.func131.trans (congrArg some (by kernel_rfl)),
  f32 := Tryz.func132.trans (congrArg some (by kernel_rfl)),
  f36 := ⟨ "slices.siftDownOrdered[string]", by kernel_rfl, Tryz.func150.trans (congrArg some (by kernel_rfl))⟩,
  f37 := ⟨ "slices.medianAdjacentOrdered[string]", by kernel_rfl, Tryz.func151.trans (congrArg some (by kernel_rfl))⟩,
  f38 := ⟨ "slices.medianOrdered[string]", by kernel_rfl, Tryz.func152.trans (congrArg some (by kernel_rfl))⟩,
  f39 := ⟨ "cmp.isNaN[string]", by kernel_rfl, Tryz.func153.trans (congrArg some (by kernel_rfl))⟩,
  f41 := ⟨ "slices.order2Ordered[string]", by kernel_rfl, Tryz.func164.trans (congrArg some (by kernel_rfl))⟩,
  t0 := Tryz.underlying0,
  a0 := Tryz.isAgg0,
  z0 := Tryz.sizeOf0,
  v0 := Tryz.zeroValue0,
  t3 := Tryz.underlying3,
  a3 := Tryz.isAgg3,
  z3 := Tryz.sizeOf3,
  v3 := Tryz.zeroValue3,
  t4 := Tryz.underlying4,
  a4 := Tryz.isAgg4,
  z4 := Tryz.sizeOf4,
  v4 := Tryz.zeroValue4,
  t5 := Tryz.underlying5,
  a5 := Tryz.isAgg5,
  z5 := Tryz.sizeOf5,
  v5 := Tryz.zeroValue5,
  t9 := Tryz.underlying9,
  a9 := Tryz.isAgg9,
  z9 := Tryz.sizeOf9,
  v9 := Tryz.zeroValue9,
  t26 := Tryz.underlying25,
  a26 := Tryz.isAgg25,
  z26 := Tryz.sizeOf25,
  v26 := Tryz.zeroValue25,
  t27 := Tryz.underlying25,
  a27 := Tryz.isAgg25,
  z27 := Tryz.sizeOf25,
  v27 := Tryz.zeroValue25,
  t29 := Tryz.underlying9,
  a29 := Tryz.isAgg9,
  z29 := Tryz.sizeOf9,
  v29 := Tryz.zeroValue9,
  t32 := Tryz.underlying98,
  a32 := Tryz.isAgg98,
  z32 := Tryz.sizeOf98,
  v32 := Tryz.zeroValue98,
  t35 := Tryz.underlying127,
  a35 := Tryz.isAgg127,
  z35 := Tryz.sizeOf127,
  v35 := Tryz.zeroValue127,
  t36 := Tryz.underlying128,
  a36 := Tryz.isAgg128,
  z36 := Tryz.sizeOf128,
  v36 := Tryz.zeroValue128,
  t41 := Tryz.underlying133,
  a41 := Tryz.isAgg133,
  z41 := Tryz.sizeOf133,
  v41 := Tryz.zeroValue133,
  t44 := Tryz.underlying136,
  a44 := Tryz.isAgg136,
  z44 := Tryz.sizeOf136,
  v44 := Tryz.zeroValue136,
  t46 := Tryz.underlying138,
  a46 := Tryz.isAgg138,
  z46 := Tryz.sizeOf138,
  v46 := Tryz.zeroValue138,
  t53 := Tryz.underlying155,
  a53 := Tryz.isAgg155,
  z53 := Tryz.sizeOf155,
  v53 := Tryz.zeroValue155,
  t57 := Tryz.underlying159,
  a57 := Tryz.isAgg159,
  z57 := Tryz.sizeOf159,
  v57 := Tryz.zeroValue159,
  t63 := Tryz.underlying173,
  a63 := Tryz.isAgg173,
  z63 := Tryz.sizeOf173,
  v63 := Tryz.zeroValue173,
  t64 := Tryz.underlying72,
  a64 := Tryz.isAgg72,
  z64 := Tryz.sizeOf72,
  v64 := Tryz.zeroValue72
}

end Go.Proofs.YtbnchnbblchmnaaGreatDoor

namespace Go.Proofs.YtbnchnbblchmnaaGreatDoor
open Go.RowKit Go.Maps Go.Sort Go.Shelf

theorem sortsZ (m : Nat) : AnyZ.SortsIn Tryz.prog renZ Fence.wide m :=
  ⟨fun blk off cap ss W hH hblk hsz => callsIn_wide.2 (AnyM.slices_Sort_string sortM blk off cap ss W hH hblk hsz),
   fun p cap W => callsIn_wide.2 (AnyM.slices_Sort_string_none sortM p cap W)⟩
theorem langs_sorted : langT.mergeSort leB = langT := List.mergeSort_of_pairwise (by decide +kernel)
theorem keys_of {W : World} {b N : Nat} {D : DataW Value} (h : ArtMap W b N D (langT.zip artT)) : (strKeys D).Perm langT ∧ Maps.size D = 10 := by
  obtain ⟨es, rfl, hp⟩ := h.keys
  have hz : ((langT.zip artT).map fun p => Lit.string p.1) = langT.map Lit.string := by rfl
  rw [hz] at hp
  constructor
  · have h1 := hp.map strOf
    have e1 : (es.map Prod.fst).map strOf = strKeys (.map es) := by simp [strKeys]
    have e2 : (langT.map Lit.string).map strOf = langT := by rfl
    rwa [e1, e2] at h1
  · have h1 := hp.length_eq
    simp at h1
    exact h1

/-- What the program's tables hold when a call begins. -/
def Ready9 (w : World) : Prop := Spans w
theorem Ready9.below {w w' : World} (h : Ready9 w) (hb : Below w.heap.size w w') : Ready9 w' := Spans.below h hb

set_option maxRecDepth 20000 in
set_option maxHeartbeats 3200000 in
theorem prArticles9_any (lang : List UInt8) (w : World) (hl : lang.length ≤ 1000) : Calls Tryz.prog 101 #[.string (str lang)] w fun e w' => ∃ A n c, e = .returned (.slice A n c) ∧ Arr sv w' w'.heap.size (.slice A n c) (artsOf lang) ∧ Below w.heap.size w w' := by
  have H := Lib.hid (articles_any w)
  go_enter Tryz.func101, Tryz.ntmps101
  go_wp2_with fail
  refine H.out.mono ?_
  rintro e w1 ⟨D, rfl, hA, k1⟩
  obtain ⟨A, n, c, hrun, hArr⟩ := hA.look lang (by omega)
  have HA := Lib.hid hArr
  clear hA hArr H
  go_wp2
  go_ret
  exact ⟨_, _, _, rfl, HA.out, k1⟩

end Go.Proofs.YtbnchnbblchmnaaGreatDoor

namespace Go.Proofs.YtbnchnbblchmnaaGreatDoor
open Go.RowKit

set_option maxRecDepth 20000 in
set_option maxHeartbeats 1600000 in
theorem prIs6_s (s : List UInt8) (w : World) (hS : Spans w) (hlen : s.length ≤ 5000) :
    Calls Tryz.prog 109 #[.string (str s)] w fun e w' => e = .returned (.bool (nIs6 s)) ∧ Below w.heap.size w w' := by
  by_cases h0 : s = []
  · subst h0
    have z0 : (str ([] : List UInt8)).toList = [] := str_toList []
    clear hS
    go_enter Tryz.func109, Tryz.ntmps109
    go_wp2
    go_ret
    exact ⟨rfl, Below.refl _ _⟩
  · have HS := Lib.hid (prSearch_s s w hS hlen)
    obtain ⟨x, hx⟩ : ∃ x, nSearch s = x := ⟨_, rfl⟩
    rw [hx] at HS
    have HE : Hid (nIs6 s = decide (x = s)) := Lib.hid (by unfold nIs6; rw [hx, decide_eq_true h0, Bool.true_and])
    have HQ := str_beq x s
    obtain ⟨z, hz⟩ : ∃ z, decide (x = s) = z := ⟨_, rfl⟩
    rw [hz] at HQ HE
    have HZ := str_beq_nil h0
    have HZ2 : ¬ (str s).toList = [] := by rw [str_toList]; exact h0
    clear hx hz h0 hS
    go_enter Tryz.func109, Tryz.ntmps109
    go_wp2_with fail
    refine HS.out.mono ?_
    rintro e w1 ⟨rfl, hb1⟩
    go_wp2
    go_ret
    exact ⟨ret_bool HE.out.symm, hb1⟩

/-! Join. -/
def nForms (xs : List (List UInt8)) : List (List UInt8) := (xs.map nSearch).filter fun y => decide (y ≠ [])
theorem forms_cons (s : List UInt8) (xs : List (List UInt8)) : nForms (s :: xs) = if nSearch s = [] then nForms xs else nSearch s :: nForms xs := by
  unfold nForms
  rw [List.map_cons]
  by_cases h : nSearch s = []
  · rw [if_pos h, List.filter_cons_of_neg (by simpa using h)]
  · rw [if_neg h, List.filter_cons_of_pos (by simpa using h)]
theorem forms_snoc (xs : List (List UInt8)) (s : List UInt8) : nForms (xs ++ [s]) = nForms xs ++ if nSearch s = [] then [] else [nSearch s] := by
  have e : nForms (xs ++ [s]) = nForms xs ++ nForms [s] := by unfold nForms; rw [List.map_append, List.filter_append]
  rw [e, forms_cons]
  rfl
theorem join_from : ∀ (xs : List (List UInt8)) (O : List UInt8), O ≠ [] → xs.foldl (fun out s => joinStep out (nSearch s)) O = O ++ Lib.joinTail [32] (nForms xs)
  | [], O, _ => by simp [nForms, Lib.joinTail]
  | s :: xs, O, h => by
    rw [List.foldl_cons, forms_cons]
    by_cases h0 : nSearch s = []
    · rw [if_pos h0, h0, step_nil]
      exact join_from xs O h
    · rw [if_neg h0, step_both h h0, join_from xs _ (by simp)]
      simp [Lib.joinTail]
theorem join_forms : ∀ xs : List (List UInt8), nJoin xs = Lib.join (nForms xs) [32]
  | [] => rfl
  | s :: xs => by
    have e : nJoin (s :: xs) = xs.foldl (fun out s => joinStep out (nSearch s)) (joinStep [] (nSearch s)) := rfl
    rw [e, step_out, forms_cons]
    by_cases h0 : nSearch s = []
    · rw [if_pos h0, h0]
      exact join_forms xs
    · rw [if_neg h0, join_from xs _ h0, Lib.join_cons]
theorem step_len (O x : List UInt8) : (joinStep O x).length ≤ O.length + x.length + 1 := by
  unfold joinStep
  split
  · rw [List.length_append, List.length_cons]; omega
  · rw [List.length_append]; omega
theorem join_len6 : ∀ (xs : List (List UInt8)) (O : List UInt8), (∀ x ∈ xs, x.length ≤ 1000) → (xs.foldl (fun out s => joinStep out (nSearch s)) O).length ≤ O.length + xs.length * 48001
  | [], O, _ => by simp
  | s :: xs, O, h => by
    rw [List.foldl_cons, List.length_cons]
    have h1 := join_len6 xs (joinStep O (nSearch s)) fun x hx => h x (by simp [hx])
    have h2 := step_len O (nSearch s)
    have h3 := nSearch_len s
    have h4 := h s (by simp)
    omega
theorem forms_len (xs : List (List UInt8)) : (nForms xs).length ≤ xs.length := by
  unfold nForms
  have := List.length_filter_le (fun y => decide (y ≠ [])) (xs.map nSearch)
  rw [List.length_map] at this
  exact this
theorem info_string : (Tryz.prog.info? 9).map (fun i => (i.zero, i.size, i.bytes)) = some (some (.string ⟨#[]⟩), 1, 16) := by kernel_rfl
/-- append of one string. -/
theorem append_text {ops : Array Oper} {rest : List Oper} {o : Oper} {a : Act} {Q : Exit → Act → World → Prop} (w : World) (hgd : o.guard = none) (s x : Operand)
    (ho : o.op = .call { callee := .builtin .append, args := #[s, x], argTypes := #[25, 25] })
    (base : Nat) (v : Value) (xs : List (List UInt8)) (hs : a.eval s = v) (hown : w.ownsRow base 9 1 v xs.length (xs.map sv)) (y : List UInt8) (u : Value) (hu : u = sv y)
    (hx : a.eval x = .slice (some ⟨w.heap.size, 0, none⟩) 1 1) (hlen : xs.length ≤ 1000000000000 - 1) (hbase : base ≤ w.heap.size)
    (h : ∀ v' w', w'.ownsRow base 9 1 v' (xs ++ [y]).length ((xs ++ [y]).map sv) → Below base w w' → wpList Tryz.prog ops Q rest (a.put o.dst v') w') : wpList Tryz.prog ops Q (o :: rest) a (w.alloc (.cells #[u] 9)) :=
  append_one 25 9 (.string ⟨#[]⟩) 16 Tryz.underlying25 info_string rfl (by decide) one_sv w hgd s x ho base v xs hs hown y u hu hx hlen hbase h

end Go.Proofs.YtbnchnbblchmnaaGreatDoor

namespace Go.Proofs.YtbnchnbblchmnaaGreatDoor
open Go.Shelf

def ren9 : Go.Shelf.Ren := ⟨fun | 100 => 137 | 207 => 155 | n => n, fun | 3 => 3 | 4 => 4 | 9 => 9 | n => n, fun  | n => n⟩
theorem hasSufLays : Lays.n100 Tryz.prog ren9 := {
  mixed := by kernel_rfl,
  f100 := Tryz.func137.trans (congrArg some (by kernel_rfl)),
  f207 := Tryz.func155.trans (congrArg some (by kernel_rfl)),
  t3 := Tryz.underlying3,
  a3 := Tryz.isAgg3,
  z3 := Tryz.sizeOf3,
  v3 := Tryz.zeroValue3,
  t4 := Tryz.underlying4,
  a4 := Tryz.isAgg4,
  z4 := Tryz.sizeOf4,
  v4 := Tryz.zeroValue4,
  t9 := Tryz.underlying9,
  a9 := Tryz.isAgg9,
  z9 := Tryz.sizeOf9,
  v9 := Tryz.zeroValue9
}

end Go.Proofs.YtbnchnbblchmnaaGreatDoor
