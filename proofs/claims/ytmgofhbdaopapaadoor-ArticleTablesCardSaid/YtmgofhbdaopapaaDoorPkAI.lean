/-
  The program's articles() builds its map.
  The numbers of this program for the library's contracts of slices.Sorted over maps.Keys.
-/
import Derived.Test.YtmgofhbdaopapaaDoorPkAH
import Derived.Test.YtmgofhbdaopapaaDoorProg
import Derived.WalkKit
import Derived.Shelf.SlIter.Nil
import Derived.Shelf.SortM.Plain
import Derived.Shelf.SortM.SortNone
namespace Go.Proofs.YtmgofhbdaopapaaDoor
open Go.RowKit Go.Maps

set_option maxRecDepth 100000 in
set_option maxHeartbeats 6400000 in
theorem articles_any (w : World) : Calls Tryd.prog 13 #[] w fun e w' => ∃ D, e = .returned (.map (some w.heap.size)) ∧ ArtMap w' w.heap.size 10 D (langT.zip artT) ∧ Below w.heap.size w w' := by
  have hmm := @run_makeMap Tryd.prog
  have A0 := ArtMap.start w
  have g0 : Below w.heap.size w (w.alloc (.map #[] 0)) := (Below.refl _ _).alloc (Nat.le_refl _) _
  obtain ⟨W1, r1, ⟨D1, A1⟩, h1⟩ := A0.put [100, 97, 110] [[101, 110], [101, 116], [100, 101, 110], [100, 101, 116]] 4 #[.string ⟨#[101, 110]⟩, .string ⟨#[101, 116]⟩, .string ⟨#[100, 101, 110]⟩, .string ⟨#[100, 101, 116]⟩] rfl (by kernel_rfl) (by decide +kernel) (by omega) (by decide)
  have q1 : (Instr.mapUpdate 30 (.map (some w.heap.size)) (.string ⟨#[100, 97, 110]⟩) (.slice (some ⟨(w.heap.size + 1), 0, none⟩) 4 4)).run Tryd.prog ((w.alloc (.map #[] 0)).alloc (.cells #[.string ⟨#[101, 110]⟩, .string ⟨#[101, 116]⟩, .string ⟨#[100, 101, 110]⟩, .string ⟨#[100, 101, 116]⟩] 9)) = .ok () W1 := by
    have e : (w.alloc (.map #[] 0)).heap.size = w.heap.size + 1 := by simp
    rw [← e]
    exact r1
  have g1 : Below w.heap.size w W1 := below_grown g0 h1 (Nat.le_refl _) (fun g e => by injection e with e; omega)
  clear r1 h1 A0 g0
  obtain ⟨W2, r2, ⟨D2, A2⟩, h2⟩ := A1.put [100, 117, 116] [[100, 101], [104, 101, 116], [101, 101, 110], [39, 116]] 4 #[.string ⟨#[100, 101]⟩, .string ⟨#[104, 101, 116]⟩, .string ⟨#[101, 101, 110]⟩, .string ⟨#[39, 116]⟩] rfl (by kernel_rfl) (by decide +kernel) (by omega) (by decide)
  have q2 : (Instr.mapUpdate 30 (.map (some w.heap.size)) (.string ⟨#[100, 117, 116]⟩) (.slice (some ⟨W1.heap.size, 0, none⟩) 4 4)).run Tryd.prog (W1.alloc (.cells #[.string ⟨#[100, 101]⟩, .string ⟨#[104, 101, 116]⟩, .string ⟨#[101, 101, 110]⟩, .string ⟨#[39, 116]⟩] 9)) = .ok () W2 := by
    exact r2
  have g2 : Below w.heap.size w W2 := below_grown g1 h2 (Nat.le_refl _) (fun g e => by injection e with e; omega)
  clear r2 h2 A1 g1
  obtain ⟨W3, r3, ⟨D3, A3⟩, h3⟩ := A2.put [101, 110, 103] [[116, 104, 101], [97], [97, 110]] 3 #[.string ⟨#[116, 104, 101]⟩, .string ⟨#[97]⟩, .string ⟨#[97, 110]⟩] rfl (by kernel_rfl) (by decide +kernel) (by omega) (by decide)
  have q3 : (Instr.mapUpdate 30 (.map (some w.heap.size)) (.string ⟨#[101, 110, 103]⟩) (.slice (some ⟨W2.heap.size, 0, none⟩) 3 3)).run Tryd.prog (W2.alloc (.cells #[.string ⟨#[116, 104, 101]⟩, .string ⟨#[97]⟩, .string ⟨#[97, 110]⟩] 9)) = .ok () W3 := by
    exact r3
  have g3 : Below w.heap.size w W3 := below_grown g2 h3 (Nat.le_refl _) (fun g e => by injection e with e; omega)
  clear r3 h3 A2 g2
  obtain ⟨W4, r4, ⟨D4, A4⟩, h4⟩ := A3.put [102, 114, 101] [[108, 101], [108, 97], [108, 101, 115], [108, 39], [117, 110], [117, 110, 101], [100, 101, 115]] 7 #[.string ⟨#[108, 101]⟩, .string ⟨#[108, 97]⟩, .string ⟨#[108, 101, 115]⟩, .string ⟨#[108, 39]⟩, .string ⟨#[117, 110]⟩, .string ⟨#[117, 110, 101]⟩, .string ⟨#[100, 101, 115]⟩] rfl (by kernel_rfl) (by decide +kernel) (by omega) (by decide)
  have q4 : (Instr.mapUpdate 30 (.map (some w.heap.size)) (.string ⟨#[102, 114, 101]⟩) (.slice (some ⟨W3.heap.size, 0, none⟩) 7 7)).run Tryd.prog (W3.alloc (.cells #[.string ⟨#[108, 101]⟩, .string ⟨#[108, 97]⟩, .string ⟨#[108, 101, 115]⟩, .string ⟨#[108, 39]⟩, .string ⟨#[117, 110]⟩, .string ⟨#[117, 110, 101]⟩, .string ⟨#[100, 101, 115]⟩] 9)) = .ok () W4 := by
    exact r4
  have g4 : Below w.heap.size w W4 := below_grown g3 h4 (Nat.le_refl _) (fun g e => by injection e with e; omega)
  clear r4 h4 A3 g3
  obtain ⟨W5, r5, ⟨D5, A5⟩, h5⟩ := A4.put [103, 101, 114] [[100, 101, 114], [100, 105, 101], [100, 97, 115], [101, 105, 110], [101, 105, 110, 101]] 5 #[.string ⟨#[100, 101, 114]⟩, .string ⟨#[100, 105, 101]⟩, .string ⟨#[100, 97, 115]⟩, .string ⟨#[101, 105, 110]⟩, .string ⟨#[101, 105, 110, 101]⟩] rfl (by kernel_rfl) (by decide +kernel) (by omega) (by decide)
  have q5 : (Instr.mapUpdate 30 (.map (some w.heap.size)) (.string ⟨#[103, 101, 114]⟩) (.slice (some ⟨W4.heap.size, 0, none⟩) 5 5)).run Tryd.prog (W4.alloc (.cells #[.string ⟨#[100, 101, 114]⟩, .string ⟨#[100, 105, 101]⟩, .string ⟨#[100, 97, 115]⟩, .string ⟨#[101, 105, 110]⟩, .string ⟨#[101, 105, 110, 101]⟩] 9)) = .ok () W5 := by
    exact r5
  have g5 : Below w.heap.size w W5 := below_grown g4 h5 (Nat.le_refl _) (fun g e => by injection e with e; omega)
  clear r5 h5 A4 g4
  obtain ⟨W6, r6, ⟨D6, A6⟩, h6⟩ := A5.put [103, 114, 101] [[206, 191], [206, 183], [207, 132, 206, 191], [206, 191, 206, 185], [207, 132, 206, 177]] 5 #[.string ⟨#[206, 191]⟩, .string ⟨#[206, 183]⟩, .string ⟨#[207, 132, 206, 191]⟩, .string ⟨#[206, 191, 206, 185]⟩, .string ⟨#[207, 132, 206, 177]⟩] rfl (by kernel_rfl) (by decide +kernel) (by omega) (by decide)
  have q6 : (Instr.mapUpdate 30 (.map (some w.heap.size)) (.string ⟨#[103, 114, 101]⟩) (.slice (some ⟨W5.heap.size, 0, none⟩) 5 5)).run Tryd.prog (W5.alloc (.cells #[.string ⟨#[206, 191]⟩, .string ⟨#[206, 183]⟩, .string ⟨#[207, 132, 206, 191]⟩, .string ⟨#[206, 191, 206, 185]⟩, .string ⟨#[207, 132, 206, 177]⟩] 9)) = .ok () W6 := by
    exact r6
  have g6 : Below w.heap.size w W6 := below_grown g5 h6 (Nat.le_refl _) (fun g e => by injection e with e; omega)
  clear r6 h6 A5 g5
  obtain ⟨W7, r7, ⟨D7, A7⟩, h7⟩ := A6.put [105, 116, 97] [[105, 108], [108, 111], [108, 97], [105], [103, 108, 105], [108, 101], [108, 39], [117, 110], [117, 110, 111], [117, 110, 97]] 10 #[.string ⟨#[105, 108]⟩, .string ⟨#[108, 111]⟩, .string ⟨#[108, 97]⟩, .string ⟨#[105]⟩, .string ⟨#[103, 108, 105]⟩, .string ⟨#[108, 101]⟩, .string ⟨#[108, 39]⟩, .string ⟨#[117, 110]⟩, .string ⟨#[117, 110, 111]⟩, .string ⟨#[117, 110, 97]⟩] rfl (by kernel_rfl) (by decide +kernel) (by omega) (by decide)
  have q7 : (Instr.mapUpdate 30 (.map (some w.heap.size)) (.string ⟨#[105, 116, 97]⟩) (.slice (some ⟨W6.heap.size, 0, none⟩) 10 10)).run Tryd.prog (W6.alloc (.cells #[.string ⟨#[105, 108]⟩, .string ⟨#[108, 111]⟩, .string ⟨#[108, 97]⟩, .string ⟨#[105]⟩, .string ⟨#[103, 108, 105]⟩, .string ⟨#[108, 101]⟩, .string ⟨#[108, 39]⟩, .string ⟨#[117, 110]⟩, .string ⟨#[117, 110, 111]⟩, .string ⟨#[117, 110, 97]⟩] 9)) = .ok () W7 := by
    exact r7
  have g7 : Below w.heap.size w W7 := below_grown g6 h7 (Nat.le_refl _) (fun g e => by injection e with e; omega)
  clear r7 h7 A6 g6
  obtain ⟨W8, r8, ⟨D8, A8⟩, h8⟩ := A7.put [112, 111, 114] [[111], [97], [111, 115], [97, 115], [117, 109], [117, 109, 97]] 6 #[.string ⟨#[111]⟩, .string ⟨#[97]⟩, .string ⟨#[111, 115]⟩, .string ⟨#[97, 115]⟩, .string ⟨#[117, 109]⟩, .string ⟨#[117, 109, 97]⟩] rfl (by kernel_rfl) (by decide +kernel) (by omega) (by decide)
  have q8 : (Instr.mapUpdate 30 (.map (some w.heap.size)) (.string ⟨#[112, 111, 114]⟩) (.slice (some ⟨W7.heap.size, 0, none⟩) 6 6)).run Tryd.prog (W7.alloc (.cells #[.string ⟨#[111]⟩, .string ⟨#[97]⟩, .string ⟨#[111, 115]⟩, .string ⟨#[97, 115]⟩, .string ⟨#[117, 109]⟩, .string ⟨#[117, 109, 97]⟩] 9)) = .ok () W8 := by
    exact r8
  have g8 : Below w.heap.size w W8 := below_grown g7 h8 (Nat.le_refl _) (fun g e => by injection e with e; omega)
  clear r8 h8 A7 g7
  obtain ⟨W9, r9, ⟨D9, A9⟩, h9⟩ := A8.put [115, 112, 97] [[101, 108], [108, 97], [108, 111, 115], [108, 97, 115], [117, 110], [117, 110, 97]] 6 #[.string ⟨#[101, 108]⟩, .string ⟨#[108, 97]⟩, .string ⟨#[108, 111, 115]⟩, .string ⟨#[108, 97, 115]⟩, .string ⟨#[117, 110]⟩, .string ⟨#[117, 110, 97]⟩] rfl (by kernel_rfl) (by decide +kernel) (by omega) (by decide)
  have q9 : (Instr.mapUpdate 30 (.map (some w.heap.size)) (.string ⟨#[115, 112, 97]⟩) (.slice (some ⟨W8.heap.size, 0, none⟩) 6 6)).run Tryd.prog (W8.alloc (.cells #[.string ⟨#[101, 108]⟩, .string ⟨#[108, 97]⟩, .string ⟨#[108, 111, 115]⟩, .string ⟨#[108, 97, 115]⟩, .string ⟨#[117, 110]⟩, .string ⟨#[117, 110, 97]⟩] 9)) = .ok () W9 := by
    exact r9
  have g9 : Below w.heap.size w W9 := below_grown g8 h9 (Nat.le_refl _) (fun g e => by injection e with e; omega)
  clear r9 h9 A8 g8
  obtain ⟨W10, r10, ⟨D10, A10⟩, h10⟩ := A9.put [115, 119, 101] [[101, 110], [101, 116, 116], [100, 101, 110], [100, 101, 116]] 4 #[.string ⟨#[101, 110]⟩, .string ⟨#[101, 116, 116]⟩, .string ⟨#[100, 101, 110]⟩, .string ⟨#[100, 101, 116]⟩] rfl (by kernel_rfl) (by decide +kernel) (by omega) (by decide)
  have q10 : (Instr.mapUpdate 30 (.map (some w.heap.size)) (.string ⟨#[115, 119, 101]⟩) (.slice (some ⟨W9.heap.size, 0, none⟩) 4 4)).run Tryd.prog (W9.alloc (.cells #[.string ⟨#[101, 110]⟩, .string ⟨#[101, 116, 116]⟩, .string ⟨#[100, 101, 110]⟩, .string ⟨#[100, 101, 116]⟩] 9)) = .ok () W10 := by
    exact r10
  have g10 : Below w.heap.size w W10 := below_grown g9 h10 (Nat.le_refl _) (fun g e => by injection e with e; omega)
  clear r10 h10 A9 g9
  have HA := Lib.hid A10
  have HG := Lib.hid g10
  clear A10 g10
  go_enter Tryd.func13, Tryd.ntmps13
  go_wp2
  go_ret
  exact ⟨_, rfl, HA.out, HG.out⟩

end Go.Proofs.YtmgofhbdaopapaaDoor

namespace Go.Proofs.YtmgofhbdaopapaaDoor
open Go.Shelf

def renK : Go.Shelf.Ren := ⟨fun | 7 => 15 | 10 => 22 | n => n, fun | 0 => 0 | 1 => 1 | 2 => 2 | 3 => 23 | 4 => 4 | 5 => 5 | 6 => 6 | 7 => 7 | 8 => 8 | 9 => 9 | 10 => 10 | 11 => 11 | 12 => 12 | 13 => 13 | 14 => 14 | 15 => 15 | 16 => 16 | 17 => 17 | 18 => 18 | 19 => 19 | 20 => 20 | 21 => 21 | 23 => 30 | 24 => 23 | 25 => 32 | 26 => 9 | 27 => 33 | 28 => 34 | 29 => 35 | 32 => 39 | 33 => 27 | 34 => 49 | 35 => 50 | 36 => 51 | 37 => 52 | 38 => 61 | 39 => 62 | 40 => 63 | 41 => 64 | 42 => 65 | 43 => 54 | 44 => 66 | 45 => 67 | 46 => 68 | 47 => 69 | 48 => 70 | 49 => 71 | 50 => 72 | 51 => 87 | 52 => 88 | 53 => 89 | 54 => 90 | 55 => 91 | 56 => 92 | 57 => 110 | 58 => 37 | 59 => 111 | 60 => 83 | 61 => 131 | 62 => 132 | 63 => 133 | 64 => 134 | 65 => 135 | 66 => 136 | 67 => 137 | 68 => 138 | 69 => 139 | 70 => 98 | 71 => 140 | 72 => 141 | 73 => 142 | 74 => 143 | 75 => 116 | n => n, fun  | n => n⟩
def renZ : Go.Shelf.Ren := ⟨fun | 6 => 14 | 8 => 20 | 9 => 21 | 11 => 30 | n => n, fun | 0 => 0 | 1 => 1 | 2 => 2 | 3 => 3 | 4 => 4 | 5 => 5 | 6 => 6 | 7 => 7 | 8 => 8 | 9 => 9 | 10 => 10 | 11 => 11 | 12 => 12 | 13 => 13 | 14 => 14 | 15 => 15 | 16 => 16 | 17 => 17 | 18 => 18 | 19 => 19 | 20 => 20 | 21 => 21 | 23 => 30 | 24 => 23 | 25 => 32 | 26 => 9 | 27 => 33 | 28 => 34 | 29 => 35 | 32 => 39 | 33 => 27 | 34 => 49 | 35 => 50 | 36 => 51 | 37 => 52 | 38 => 61 | 39 => 62 | 40 => 63 | 41 => 64 | 42 => 65 | 43 => 54 | 44 => 66 | 45 => 67 | 46 => 68 | 47 => 69 | 48 => 70 | 49 => 71 | 50 => 72 | 51 => 87 | 52 => 88 | 53 => 89 | 54 => 90 | 55 => 91 | 56 => 92 | 57 => 110 | 58 => 37 | 59 => 111 | 60 => 83 | 61 => 131 | 62 => 132 | 63 => 133 | 64 => 134 | 65 => 135 | 66 => 136 | 67 => 137 | 68 => 138 | 69 => 139 | 70 => 98 | 71 => 140 | 72 => 141 | 73 => 142 | 74 => 143 | 75 => 116 | n => n, fun  | n => n⟩
def renM : Go.Shelf.Ren := ⟨fun | 6 => 21 | 8 => 32 | 9 => 31 | 19 => 49 | 20 => 50 | 21 => 40 | 22 => 41 | 23 => 42 | 24 => 43 | 25 => 44 | 26 => 45 | 27 => 46 | 28 => 47 | 29 => 48 | 31 => 62 | 32 => 63 | 36 => 61 | 37 => 64 | 38 => 65 | 39 => 66 | 41 => 77 | n => n, fun | 0 => 0 | 1 => 1 | 2 => 2 | 3 => 3 | 4 => 4 | 5 => 5 | 6 => 6 | 7 => 7 | 8 => 8 | 9 => 9 | 10 => 10 | 11 => 11 | 12 => 12 | 13 => 13 | 14 => 14 | 15 => 15 | 16 => 16 | 17 => 17 | 18 => 18 | 19 => 19 | 20 => 20 | 21 => 21 | 22 => 23 | 23 => 23 | 24 => 39 | 25 => 9 | 26 => 23 | 27 => 23 | 28 => 39 | 29 => 9 | 30 => 50 | 31 => 51 | 32 => 52 | 33 => 50 | 34 => 61 | 35 => 62 | 36 => 63 | 37 => 64 | 38 => 65 | 39 => 54 | 40 => 66 | 41 => 67 | 42 => 68 | 43 => 69 | 44 => 70 | 45 => 71 | 46 => 72 | 47 => 61 | 48 => 64 | 49 => 65 | 50 => 54 | 51 => 66 | 52 => 68 | 53 => 87 | 54 => 88 | 55 => 89 | 56 => 90 | 57 => 91 | 58 => 92 | 59 => 27 | 60 => 90 | 61 => 92 | 62 => 27 | 63 => 110 | 64 => 37 | 65 => 111 | 66 => 111 | 67 => 83 | 68 => 131 | 69 => 132 | 70 => 133 | 71 => 134 | 72 => 135 | 73 => 136 | 74 => 137 | 75 => 138 | 76 => 139 | 77 => 98 | 78 => 140 | 79 => 141 | 80 => 142 | 81 => 143 | 82 => 116 | n => n, fun  | n => n⟩
theorem keysZ : SlLaysZ.n7 Tryd.prog renK := {
  mixed := by kernel_rfl,
  f7 := ⟨ "maps.Keys[map[string][]string,string,[]string]", by kernel_rfl, Tryd.func15.trans (congrArg some (by kernel_rfl))⟩,
  f10 := ⟨ "maps.Keys[map[string][]string,string,[]string]$1", by kernel_rfl, Tryd.func22.trans (congrArg some (by kernel_rfl))⟩,
  t0 := Tryd.underlying0,
  a0 := Tryd.isAgg0,
  z0 := Tryd.sizeOf0,
  v0 := Tryd.zeroValue0,
  t4 := Tryd.underlying4,
  a4 := Tryd.isAgg4,
  z4 := Tryd.sizeOf4,
  v4 := Tryd.zeroValue4,
  t23 := Tryd.underlying30,
  a23 := Tryd.isAgg30,
  z23 := Tryd.sizeOf30,
  v23 := Tryd.zeroValue30,
  t26 := Tryd.underlying9,
  a26 := Tryd.isAgg9,
  z26 := Tryd.sizeOf9,
  v26 := Tryd.zeroValue9,
  t27 := Tryd.underlying33,
  a27 := Tryd.isAgg33,
  z27 := Tryd.sizeOf33,
  v27 := Tryd.zeroValue33,
  t28 := Tryd.underlying34,
  a28 := Tryd.isAgg34,
  z28 := Tryd.sizeOf34,
  v28 := Tryd.zeroValue34,
  t33 := Tryd.underlying27,
  a33 := Tryd.isAgg27,
  z33 := Tryd.sizeOf27,
  v33 := Tryd.zeroValue27
}
theorem sortedZ : SlLaysZ.n6 Tryd.prog renZ := {
  mixed := by kernel_rfl,
  f6 := ⟨ "slices.Sorted[string]", by kernel_rfl, Tryd.func14.trans (congrArg some (by kernel_rfl))⟩,
  f8 := ⟨ "slices.Collect[string]", by kernel_rfl, Tryd.func20.trans (congrArg some (by kernel_rfl))⟩,
  f11 := ⟨ "slices.AppendSeq[[]string,string]", by kernel_rfl, Tryd.func30.trans (congrArg some (by kernel_rfl))⟩,
  t0 := Tryd.underlying0,
  a0 := Tryd.isAgg0,
  z0 := Tryd.sizeOf0,
  v0 := Tryd.zeroValue0,
  t24 := Tryd.underlying23,
  a24 := Tryd.isAgg23,
  z24 := Tryd.sizeOf23,
  v24 := Tryd.zeroValue23,
  t26 := Tryd.underlying9,
  a26 := Tryd.isAgg9,
  z26 := Tryd.sizeOf9,
  v26 := Tryd.zeroValue9,
  t28 := Tryd.underlying34,
  a28 := Tryd.isAgg34,
  z28 := Tryd.sizeOf34,
  v28 := Tryd.zeroValue34,
  i26 := by kernel_rfl
}
theorem sortM : SlLaysM.n6 Tryd.prog renM := {
  mixed := by kernel_rfl,
  f6 := ⟨ "slices.Sort[[]string,string]", by kernel_rfl, Tryd.func21.trans (congrArg some (by kernel_rfl))⟩,
  f8 := Tryd.func32.trans (congrArg some (by kernel_rfl)),
  f9 := ⟨ "slices.pdqsortOrdered[string]", by kernel_rfl, Tryd.func31.trans (congrArg some (by kernel_rfl))⟩,
  f19 := Tryd.func49.trans (congrArg some (by kernel_rfl)),
  f20 := Tryd.func50.trans (congrArg some (by kernel_rfl)),
  f21 := ⟨ "slices.insertionSortOrdered[string]", by kernel_rfl, Tryd.func40.trans (congrArg some (by kernel_rfl))⟩,
  f22 := ⟨ "slices.heapSortOrdered[string]", by kernel_rfl, Tryd.func41.trans (congrArg some (by kernel_rfl))⟩,
  f23 := ⟨ "slices.breakPatternsOrdered[string]", by kernel_rfl, Tryd.func42.trans (congrArg some (by kernel_rfl))⟩,
  f24 := ⟨ "slices.choosePivotOrdered[string]", by kernel_rfl, Tryd.func43.trans (congrArg some (by kernel_rfl))⟩,
  f25 := ⟨ "slices.reverseRangeOrdered[string]", by kernel_rfl, Tryd.func44.trans (congrArg some (by kernel_rfl))⟩,
  f26 := ⟨ "slices.partialInsertionSortOrdered[string]", by kernel_rfl, Tryd.func45.trans (congrArg some (by kernel_rfl))⟩,
  f27 := ⟨ "cmp.Less[string]", by kernel_rfl, Tryd.func46.trans (congrArg some (by kernel_rfl))⟩,
  f28 := ⟨ "slices.partitionEqualOrdered[string]", by kernel_rfl, Tryd.func47.trans (congrArg some (by kernel_rfl))⟩,
  f29 := ⟨ "slices.partitionOrdered[string]", by kernel_rfl, Tryd.func48.trans (congrArg some (by kernel_rfl))⟩,
  f31 := Tryd.func62.trans (congrArg some (by kernel_rfl)),
  f32 := Tryd.func63.trans (congrArg some (by kernel_rfl)),
  f36 := ⟨ "slices.siftDownOrdered[string]", by kernel_rfl, Tryd.func61.trans (congrArg some (by kernel_rfl))⟩,
  f37 := ⟨ "slices.medianAdjacentOrdered[string]", by kernel_rfl, Tryd.func64.trans (congrArg some (by kernel_rfl))⟩,
  f38 := ⟨ "slices.medianOrdered[string]", by kernel_rfl, Tryd.func65.trans (congrArg some (by kernel_rfl))⟩,
  f39 := ⟨ "cmp.isNaN[string]", by kernel_rfl, Tryd.func66.trans (congrArg some (by kernel_rfl))⟩,
  f41 := ⟨ "slices.order2Ordered[string]", by kernel_rfl, Tryd.func77.trans (congrArg some (by kernel_rfl))⟩,
  t0 := Tryd.underlying0,
  a0 := Tryd.isAgg0,
  z0 := Tryd.sizeOf0,
  v0 := Tryd.zeroValue0,
  t3 := Tryd.underlying3,
  a3 := Tryd.isAgg3,
  z3 := Tryd.sizeOf3,
  v3 := Tryd.zeroValue3,
  t4 := Tryd.underlying4,
  a4 := Tryd.isAgg4,
  z4 := Tryd.sizeOf4,
  v4 := Tryd.zeroValue4,
  t5 := Tryd.underlying5,
  a5 := Tryd.isAgg5,
  z5 := Tryd.sizeOf5,
  v5 := Tryd.zeroValue5,
  t9 := Tryd.underlying9,
  a9 := Tryd.isAgg9,
  z9 := Tryd.sizeOf9,
  v9 := Tryd.zeroValue9,
  t26 := Tryd.underlying23,
  a26 := Tryd.isAgg23,
  z26 := Tryd.sizeOf23,
  v26 := Tryd.zeroValue23,
  t27 := Tryd.underlying23,
  a27 := Tryd.isAgg23,
  z27 := Tryd.sizeOf23,
  v27 := Tryd.zeroValue23,
  t29 := Tryd.underlying9,
  a29 := Tryd.isAgg9,
  z29 := Tryd.sizeOf9,
  v29 := Tryd.zeroValue9,
  t32 := Tryd.underlying52,
  a32 := Tryd.isAgg52,
  z32 := Tryd.sizeOf52,
  v32 := Tryd.zeroValue52,
  t35 := Tryd.underlying62,
  a35 := Tryd.isAgg62,
  z35 := Tryd.sizeOf62,
  v35 := Tryd.zeroValue62,
  t36 := Tryd.underlying63,
  a36 := Tryd.isAgg63,
  z36 := Tryd.sizeOf63,
  v36 := Tryd.zeroValue63,
  t41 := Tryd.underlying67,
  a41 := Tryd.isAgg67,
  z41 := Tryd.sizeOf67,
  v41 := Tryd.zeroValue67,
  t44 := Tryd.underlying70,
  a44 := Tryd.isAgg70,
  z44 := Tryd.sizeOf70,
  v44 := Tryd.zeroValue70,
  t46 := Tryd.underlying72,
  a46 := Tryd.isAgg72,
  z46 := Tryd.sizeOf72,
  v46 := Tryd.zeroValue72,
  t53 := Tryd.underlying87,
  a53 := Tryd.isAgg87,
  z53 := Tryd.sizeOf87,
  v53 := Tryd.zeroValue87,
  t57 := Tryd.underlying91,
  a57 := Tryd.isAgg91,
  z57 := Tryd.sizeOf91,
  v57 := Tryd.zeroValue91,
  t63 := Tryd.underlying110,
  a63 := Tryd.isAgg110,
  z63 := Tryd.sizeOf110,
  v63 := Tryd.zeroValue110,
  t64 := Tryd.underlying37,
  a64 := Tryd.isAgg37,
  z64 := Tryd.sizeOf37,
  v64 := Tryd.zeroValue37
}

end Go.Proofs.YtmgofhbdaopapaaDoor
