/-
  The laws' bodies at arguments as the model holds them.
  What the listed variables and the world's shape say of the tables when a call begins.
  An argument of three bytes.
-/
import Derived.Test.YtmgofhbdaopapaaGreatDoorPkAZ
import Derived.Test.YtmgofhbdaopapaaGreatDoorPkBA
import Derived.Test.YtmgofhbdaopapaaGreatDoorALawE
import Derived.Test.YtmgofhbdaopapaaGreatDoorALawF
import Derived.Test.YtmgofhbdaopapaaGreatDoorPkAO
import Derived.Test.YtmgofhbdaopapaaGreatDoorRows
import Derived.Test.YtmgofhbdaopapaaGreatDoorPkAN
import Derived.Shelf.Vars
import Derived.Lib.LaidU8
import Derived.Test.YtmgofhbdaopapaaGreatDoorProg
namespace Go.Proofs.YtmgofhbdaopapaaGreatDoor
open Go.RowKit

theorem len_of9 {b : ByteArray} (h : b.size ≤ maxLen) : b.data.toList.length ≤ 9223372036854775807 := by
  unfold maxLen at h
  have : b.data.toList.length = b.size := rfl
  omega
theorem articleSkip_u (b d : ByteArray) (w : World) (hS : Ready9 w) (h : b.size ≤ maxLen) (h2 : d.size ≤ maxLen) :
    Calls Tryz.prog 3 #[.string b, .string d] w fun e w' => e = .returned (.bool true) ∧ Below w.heap.size w w' := by
  rw [← str_data b, ← str_data d]
  exact articleSkip_v b.data.toList d.data.toList w hS (len_of9 h) (len_of9 h2)
theorem articleSort_u (b : ByteArray) (n k : Int) (w : World) (hS : Ready9 w) (h : b.size ≤ maxLen) (hn : n ≤ 9223372036854775807) (hk : 0 ≤ k ∧ k ≤ 255) :
    Calls Tryz.prog 4 #[.string b, .int .i64 n, .int .u8 k] w fun e w' => e = .returned (.bool true) ∧ Below w.heap.size w w' := by
  obtain ⟨m, rfl⟩ : ∃ m : Nat, k = (m : Int) := ⟨k.toNat, by omega⟩
  rw [← str_data b]
  exact articleSort_v b.data.toList n m w hS hn (len_of9 h) (by omega)
theorem articleOthers_u (b d : ByteArray) (w : World) (hS : Ready9 w) (hM : ∃ m : Int, w.cell? ⟨1, 0, none⟩ = some (.int .i64 m)) (h : b.size ≤ maxLen) (h2 : d.size ≤ maxLen) :
    Calls Tryz.prog 7 #[.string b, .string d] w fun e w' => e = .returned (.bool true) ∧ Below w.heap.size w w' := by
  rw [← str_data b, ← str_data d]
  exact articleOthers_v b.data.toList d.data.toList w hS hM (len_of9 h) (len_of9 h2)
theorem articleRest_u (k : Int) (b : ByteArray) (w : World) (hS : Ready9 w) (hk : 0 ≤ k ∧ k ≤ 255) (h : b.size ≤ maxLen) :
    Calls Tryz.prog 5 #[.int .u8 k, .string b] w fun e w' => e = .returned (.bool true) ∧ Below w.heap.size w w' := by
  obtain ⟨m, rfl⟩ : ∃ m : Nat, k = (m : Int) := ⟨k.toNat, by omega⟩
  rw [← str_data b]
  exact articleRest_v m b.data.toList w hS (len_of9 h) (by omega)
theorem articleEach_u (x y z : Int) (b : ByteArray) (w : World) (hS : Ready9 w) (hx : 0 ≤ x ∧ x ≤ 255) (hy : 0 ≤ y ∧ y ≤ 255) (hz : 0 ≤ z ∧ z ≤ 255) (h : b.size ≤ 1048576) :
    Calls Tryz.prog 6 #[.agg #[.int .u8 x, .int .u8 y, .int .u8 z], .string b] w fun e w' => e = .returned (.bool true) ∧ Below w.heap.size w w' := by
  obtain ⟨k, rfl⟩ : ∃ m : Nat, x = (m : Int) := ⟨x.toNat, by omega⟩
  obtain ⟨l, rfl⟩ : ∃ m : Nat, y = (m : Int) := ⟨y.toNat, by omega⟩
  obtain ⟨m, rfl⟩ : ∃ m : Nat, z = (m : Int) := ⟨z.toNat, by omega⟩
  have e1 : b.data.toList.length = b.size := rfl
  rw [← str_data b]
  exact articleEach_v k l m b.data.toList w hS (by omega) (by omega) (by omega) (by omega)

end Go.Proofs.YtmgofhbdaopapaaGreatDoor

namespace Go.Proofs.YtmgofhbdaopapaaGreatDoor
open Go.RowKit Go.Shelf Go.Lib

theorem reads_flat {P : Program} {w : World} {n : String} {dd : DataW Unit} (h : VarReads P w n dd) {g t : Nat} (hg : P.globalNamed n = some g) (ht : (P.globals[g]?).map (·.type) = some t) (hp : plainTy P 8 t = true) :
    ∃ u fz, w.heap[g]? = some (.cells (flat dd).toArray u fz) := by
  obtain ⟨g', t', cs, fuel, p, hg', ht', hvar, hd⟩ := h
  obtain rfl := Option.some.inj (hg.symm.trans hg')
  obtain rfl := Option.some.inj (ht.symm.trans ht')
  have h1 := flat_of_trod 8 fuel t _ dd p hp hd
  unfold World.var? at hvar
  rw [hg] at hvar
  simp only [Option.bind_some] at hvar
  split at hvar
  · rename_i cs' u fz hh
    cases hvar
    refine ⟨u, fz, ?_⟩
    rw [hh, ← h1]
  · cases hvar
theorem ready9_of {laid : List (String × DataW Unit)} {W : World} (hL : laidMet Tryz.prog laid W) (hm : ("bookplate/repertoire.spans", Rows.laid_bookplate_repertoire_spans) ∈ laid) : Ready9 W := by
  have r1 : VarReads Tryz.prog W "bookplate/repertoire.spans" Rows.laid_bookplate_repertoire_spans := laidMet.reads hL hm
  obtain ⟨u, fz, h1⟩ := reads_flat r1 (g := 4) (t := 140) (by kernel_rfl) (by kernel_rfl) (by kernel_rfl)
  have e : (flat (Rows.laid_bookplate_repertoire_spans (H := Unit))).toArray = spanCells := by kernel_rfl
  rw [e] at h1
  exact ⟨u, fz, h1⟩
theorem maxLen_cell {W : World} (hsh : W.ShapedOpen Tryz.prog) : ∃ m : Int, W.cell? ⟨1, 0, none⟩ = some (.int .i64 m) :=
  cell_of_shapedOpen_int (t := 3) (zero := #[.int .i64 0]) hsh (of_decide_eq_true (by kernel_rfl)) (by kernel_rfl) rfl (by kernel_rfl) (by kernel_rfl) Tryz.underlying3

end Go.Proofs.YtmgofhbdaopapaaGreatDoor

namespace Go.Proofs.YtmgofhbdaopapaaGreatDoor
open Go.RowKit Go.ChangeShapes Go.WideShapes

theorem cells_three8 : Tryz.prog.cellsOf 34 = 3 := by kernel_rfl
theorem cells_u8 : Tryz.prog.cellsOf 5 = 1 := by kernel_rfl
set_option maxRecDepth 100000 in
theorem open_three8 {H : Type} {enc : TypeId × Value → H} {W : World} {r : Go.Reach} {b0 base : Nat} {spare : Nat → Bool} {held : Bool} {v : Value} {d : DataW H} {ps : List MemPlace}
    (hv : Value.okWide Tryz.prog W r b0 34 v) (hd : DataW.Trod enc Tryz.prog W base spare held 34 v d ps) :
    ∃ a b c : Int, v = .agg #[.int .u8 a, .int .u8 b, .int .u8 c] ∧ (0 ≤ a ∧ a ≤ 255) ∧ (0 ≤ b ∧ b ≤ 255) ∧ (0 ≤ c ∧ c ≤ 255) := by
  simp only [Value.okWide, Tryz.underlying34] at hv
  obtain ⟨cs, rfl, hsz, _⟩ := hv
  rw [cells_three8] at hsz
  obtain ⟨c0, c1, c2, rfl⟩ : ∃ c0 c1 c2, cs = #[c0, c1, c2] := by
    obtain ⟨l⟩ := cs
    match l, hsz with
    | [c0, c1, c2], _ => exact ⟨c0, c1, c2, rfl⟩
  obtain ⟨fuel, hf⟩ := hd
  obtain ⟨xs, m, _, _, _, hlen, hi⟩ := Go.DataW.trod_array Tryz.underlying34 hf
  have h0 := hi 0 (by omega)
  have h1 := hi 1 (by omega)
  have h2 := hi 2 (by omega)
  rw [cells_u8] at h0 h1 h2
  rw [List.getElem?_eq_getElem (by omega)] at h0 h1 h2
  simp [Value.cells] at h0 h1 h2
  obtain ⟨x0, e0, _, w0⟩ := Go.DataW.trod_int Tryz.underlying5 h0
  obtain ⟨x1, e1, _, w1⟩ := Go.DataW.trod_int Tryz.underlying5 h1
  obtain ⟨x2, e2, _, w2⟩ := Go.DataW.trod_int Tryz.underlying5 h2
  simp at e0 e1 e2
  subst e0 e1 e2
  exact ⟨x0, x1, x2, rfl, bounds_u8 w0, bounds_u8 w1, bounds_u8 w2⟩

end Go.Proofs.YtmgofhbdaopapaaGreatDoor
