/-
  The examples of the document hold: awake returns true.
-/
import Derived.Test.YtjmmhgdafjdmdaaPrint
import Derived.Lib.SlBytesConst
namespace Go.Proofs.Ytjmmhgdafjdmdaa
open Go.RowKit

theorem grown_below {w w' : World} (h : Below w.heap.size w w') : w.grownBy w' none := grown_of_below none h

theorem sl_lit (w : World) (bs : List UInt8) (fr : Nat × Nat) :
    Sl (w.alloc (.cells (bs.map bv).toArray 5 fr)) (w.heap.size + 1) (.slice (some ⟨w.heap.size, 0, none⟩) bs.length bs.length) bs := by
  refine .inr ⟨⟨w.heap.size, 0, none⟩, bs.length, rfl, Nat.le_refl _, fun _ => by simp, fun i u hu => ?_⟩
  rw [plain_add, Go.cell_of_row _ w.heap.size i _ 5 fr (heap_alloc_new w _)]
  simp [hu]

theorem print_at (r : BitVec 32) (lit : ByteArray) (h : str (digits r.toNat) = lit) (w : World) :
    Calls Try.prog 24 #[.int .u32 (r.toNat : Int)] w fun e w' => e = .returned (.string lit) ∧ Below w.heap.size w w' :=
  (print_any r.toNat w r.isLt).mono fun e w' ⟨h1, h2⟩ => ⟨by rw [h1, h], h2⟩

theorem ex_nil : str (digits (crc []).toNat) = { data := #[48, 48, 48, 48, 48, 48, 48, 48] } := by decide +kernel
theorem ex_nine : str (digits (crc [49, 50, 51, 52, 53, 54, 55, 56, 57]).toNat) = { data := #[101, 51, 48, 54, 57, 50, 56, 51] } := by decide +kernel

set_option maxHeartbeats 800000 in
theorem awake_any (w : World) : Calls Try.prog 10 #[] w fun e w' => e = .returned (.bool true) ∧ Below w.heap.size w w' := by
  have hcv := fun (w : World) (C : Array Value) (n c : Nat) => Lib.run_convert_bytes_const (P := Try.prog) w 22 5 C n c Try.underlying22 Try.underlying5
  go_enter Try.func10, Try.ntmps10
  go_wp2_with fail
  refine (of_any _ [] 0 _ (Sl.nil_ _ _) (by omega) (by simp)).mono ?_
  rintro e w1 ⟨rfl, hb1⟩
  go_wp2_with fail
  refine (print_at _ _ ex_nil _).mono ?_
  rintro e w2 ⟨rfl, hb2⟩
  go_wp2_with fail
  refine (of_any _ [49, 50, 51, 52, 53, 54, 55, 56, 57] _ _ (sl_lit w2 [49, 50, 51, 52, 53, 54, 55, 56, 57] (9, 10)) (by simp) (by simp)).mono ?_
  rintro e w3 ⟨rfl, hb3⟩
  go_wp2_with fail
  refine (print_at _ _ ex_nine _).mono ?_
  rintro e w4 ⟨rfl, hb4⟩
  go_wp2
  go_ret
  refine ⟨rfl, ?_⟩
  have h12 := hb1.trans (hb2.mono hb1.size)
  have h3 := ((Below.refl w2.heap.size w2).alloc (Nat.le_refl _) _).trans (hb3.mono (by simp))
  have h34 := h3.trans (hb4.mono h3.size)
  exact h12.trans (h34.mono h12.size)

end Go.Proofs.Ytjmmhgdafjdmdaa
