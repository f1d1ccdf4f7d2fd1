/-
  The laws' bodies at strings as the model holds them.
-/
import Derived.Test.YtidbkllhlllnnaaDoorCutLaw
import Derived.Test.YtidbkllhlllnnaaDoorDecodeLaw
import Derived.Test.YtidbkllhlllnnaaDoorInverseLaw
import Derived.Test.YtidbkllhlllnnaaDoorScriptsLaw
namespace Go.Proofs.YtidbkllhlllnnaaDoor
open Go.RowKit

theorem len_of {b : ByteArray} (h : b.size ≤ maxLen) : b.data.toList.length ≤ 9223372036854775807 := by
  unfold maxLen at h
  have : b.data.toList.length = b.size := rfl
  omega
theorem repDecode_u (b : ByteArray) (w : World) (hS : Spans w) (h : b.size ≤ maxLen) :
    Calls Tryd.prog 4 #[.string b] w fun e w' => e = .returned (.bool true) ∧ Below w.heap.size w w' := by
  rw [← str_data b]
  exact repDecode_v b.data.toList w hS (len_of h)
theorem repInverse_u (b d : ByteArray) (w : World) (hS : Spans w) (h : b.size ≤ maxLen) (h2 : d.size ≤ maxLen) :
    Calls Tryd.prog 6 #[.string b, .string d] w fun e w' => e = .returned (.bool true) ∧ Below w.heap.size w w' := by
  rw [← str_data b, ← str_data d]
  exact repInverse_v b.data.toList d.data.toList w hS (len_of h) (len_of h2)
theorem repScripts_u (b d : ByteArray) (w : World) (hS : Spans w) (h : b.size ≤ maxLen) (h2 : d.size ≤ maxLen) :
    Calls Tryd.prog 9 #[.string b, .string d] w fun e w' => e = .returned (.bool true) ∧ Below w.heap.size w w' := by
  rw [← str_data b, ← str_data d]
  exact repScripts_v b.data.toList d.data.toList w hS (len_of h) (len_of h2)
theorem repCut_u (b : ByteArray) (n : Int) (w : World) (hS : Spans w) (h : b.size ≤ maxLen) (hn : n ≤ 9223372036854775807) :
    Calls Tryd.prog 7 #[.string b, .int .i64 n] w fun e w' => e = .returned (.bool true) ∧ Below w.heap.size w w' := by
  rw [← str_data b]
  exact repCut_v b.data.toList n w hS (len_of h) hn

end Go.Proofs.YtidbkllhlllnnaaDoor
