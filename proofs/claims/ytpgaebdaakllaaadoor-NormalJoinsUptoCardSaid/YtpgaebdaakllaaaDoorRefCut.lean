/-
  The reference's Valid, Cut.
-/
import Derived.Test.YtpgaebdaakllaaaDoorRefScript
namespace Go.Proofs.YtpgaebdaakllaaaDoor
open Go.RowKit

def validR (s : List UInt8) : Bool := decide (1 ≤ s.length) && decide (s.length ≤ 400) && decide (s[0]? ≠ some 32) && decide (s[s.length - 1]? ≠ some 32) && (decR s).isSome
theorem at32 {s : List UInt8} {k : Nat} (h : k < (str s).size) : s[k]? = some 32 ↔ (str s)[k].toNat = 32 := by
  rw [str_at s k h]
  constructor
  · intro h; simp at h; rw [h]; rfl
  · intro h
    have : (str s)[k] = 32 := UInt8.toNat_inj.1 h
    rw [this]

end Go.Proofs.YtpgaebdaakllaaaDoor
