/-
  The reference's bytes.
-/
import Derived.Test.YtpgaebdaakllaaaDoorRefDecode
namespace Go.Proofs.YtpgaebdaakllaaaDoor
open Go.RowKit

def fewB (n : Nat) : Bool := decide (n ≤ 40) || (decide (128 < n) && decide (n ≤ 140))
theorem conv_box (w : World) (bs : List UInt8) (vs : Array Value) (n : Nat) (hn : bs.length = n) (h : vs.toList = bs.map bv) :
    (convert 56 9 (.slice (some ⟨w.heap.size, 0, none⟩) n n)).run Tryd.prog (w.alloc (.cells vs 5)) = .ok (.string (str bs)) (w.alloc (.cells vs 5)) := by
  refine conv_bytes (B := w.heap.size + 1) (bs := bs) ?_ 56 5 9 Tryd.underlying56 Tryd.underlying5 Tryd.underlying9
  refine Arr.of_box (Box.made _ _ _) hn (Nat.le_refl _) ?_
  intro i u hu
  rw [← Array.getElem?_toList, h, List.getElem?_map, hu]
  rfl
theorem bv_of {n : Nat} {i : Int} (h : n < 256) (hi : i = n) : Value.int .u8 i = bv (UInt8.ofNat n) := by
  unfold bv
  rw [byte_of h, hi]
theorem lst1 {α : Type} {a x : α} (h : a = x) : [a] = [x] := by rw [h]
theorem lst2 {α : Type} {a b x y : α} (h : a = x) (h2 : b = y) : [a, b] = [x, y] := by rw [h, h2]
theorem lst3 {α : Type} {a b c x y z : α} (h : a = x) (h2 : b = y) (h3 : c = z) : [a, b, c] = [x, y, z] := by rw [h, h2, h3]
theorem enc_one {c : Nat} (h : c < 128) : encC c = [UInt8.ofNat c] := if_pos h
theorem enc_two {c : Nat} (h : ¬ c < 128) (h2 : c < 2048) : encC c = [UInt8.ofNat (192 + c / 64), UInt8.ofNat (128 + c % 64)] := by
  unfold encC
  rw [if_neg h, if_pos h2]
theorem enc_three {c : Nat} (h2 : ¬ c < 2048) : encC c = [UInt8.ofNat (224 + c / 4096), UInt8.ofNat (128 + c / 64 % 64), UInt8.ofNat (128 + c % 64)] := by
  unfold encC
  rw [if_neg (by omega), if_neg h2]

set_option maxRecDepth 20000 in
set_option maxHeartbeats 1600000 in
theorem refBytes_any (c : Nat) (w : World) (hc : c < 65536) :
    Calls Tryd.prog 39 #[.int .i64 (c : Int)] w fun e w' => e = .returned (.string (str (encC c))) ∧ Below w.heap.size w w' := by
  by_cases h1 : c < 128
  · have t1 : decide ((c : Int) < 128) = true := by simp; omega
    have hcv := conv_box w (encC c) #[.int .u8 (c : Int)] 1 (by rw [enc_one h1]; rfl) (by rw [enc_one h1]; exact lst1 (bv_of (by omega) rfl))
    go_enter Tryd.func39, Tryd.ntmps39
    go_wp2
    go_ret
    exact ⟨rfl, (Below.refl _ _).alloc (Nat.le_refl _) _⟩
  · have t1 : decide ((c : Int) < 128) = false := by simp; omega
    by_cases h2 : c < 2048
    · have t2 : decide ((c : Int) < 2048) = true := by simp; omega
      have hcv := conv_box w (encC c) #[.int .u8 (192 + (c : Int) / 64), .int .u8 (128 + (c : Int) % 64)] 2 (by rw [enc_two h1 h2]; rfl) (by rw [enc_two h1 h2]; exact lst2 (bv_of (by omega) (by omega)) (bv_of (by omega) (by omega)))
      go_enter Tryd.func39, Tryd.ntmps39
      go_wp2
      go_ret
      exact ⟨rfl, (Below.refl _ _).alloc (Nat.le_refl _) _⟩
    · have t2 : decide ((c : Int) < 2048) = false := by simp; omega
      have hcv := conv_box w (encC c) #[.int .u8 (224 + (c : Int) / 4096), .int .u8 (128 + (c : Int) / 64 % 64), .int .u8 (128 + (c : Int) % 64)] 3 (by rw [enc_three h2]; rfl) (by rw [enc_three h2]; exact lst3 (bv_of (by omega) (by omega)) (bv_of (by omega) (by omega)) (bv_of (by omega) (by omega)))
      go_enter Tryd.func39, Tryd.ntmps39
      go_wp2
      go_ret
      exact ⟨rfl, (Below.refl _ _).alloc (Nat.le_refl _) _⟩

end Go.Proofs.YtpgaebdaakllaaaDoor
