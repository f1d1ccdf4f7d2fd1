/-
  The reference's Same and bytes.
-/
import Derived.Test.YtidbkllhlllnnaaDoorRefDecode
namespace Go.Proofs.YtidbkllhlllnnaaDoor
open Go.RowKit

theorem drewN2 (w : World) (a b : Nat) : ∃ k, (w.drewN a).drewN b = w.drewN k := ⟨_, World.drewN_drewN w a b⟩

set_option maxHeartbeats 1600000 in
theorem same_any (A A' : Option Addr) (n n' c c' : Nat) (xs ys : List Int) (B : Nat) (w : World) (h : Arr iv w B (.slice A n c) xs) (h' : Arr iv w B (.slice A' n' c') ys) (hn : n ≤ 9223372036854775807) (hn' : n' ≤ 9223372036854775807) :
    Calls Tryd.prog 16 #[.slice A n c, .slice A' n' c'] w fun e w' => e = .returned (.bool (decide (xs = ys))) ∧ ∃ k, w' = w.drewN k := by
  have HL := Lib.hid h.len
  have HM := Lib.hid h'.len
  by_cases hnn : n = n'
  · subst hnn
    go_enter Tryd.func16, Tryd.ntmps16
    go_wp2
    go_loopw [5] (fun i wr => ∃ k q : Nat, k ≤ n ∧ i = .int .i64 (k : Int) ∧ Hid (xs.take k = ys.take k) ∧ wr = w.drewN q) (fun i _ => n - (intOf i).toNat)
    case atStart => exact ⟨0, 0, by omega, rfl, Lib.hid rfl, rfl⟩
    case round =>
      obtain ⟨k, q, hk, rfl, HT, rfl⟩ := hrel
      by_cases hlt : k < n
      · obtain ⟨b0, o0, rfl, hB0, hc0⟩ := h.some_ (by omega)
        obtain ⟨b1, o1, rfl, hB1, hc1⟩ := h'.some_ (by omega)
        obtain ⟨x, hx⟩ : ∃ a, xs[k]? = some a := ⟨_, List.getElem?_eq_getElem (by have := HL.out; omega)⟩
        obtain ⟨y, hy⟩ : ∃ a, ys[k]? = some a := ⟨_, List.getElem?_eq_getElem (by have := HM.out; omega)⟩
        have d0 := hc0 k x hx
        have d1 := hc1 k y hy
        simp only [iv] at d0 d1
        have i0 : (k : Int) < (n : Int) := by omega
        have ih0 : (0 : Int) ≤ (k : Int) := by omega
        by_cases hxy : x = y
        · subst hxy
          have t1 : (x != x) = false := by simp
          have HT2 : Hid (xs.take (k + 1) = ys.take (k + 1)) := Lib.hid (by rw [take_next hx, take_next hy, HT.out])
          clear hc0 hc1 hx hy
          go_wp2
          go_quiet (fail)
          go_wp2
          go_roundw
          case rel => exact ⟨k + 1, _, by omega, by go_num, HT2, by first | exact World.drewN_drewN _ _ _ | rfl⟩
          case measure => simp [intOf]; omega
        · have t1 : (x != y) = true := by simpa using hxy
          have HF : Hid (decide (xs = ys) = false) := Lib.hid (by
            rw [decide_eq_false]
            rintro rfl
            rw [hx] at hy
            injection hy with hy
            exact hxy hy)
          clear hc0 hc1 hx hy hxy
          go_wp2
          go_quiet (fail)
          go_wp2
          go_ret
          exact ⟨ret_bool (by rw [HF.out]), by first | exact drewN2 _ _ _ | exact ⟨_, rfl⟩⟩
      · obtain rfl : k = n := by omega
        have HF : Hid (decide (xs = ys) = true) := Lib.hid (by
          have e := HT.out
          rw [List.take_of_length_le (by have := HL.out; omega), List.take_of_length_le (by have := HM.out; omega)] at e
          rw [decide_eq_true e])
        go_wp2
        go_ret
        exact ⟨ret_bool (by rw [HF.out]), _, rfl⟩
  · have t1 : ((n : Int) != (n' : Int)) = true := by simp; omega
    have HF : Hid (decide (xs = ys) = false) := Lib.hid (by
      rw [decide_eq_false]
      rintro rfl
      exact hnn (HL.out.symm.trans HM.out))
    clear hnn
    go_enter Tryd.func16, Tryd.ntmps16
    go_wp2
    go_ret
    exact ⟨ret_bool (by rw [HF.out]), 0, rfl⟩

def fewB (n : Nat) : Bool := decide (n ≤ 40) || (decide (128 < n) && decide (n ≤ 140))
theorem conv_box (w : World) (bs : List UInt8) (vs : Array Value) (n : Nat) (hn : bs.length = n) (h : vs.toList = bs.map bv) :
    (convert 47 9 (.slice (some ⟨w.heap.size, 0, none⟩) n n)).run Tryd.prog (w.alloc (.cells vs 5)) = .ok (.string (str bs)) (w.alloc (.cells vs 5)) := by
  refine conv_bytes (B := w.heap.size + 1) (bs := bs) ?_ 47 5 9 Tryd.underlying47 Tryd.underlying5 Tryd.underlying9
  refine Arr.of_box (Box.made _ _ _) hn (Nat.le_refl _) ?_
  intro i u hu
  rw [← Array.getElem?_toList, h, List.getElem?_map, hu]
  rfl
theorem bv_of {n : Nat} {i : Int} (h : n < 256) (hi : i = n) : Value.int .u8 i = bv (UInt8.ofNat n) := by
  unfold bv
  rw [byte_of h, hi]
theorem lst1 {α : Type} {a x : α} (h : a = x) : [a] = [x] := by rw [h]
theorem lst2 {α : Type} {a b x y : α} (h : a = x) (h2 : b = y) : [a, b] = [x, y] := by rw [h, h2]
theorem lst3 {α : Type} {a b c x y z : α} (h : a = x) (h2 : b = y) (h3 : c = z) : [a, b, c] = [x, y, z] := by rw [h, h2, h3]
theorem enc_one {c : Nat} (h : c < 128) : encC c = [UInt8.ofNat c] := if_pos h
theorem enc_two {c : Nat} (h : ¬ c < 128) (h2 : c < 2048) : encC c = [UInt8.ofNat (192 + c / 64), UInt8.ofNat (128 + c % 64)] := by
  unfold encC
  rw [if_neg h, if_pos h2]
theorem enc_three {c : Nat} (h2 : ¬ c < 2048) : encC c = [UInt8.ofNat (224 + c / 4096), UInt8.ofNat (128 + c / 64 % 64), UInt8.ofNat (128 + c % 64)] := by
  unfold encC
  rw [if_neg (by omega), if_neg h2]

set_option maxRecDepth 20000 in
set_option maxHeartbeats 1600000 in
theorem refBytes_any (c : Nat) (w : World) (hc : c < 65536) :
    Calls Tryd.prog 36 #[.int .i64 (c : Int)] w fun e w' => e = .returned (.string (str (encC c))) ∧ Below w.heap.size w w' := by
  by_cases h1 : c < 128
  · have t1 : decide ((c : Int) < 128) = true := by simp; omega
    have hcv := conv_box w (encC c) #[.int .u8 (c : Int)] 1 (by rw [enc_one h1]; rfl) (by rw [enc_one h1]; exact lst1 (bv_of (by omega) rfl))
    go_enter Tryd.func36, Tryd.ntmps36
    go_wp2
    go_ret
    exact ⟨rfl, (Below.refl _ _).alloc (Nat.le_refl _) _⟩
  · have t1 : decide ((c : Int) < 128) = false := by simp; omega
    by_cases h2 : c < 2048
    · have t2 : decide ((c : Int) < 2048) = true := by simp; omega
      have hcv := conv_box w (encC c) #[.int .u8 (192 + (c : Int) / 64), .int .u8 (128 + (c : Int) % 64)] 2 (by rw [enc_two h1 h2]; rfl) (by rw [enc_two h1 h2]; exact lst2 (bv_of (by omega) (by omega)) (bv_of (by omega) (by omega)))
      go_enter Tryd.func36, Tryd.ntmps36
      go_wp2
      go_ret
      exact ⟨rfl, (Below.refl _ _).alloc (Nat.le_refl _) _⟩
    · have t2 : decide ((c : Int) < 2048) = false := by simp; omega
      have hcv := conv_box w (encC c) #[.int .u8 (224 + (c : Int) / 4096), .int .u8 (128 + (c : Int) / 64 % 64), .int .u8 (128 + (c : Int) % 64)] 3 (by rw [enc_three h2]; rfl) (by rw [enc_three h2]; exact lst3 (bv_of (by omega) (by omega)) (bv_of (by omega) (by omega)) (bv_of (by omega) (by omega)))
      go_enter Tryd.func36, Tryd.ntmps36
      go_wp2
      go_ret
      exact ⟨rfl, (Below.refl _ _).alloc (Nat.le_refl _) _⟩

end Go.Proofs.YtidbkllhlllnnaaDoor
