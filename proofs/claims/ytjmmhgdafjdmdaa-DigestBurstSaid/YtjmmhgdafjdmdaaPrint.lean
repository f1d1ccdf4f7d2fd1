/-
  The contracts of Print, of the program and of the reference.
-/
import Derived.Test.YtjmmhgdafjdmdaaHex
import Derived.Test.YtjmmhgdafjdmdaaMore
namespace Go.Proofs.Ytjmmhgdafjdmdaa
open Go.RowKit

def hexS : ByteArray := { data := #[48, 49, 50, 51, 52, 53, 54, 55, 56, 57, 97, 98, 99, 100, 101, 102] }
theorem zero_8 (w : World) : (zeroValue 57).run Try.prog w = .ok (.agg (Array.replicate 8 (.int .u8 0))) w := by kernel_rfl

/-- Eight cells: those from k on are the last digits. -/
def DigTo (H k : Nat) (cs : Array Value) : Prop := cs.size = 8 ∧ cs.toList.drop k = (dig H (8 - k)).map bv

theorem low4 (x : Nat) (h : x < 2 ^ 32) : bits .and .u32 (x : Int) 15 = ((x % 16 : Nat) : Int) := by
  have := bits_mask .u32 32 (by decide) wraps32 4 (by decide) (x : Int) (by omega) (by omega)
  simpa using this

theorem hexS_at (x : Nat) (h : x < hexS.size) : hexS[x] = hexAt x := by
  have key : ∀ x : Fin 16, hexS[x.val]'(x.isLt) = hexAt x.val := by decide
  exact key ⟨x, h⟩

theorem DigTo.step {H k : Nat} {cs : Array Value} (h : DigTo H (8 - k) cs) (hk : k < 8) : DigTo H (8 - (k + 1)) (cs.setIfInBounds (7 - k) (bv (hexAt (H / 16 ^ k % 16)))) := by
  obtain ⟨hs, hd⟩ := h
  refine ⟨by simp [hs], ?_⟩
  have hkl : 7 - k < (cs.setIfInBounds (7 - k) (bv (hexAt (H / 16 ^ k % 16)))).toList.length := by simp [hs]; omega
  rw [show 8 - (k + 1) = 7 - k from by omega, show 8 - (7 - k) = k + 1 from by omega, dig_cons, List.drop_eq_getElem_cons hkl, List.map_cons]
  rw [show 8 - (8 - k) = k from by omega, show 8 - k = 7 - k + 1 from by omega] at hd
  rw [← hd]
  simp [List.drop_set]

theorem DigTo.done {H : Nat} {cs : Array Value} {w : World} {g : Nat} {t : TypeId} (h : DigTo H 0 cs) (hb : Box w g t cs) : Sl w (g + 1) (.slice (some ⟨g, 0, none⟩) 8 8) (digits H) := by
  refine .inr ⟨⟨g, 0, none⟩, 8, by rw [digits_length], by rw [digits_length]; omega, fun _ => by simp, fun i u hu => ?_⟩
  rw [plain_add, hb.cell, ← Array.getElem?_toList]
  have := h.2
  rw [List.drop_zero] at this
  rw [this, List.getElem?_map]
  unfold digits at hu
  rw [show 8 - 0 = 8 from rfl, hu]
  rfl

set_option maxRecDepth 100000 in
set_option maxHeartbeats 1600000 in
theorem print_any (H : Nat) (w : World) (hH : H < 2 ^ 32) :
    Calls Try.prog 24 #[.int .u32 (H : Int)] w fun e w' => e = .returned (.string (str (digits H))) ∧ Below w.heap.size w w' := by
  go_enter Try.func24, Try.ntmps24
  go_wp2
  go_loopw [0, 4, 5] (fun h i j wr => ∃ (k G : Nat) (cs : Array Value), k ≤ 8 ∧ Hid (G = H / 16 ^ k) ∧ h = .int .u32 (G : Int) ∧ j = .int .i64 (k : Int) ∧ DigTo H (8 - k) cs ∧ Box wr w.heap.size 57 cs ∧ Below w.heap.size w wr) (fun _ _ j _ => (8 - intOf j).toNat)
  case atStart => exact ⟨0, H, _, by omega, Lib.hid (by simp), rfl, rfl, ⟨rfl, rfl⟩, Box.made _ _ _, (Below.refl _ _).alloc (Nat.le_refl _) _⟩
  case round =>
    obtain ⟨k, G, cs, hk, HG, rfl, rfl, hd, hb, hbel⟩ := hrel
    have hG : G < 2 ^ 32 := by rw [HG.out]; exact Nat.lt_of_le_of_lt (Nat.div_le_self _ _) hH
    by_cases hlt : k < 8
    · obtain ⟨x, hx⟩ : ∃ x, x = G % 16 := ⟨_, rfl⟩
      have hl := low4 G hG
      rw [← hx] at hl
      have hx16 : x < 16 := by omega
      have hst := hd.step hlt
      rw [← HG.out, ← hx] at hst
      obtain ⟨x2, hx2⟩ : ∃ y, cs[7 - k]? = some y := ⟨_, Array.getElem?_eq_getElem (show 7 - k < cs.size by rw [hd.1]; omega)⟩
      have hc := hb.cell (7 - k)
      rw [hx2] at hc
      have hf := hb.free (7 - k)
      have HX := Lib.hid hx
      have HST := Lib.hid hst
      have HD := Lib.hid hd
      have hS := hexS_at x hx16
      have HS := Lib.hid hS
      clear hx hst hd hx2 hS
      go_wp2
      go_roundw
      case rel => exact ⟨k + 1, G / 16, _, by omega, Lib.hid (by rw [HG.out, Nat.div_div_eq_div_mul, Nat.pow_succ]), by go_num, by go_num, HST.out, by rw [← HS.out]; exact hb.put _ _, hbel.setCell (by simp) _⟩
      case measure => simp [intOf]; omega
    · obtain rfl : k = 8 := by omega
      have hsl := hd.done hb
      have hcv := conv_bytes (P := Try.prog) hsl 22 5 9 Try.underlying22 Try.underlying5 Try.underlying9
      go_wp2
      go_ret
      exact ⟨rfl, hbel⟩

theorem digit_mod (H k : Nat) (hk : k < 8) : ((H : Int) / 2 ^ (28 - 4 * k)).tmod 16 = ((H / 16 ^ (7 - k) % 16 : Nat) : Int) := by
  have e : (2 : Nat) ^ (28 - 4 * k) = 16 ^ (7 - k) := by
    rw [show 28 - 4 * k = 4 * (7 - k) from by omega, Nat.pow_mul]
  have e2 : ((H : Int) / 2 ^ (28 - 4 * k)) = ((H / 16 ^ (7 - k) : Nat) : Int) := by
    rw [← e]; simp
  rw [e2, Int.tmod_eq_emod_of_nonneg (Int.natCast_nonneg _)]
  omega
theorem digits_cat (H k x : Nat) (hk : k < 8) (hx : x = H / 16 ^ (7 - k) % 16) : str ((digits H).take k) ++ hexS.extract x (x + 1) = str ((digits H).take (k + 1)) := by
  have hx16 : x < 16 := by omega
  have h1 : ∀ x : Fin 16, hexS.extract x.val (x.val + 1) = str [hexAt x.val] := by decide
  have h2 := h1 ⟨x, hx16⟩
  simp only at h2
  have hlen : k < (digits H).length := by rw [digits_length]; exact hk
  have h3 : (digits H)[k]'hlen = hexAt x := by
    have hd := dig_drop 8 H (8 - k) (by omega)
    rw [show 8 - (8 - k) = k from by omega, show 8 - k = 7 - k + 1 from by omega, dig_cons (7 - k), ← hx] at hd
    have h4 := List.drop_eq_getElem_cons hlen
    unfold digits at h4
    rw [hd] at h4
    injection h4 with h5 _
    exact h5.symm
  rw [h2, List.take_succ_eq_append_getElem hlen, h3]
  apply ByteArray.ext
  simp [str]

set_option maxRecDepth 100000 in
set_option maxHeartbeats 1600000 in
theorem refPrint_any (H : Nat) (w : World) :
    Calls Try.prog 25 #[.int .u32 (H : Int)] w fun e w' => e = .returned (.string (str (digits H))) ∧ w = w' := by
  go_enter Try.func25, Try.ntmps25
  go_wp2
  go_loop [3, 4, 5] (fun s i _ => ∃ k : Nat, k ≤ 8 ∧ s = .string (str ((digits H).take k)) ∧ i = .int .i64 (28 - 4 * (k : Int))) (fun _ i _ => (intOf i + 4).toNat)
  case atStart => exact ⟨0, by omega, rfl, rfl⟩
  case round =>
    obtain ⟨k, hk, rfl, rfl⟩ := hrel
    by_cases hlt : k < 8
    · obtain ⟨x, hx⟩ : ∃ x, x = H / 16 ^ (7 - k) % 16 := ⟨_, rfl⟩
      have ht := digit_mod H k hlt
      rw [← hx] at ht
      have hx16 : x < 16 := by omega
      have hcat := digits_cat H k x hlt hx
      have hsz : (str ((digits H).take k)).size = k := by show ((digits H).take k).length = k; rw [List.length_take, digits_length]; omega
      have HC := Lib.hid hcat
      clear hx hcat
      go_wp2
      go_round
      case rel => exact ⟨k + 1, by omega, by rw [← HC.out]; rfl, by go_num⟩
      case measure => simp [intOf]; omega
    · obtain rfl : k = 8 := by omega
      go_wp2
      go_ret
      exact ⟨rfl, rfl⟩

end Go.Proofs.Ytjmmhgdafjdmdaa
