/-
  slices.Reverse at bytes.
-/
import Derived.Test.YtheadamdhjhnpaaDoorNatPow
namespace Go.Proofs.YtheadamdhjhnpaaDoor
open Go.RowKit

def Rev (l : List UInt8) (n i : Nat) (cs : Array Value) : Prop := ∀ x, x < n → cs[x]? = (if x < i ∨ n ≤ x + i then l[n - 1 - x]? else l[x]?).map bv
theorem Rev.step {l : List UInt8} {n i : Nat} {cs : Array Value} (h : Rev l n i cs) (hi : i < n - 1 - i) {a b : UInt8} (ha : l[i]? = some a) (hb : l[n - 1 - i]? = some b) (hs : n ≤ cs.size) :
    Rev l n (i + 1) ((cs.setIfInBounds i (bv b)).setIfInBounds (n - 1 - i) (bv a)) := by
  intro x hx
  by_cases h1 : x = n - 1 - i
  · subst h1
    rw [Array.getElem?_setIfInBounds_self, if_pos (by simp; omega), if_pos (by omega), show n - 1 - (n - 1 - i) = i from by omega, ha]
    rfl
  · rw [Array.getElem?_setIfInBounds_ne (by omega)]
    by_cases h2 : x = i
    · subst h2
      rw [Array.getElem?_setIfInBounds_self, if_pos (by omega), if_pos (by omega), hb]
      rfl
    · rw [Array.getElem?_setIfInBounds_ne (by omega), h x hx]
      by_cases h3 : x < i ∨ n ≤ x + i
      · rw [if_pos h3, if_pos (by omega)]
      · rw [if_neg h3, if_neg (by omega)]
theorem Rev.done {l : List UInt8} {n i : Nat} {cs : Array Value} (h : Rev l n i cs) (hn : l.length = n) (hi : ¬ i + 1 < n - i) : ∀ x, x < n → cs[x]? = (l.reverse[x]?).map bv := by
  intro x hx
  rw [h x hx, List.getElem?_reverse (by omega), hn]
  by_cases h3 : x < i ∨ n ≤ x + i
  · rw [if_pos h3]
  · rw [if_neg h3, show n - 1 - x = x from by omega]

set_option maxRecDepth 20000 in
set_option maxHeartbeats 1600000 in
theorem reverse_any (g n c : Nat) (l : List UInt8) (cur : Array Value) (w : World) (hb : Box w g 5 cur) (hn : l.length = n) (hl : ∀ x, x < n → cur[x]? = (l[x]?).map bv) (hsz : n ≤ cur.size) (hlen : n ≤ 100000) :
    Calls Tryd.prog 61 #[.slice (some ⟨g, 0, none⟩) n c] w fun e w' => e = .returned (.tuple #[]) ∧ ∃ cur' : Array Value, Box w' g 5 cur' ∧ n ≤ cur'.size ∧ (∀ x, x < n → cur'[x]? = (l.reverse[x]?).map bv) ∧ w.grownBy w' (some g) := by
  have HN := Lib.hid hn
  have HR : Hid (Rev l n 0 cur) := Lib.hid (fun x hx => by rw [hl x hx, if_neg (by omega)])
  clear hn hl
  go_enter Tryd.func61, Tryd.ntmps61
  go_wp2
  go_loopw [2, 3] (fun i_ j_ wr => ∃ (i : Nat) (cs : Array Value), i ≤ n ∧ i_ = .int .i64 (i : Int) ∧ j_ = .int .i64 ((n : Int) - 1 - (i : Int)) ∧ Hid (Rev l n i cs) ∧ n ≤ cs.size ∧ Box wr g 5 cs ∧ w.grownBy wr (some g)) (fun i_ _ _ => n - (intOf i_).toNat)
  case atStart => exact ⟨0, cur, by omega, rfl, by go_num, HR, hsz, hb, grown_refl _ _⟩
  case round =>
    obtain ⟨i, cs, hi, rfl, rfl, HI, hs, hbox, hgr⟩ := hrel
    by_cases hlt : i + 1 < n - i
    · have t1 : decide ((i : Int) < (n : Int) - 1 - (i : Int)) = true := by simp; omega
      obtain ⟨a, ha⟩ : ∃ a, l[i]? = some a := ⟨_, List.getElem?_eq_getElem (by have := HN.out; omega)⟩
      obtain ⟨b, hbt⟩ : ∃ a, l[n - 1 - i]? = some a := ⟨_, List.getElem?_eq_getElem (by have := HN.out; omega)⟩
      obtain ⟨j, hj⟩ : ∃ j, j = n - 1 - i := ⟨_, rfl⟩
      have hjn : (n : Int) - 1 - (i : Int) = (j : Int) := by omega
      have hij : i < j := by omega
      have hjn2 : j < n := by omega
      have d0 := hbox.cell i
      rw [HI.out i (by omega), if_neg (by omega), ha] at d0
      have d1 := hbox.cell j
      rw [HI.out j (by omega), if_neg (by omega), hj, hbt] at d1
      rw [← hj] at d1
      simp only [Option.map_some, bv] at d0 d1
      have f0 := hbox.free i
      have f1 := hbox.free j
      have i1 : (i : Int) < (n : Int) := by omega
      have i2 : (j : Int) < (n : Int) := by omega
      have i3 : (i : Int) < (j : Int) := by omega
      have HS := Lib.hid (HI.out.step (by omega) ha hbt hs)
      rw [hjn]
      rw [← hj] at HS
      have HJ := Lib.hid hjn
      clear ha hbt hj hjn t1
      go_wp2_with fail
      go_region
      go_wp2
      go_roundw
      case rel =>
        exact ⟨i + 1, _, by omega, by go_num, value_int (by have := HJ.out; omega), HS, by simp; exact hs, ((hbox.put i (bv b)).put j (bv a)).drew, grown_trans (grown_trans (grown_trans hgr grown_set) grown_set) (grown_drewN 1)⟩
      case measure => simp [intOf]; omega
    · have t1 : decide ((i : Int) < (n : Int) - 1 - (i : Int)) = false := by simp; omega
      have HE := Lib.hid (HI.out.done HN.out hlt)
      go_wp2
      go_end0
      exact ⟨rfl, cs, hbox, hs, HE.out, hgr⟩

end Go.Proofs.YtheadamdhjhnpaaDoor
