/-
  The reference's sum.
-/
import Derived.Test.YtheadamdhjhnpaaDoorRefTrim
namespace Go.Proofs.YtheadamdhjhnpaaDoor
open Go.RowKit

theorem sum_step {ls : List Nat} {k cy s A : Nat} (hl : ls.length = k) (h : vl ls + 65536 ^ k * cy = A) (x : Nat) (hs : s = cy + x) :
    vl (ls ++ [s % 65536]) + 65536 ^ (k + 1) * (s / 65536) = A + 65536 ^ k * x := by
  rw [vl_snoc, hl, Nat.pow_succ, Nat.mul_assoc, Nat.add_assoc, ← Nat.mul_add, show s % 65536 + 65536 * (s / 65536) = s from by omega, hs, Nat.mul_add]
  omega
theorem dig_snoc {ls : List Nat} (h : Dig ls) (s : Nat) : Dig (ls ++ [s % 65536]) := h.append (by intro d hd; simp at hd; omega)
theorem take_past {l : List Nat} {k : Nat} (h : l.length ≤ k) : vl (l.take (k + 1)) = vl (l.take k) := by rw [List.take_of_length_le h, List.take_of_length_le (by omega)]

/-- What stands at the head of a round of sum. -/
def Sum (l m : List Nat) (k cy : Nat) (ls : List Nat) : Prop := ls.length = k ∧ Dig ls ∧ cy ≤ 1 ∧ vl ls + 65536 ^ k * cy = vl (l.take k) + vl (m.take k)
theorem Sum.start (l m : List Nat) : Sum l m 0 0 [] := ⟨rfl, by intro d hd; simp at hd, by omega, by simp [vl]⟩
theorem Sum.both {l m ls : List Nat} {k cy a b : Nat} (h : Sum l m k cy ls) (hl : Dig l) (hm : Dig m) (ha : l[k]? = some a) (hb : m[k]? = some b) : Sum l m (k + 1) ((cy + a + b) / 65536) (ls ++ [(cy + a + b) % 65536]) := by
  obtain ⟨h1, h2, h3, h4⟩ := h
  have la := hl.at_ ha
  have lb := hm.at_ hb
  refine ⟨by simp [h1], dig_snoc h2 _, by omega, ?_⟩
  rw [sum_step h1 h4 (a + b) (by omega), vl_take ha, vl_take hb, Nat.mul_add]
  omega
theorem Sum.left {l m ls : List Nat} {k cy a : Nat} (h : Sum l m k cy ls) (hl : Dig l) (ha : l[k]? = some a) (hb : m.length ≤ k) : Sum l m (k + 1) ((cy + a) / 65536) (ls ++ [(cy + a) % 65536]) := by
  obtain ⟨h1, h2, h3, h4⟩ := h
  have la := hl.at_ ha
  refine ⟨by simp [h1], dig_snoc h2 _, by omega, ?_⟩
  rw [sum_step h1 h4 a rfl, vl_take ha, take_past hb]
  omega
theorem Sum.right {l m ls : List Nat} {k cy b : Nat} (h : Sum l m k cy ls) (hm : Dig m) (ha : l.length ≤ k) (hb : m[k]? = some b) : Sum l m (k + 1) ((cy + b) / 65536) (ls ++ [(cy + b) % 65536]) := by
  obtain ⟨h1, h2, h3, h4⟩ := h
  have lb := hm.at_ hb
  refine ⟨by simp [h1], dig_snoc h2 _, by omega, ?_⟩
  rw [sum_step h1 h4 b rfl, vl_take hb, take_past ha]
  omega
theorem Sum.done {l m ls : List Nat} {k cy : Nat} (h : Sum l m k cy ls) (ha : l.length ≤ k) (hb : m.length ≤ k) : tr (ls ++ [cy]) = dg (vl l + vl m) := by
  obtain ⟨h1, h2, h3, h4⟩ := h
  rw [List.take_of_length_le ha, List.take_of_length_le hb] at h4
  rw [tr_eq _ (h2.append (by intro d hd; simp at hd; omega)), vl_snoc, h1, h4]

theorem NewInts.more {W w w' : World} {l : List Nat} {e : Ending} (hk : Below W.heap.size W w) (h : NewInts w l e w') : NewInts W l e w' := by
  obtain ⟨A, c, h1, h2, h3⟩ := h
  exact ⟨A, c, h1, h2, below_next hk h3⟩
theorem trim_at (W : World) (A : Option Addr) (n c : Nat) (l r : List Nat) (w : World) (hk : Below W.heap.size W w) (h : Arr nv w w.heap.size (.slice A n c) l) (hr : tr l = r) (hlen : n ≤ 1000000) :
    Calls Tryd.prog 63 #[.slice A n c] w (NewInts W r) := by
  subst hr
  exact (trim_any A n c l w h hlen).mono fun _ _ h => h.more hk

set_option maxHeartbeats 3200000 in
theorem sum_any (A A' : Option Addr) (n n' c c' : Nat) (l m : List Nat) (w : World) (h : Arr nv w w.heap.size (.slice A n c) l) (h' : Arr nv w w.heap.size (.slice A' n' c') m) (hl : Dig l) (hm : Dig m) (hlen : n ≤ 100000) (hlen' : n' ≤ 100000) :
    Calls Tryd.prog 52 #[.slice A n c, .slice A' n' c'] w (NewInts w (dg (vl l + vl m))) := by
  have HL := Lib.hid h.len
  have HM := Lib.hid h'.len
  go_enter Tryd.func52, Tryd.ntmps52
  go_wp2
  go_loopw [5, 6, 7] (fun out cy i wr => ∃ (k y : Nat) (ls : List Nat), k ≤ max n n' ∧ i = .int .i64 (k : Int) ∧ cy = .int .i64 (y : Int) ∧ Sum l m k y ls ∧ wr.ownsRow w.heap.size 3 1 out ls.length (ls.map nv) ∧ Below w.heap.size w wr) (fun _ _ i _ => max n n' - (intOf i).toNat)
  case atStart => exact ⟨0, 0, [], by omega, rfl, rfl, Sum.start l m, World.ownsRow_nil _ _ _ _, Below.refl _ _⟩
  case round =>
    obtain ⟨k, y, ls, hk, rfl, rfl, hsum, hown, hbel⟩ := hrel
    have hy := hsum.2.2.1
    have hlsl : ls.length ≤ 100000 := by rw [hsum.1]; omega
    have hsz := hbel.size
    by_cases ha : k < n
    · obtain ⟨b0, o0, rfl, hB0, hc0⟩ := h.some_ (by omega)
      obtain ⟨a, hat⟩ : ∃ a, l[k]? = some a := ⟨_, List.getElem?_eq_getElem (by have := HL.out; omega)⟩
      have d0 := (hbel.cell (p := ⟨b0, o0 + k, none⟩) hB0).trans (hc0 k a hat)
      have hal := hl.at_ hat
      simp only [nv] at d0
      have ta : decide ((k : Int) < (n : Int)) = true := by simp; omega
      have i0 : (k : Int) < (n : Int) := by omega
      clear hc0
      by_cases hb : k < n'
      · obtain ⟨b1, o1, rfl, hB1, hc1⟩ := h'.some_ (by omega)
        obtain ⟨b, hbt⟩ : ∃ a, m[k]? = some a := ⟨_, List.getElem?_eq_getElem (by have := HM.out; omega)⟩
        have d1 := (hbel.cell (p := ⟨b1, o1 + k, none⟩) hB1).trans (hc1 k b hbt)
        have hbl := hm.at_ hbt
        simp only [nv] at d1
        have tb : decide ((k : Int) < (n' : Int)) = true := by simp; omega
        have i1 : (k : Int) < (n' : Int) := by omega
        have HS := Lib.hid (hsum.both hl hm hat hbt)
        clear hc1 hsum hat hbt
        have hxx : ls.length + 1 ≤ 100001 := by omega
        go_wp2_with (at_builtin; refine append_int wr rfl (.tmp 40) (.tmp 43) rfl w.heap.size u5 ls rfl hown ((y + a + b) % 65536) _ (by unfold nv; exact value_int (by omega)) rfl (by omega) hsz ?_; intro r1 w1 hown1 hb1)
        go_roundw
        case rel => exact ⟨k + 1, (y + a + b) / 65536, _, by omega, by go_num, by go_num, HS.out, hown1, hbel.trans hb1⟩
        case measure => simp [intOf]; omega
      · have tb : decide ((k : Int) < (n' : Int)) = false := by simp; omega
        have HS := Lib.hid (hsum.left hl hat (by have := HM.out; omega))
        clear hsum hat
        have hxx : ls.length + 1 ≤ 100001 := by omega
        go_wp2_with (at_builtin; refine append_int wr rfl (.tmp 40) (.tmp 43) rfl w.heap.size u5 ls rfl hown ((y + a) % 65536) _ (by unfold nv; exact value_int (by omega)) rfl (by omega) hsz ?_; intro r1 w1 hown1 hb1)
        go_roundw
        case rel => exact ⟨k + 1, (y + a) / 65536, _, by omega, by go_num, by go_num, HS.out, hown1, hbel.trans hb1⟩
        case measure => simp [intOf]; omega
    · have ta : decide ((k : Int) < (n : Int)) = false := by simp; omega
      by_cases hb : k < n'
      · obtain ⟨b1, o1, rfl, hB1, hc1⟩ := h'.some_ (by omega)
        obtain ⟨b, hbt⟩ : ∃ a, m[k]? = some a := ⟨_, List.getElem?_eq_getElem (by have := HM.out; omega)⟩
        have d1 := (hbel.cell (p := ⟨b1, o1 + k, none⟩) hB1).trans (hc1 k b hbt)
        have hbl := hm.at_ hbt
        simp only [nv] at d1
        have tb : decide ((k : Int) < (n' : Int)) = true := by simp; omega
        have i1 : (k : Int) < (n' : Int) := by omega
        have HS := Lib.hid (hsum.right hm (by have := HL.out; omega) hbt)
        clear hc1 hsum hbt
        have hxx : ls.length + 1 ≤ 100001 := by omega
        go_wp2_with (at_builtin; refine append_int wr rfl (.tmp 40) (.tmp 43) rfl w.heap.size u5 ls rfl hown ((y + b) % 65536) _ (by unfold nv; exact value_int (by omega)) rfl (by omega) hsz ?_; intro r1 w1 hown1 hb1)
        go_roundw
        case rel => exact ⟨k + 1, (y + b) / 65536, _, by omega, by go_num, by go_num, HS.out, hown1, hbel.trans hb1⟩
        case measure => simp [intOf]; omega
      · have tb : decide ((k : Int) < (n' : Int)) = false := by simp; omega
        have HD := Lib.hid (hsum.done (by have := HL.out; omega) (by have := HM.out; omega))
        clear hsum
        go_wp2_with (at_builtin; refine append_int wr rfl (.tmp 47) (.tmp 49) rfl w.heap.size u5 ls rfl hown y _ rfl rfl (by omega) hsz ?_; intro r1 w1 hown1 hb1)
        have hA1 := Arr.of_own hown1
        obtain ⟨A1, c1, rfl⟩ := hA1.form
        have k1 := hbel.trans hb1
        clear hown1
        go_wp2_with fail
        refine (trim_at w A1 _ c1 _ _ _ k1 hA1 HD.out (by rw [List.length_append]; simp; omega)).mono ?_
        rintro e w2 ⟨A2, c2, rfl, hA2, k2⟩
        go_wp2
        go_ret
        exact ⟨A2, c2, rfl, hA2, k2⟩

end Go.Proofs.YtheadamdhjhnpaaDoor
