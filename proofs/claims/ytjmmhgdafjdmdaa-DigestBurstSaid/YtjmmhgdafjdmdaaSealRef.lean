/-
  The reference's Seal, and the body of the statement DigestOf.
-/
import Derived.Test.YtjmmhgdafjdmdaaSeal
namespace Go.Proofs.Ytjmmhgdafjdmdaa
open Go.RowKit

theorem sl_cells {w : World} {g : Nat} {t : TypeId} {h : BitVec 32} {cs : Array Value} (hb : Box w g t cs) (hc : cs = sumCells h.toNat) : Sl w (g + 1) (.slice (some ⟨g, 0, none⟩) 4 4) (le4 h) := sl_sum (hc ▸ hb)

set_option maxRecDepth 100000 in
set_option maxHeartbeats 1600000 in
theorem refSeal_any (A : Option Addr) (n c : Nat) (bs : List UInt8) (B : Nat) (w : World) (hs : Sl w B (.slice A n c) bs) (hn : bs.length = n) (hB : B ≤ w.heap.size) (hlen : n ≤ 1000) :
    Calls Try.prog 17 #[.slice A n c] w fun e w' => ∃ v', e = .returned v' ∧ w'.ownsRow w.heap.size 5 1 v' (seal_ bs).length ((seal_ bs).map bv) ∧ Below w.heap.size w w' := by
  have HN := Lib.hid hn
  clear hn
  go_enter Try.func17, Try.ntmps17
  go_wp2_with fail
  refine (refOf_any _ bs B _ hs (by have := HN.out; omega)).mono ?_
  rintro e w1 ⟨rfl, rfl⟩
  have hlt := (crc bs).isLt
  obtain ⟨H, hH⟩ : ∃ H, H = (crc bs).toNat := ⟨_, rfl⟩
  rw [← hH] at hlt ⊢
  have HH := Lib.hid hH
  clear hH
  have h1 : Sl (w.alloc (.cells #[] 5)) B (.slice A n c) bs := hs.below ((Below.refl _ _).alloc hB _)
  have hl := HN.out
  go_wp2_with (first | (at_builtin; refine append_bytes _ rfl (.tmp 6) (.tmp 7) rfl w.heap.size B (.slice (some ⟨w.heap.size, 0, none⟩) 0 0) [] rfl (own_empty w) bs _ rfl h1 (by simp; omega) (by simp) ?_; intro r1 w1 hown1 hb1; clear hl) | (at_builtin; refine append_bytes _ rfl (.tmp 8) (.tmp 20) rfl w.heap.size (w1.heap.size + 1) r1 ([] ++ bs) rfl (own_keep_below hown1 ((Below.refl _ _).alloc (Nat.le_refl _) _)) (le4 (crc bs)) (.slice (some ⟨w1.heap.size, 0, none⟩) 4 4) rfl (sl_cells (Box.made _ _ _) (by rw [← HH.out]; rfl)) (by have := HN.out; simp [le4]; omega) (by have := hb1.size; simp at this ⊢; omega) ?_; intro r2 w2 hown2 hb2))
  go_ret
  have k1 := ((Below.refl w.heap.size w).alloc (Nat.le_refl _) (.cells #[] 5)).trans hb1
  exact ⟨_, rfl, hown2, (k1.alloc k1.size _).trans hb2⟩

set_option maxRecDepth 100000 in
set_option maxHeartbeats 1600000 in
theorem digestOf_any (A : Option Addr) (n c : Nat) (bs : List UInt8) (r : BitVec 32) (w : World) (h : Sl w w.heap.size (.slice A n c) bs) (hn : bs.length = n) (hm : n ≤ 9223372036854775807) :
    Calls Try.prog 3 #[.slice A n c, .int .u32 (r.toNat : Int)] w fun e w' => e = .returned (.bool true) ∧ Below w.heap.size w w' := by
  have HN := Lib.hid hn
  clear hn
  go_enter Try.func3, Try.ntmps3
  go_wp2_with fail
  refine (awake_any _).mono ?_
  rintro e w1 ⟨rfl, hb1⟩
  by_cases h3 : n ≤ 300
  · have t1 : decide (300 < (n : Int)) = false := by simp; omega
    have hl : bs.length ≤ 1000000000000 := by have := HN.out; omega
    go_wp2_with fail
    refine (of_any _ bs _ _ (h.at hb1) hb1.size hl).mono ?_
    rintro e w2 ⟨rfl, hb2⟩
    have k2 := hb1.trans (hb2.mono hb1.size)
    go_wp2_with fail
    refine (refOf_any _ bs _ _ (h.at k2) hl).mono ?_
    rintro e w3 ⟨rfl, rfl⟩
    go_wp2_with fail
    refine (more_any r _ bs _ _ (h.at k2) k2.size hl).mono ?_
    rintro e w3 ⟨rfl, hb3⟩
    have k3 := k2.trans (hb3.mono k2.size)
    go_wp2_with fail
    refine (refMore_any r _ bs _ _ (h.at k3) hl).mono ?_
    rintro e w4 ⟨rfl, rfl⟩
    go_wp2_with fail
    refine (sealed_any A n c bs _ _ (h.at k3) HN.out k3.size (by omega)).mono ?_
    rintro e w4 ⟨v4, rfl, hown4, hb4⟩
    have k4 := k3.trans (hb4.mono k3.size)
    have s4 := Sl.of_own hown4
    clear hown4
    go_wp2_with fail
    refine (refSeal_any A n c bs _ _ (h.at k4) HN.out k4.size (by omega)).mono ?_
    rintro e w5 ⟨v5, rfl, hown5, hb5⟩
    have k5 := k4.trans (hb5.mono k4.size)
    have s5 := Sl.of_own hown5
    have s45 := (s4.below hb5).more hb5.size
    clear hown5 s4
    go_wp2_with fail
    refine (same_any _ _ _ _ _ _ s45 s5).mono ?_
    rintro e w6 ⟨rfl, rfl⟩
    rw [beq_self_eq_true]
    go_wp2
    go_ret
    exact ⟨rfl, k5⟩
  · have t1 : decide (300 < (n : Int)) = true := by simp; omega
    go_wp2
    go_ret
    exact ⟨rfl, hb1⟩

end Go.Proofs.Ytjmmhgdafjdmdaa
