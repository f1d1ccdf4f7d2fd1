/-
  The examples of the document hold: awake returns true.
-/
import Derived.Test.YtefonoaffeahjaaMeth
namespace Go.Proofs.Ytefonoaffeahjaa
open Go.RowKit

theorem own_lit (w : World) (bs : List UInt8) (h : bs.length ≤ 100) :
    (w.alloc (.cells (bs.map bv).toArray 5)).ownsRow w.heap.size 5 1 (.slice (some ⟨w.heap.size, 0, none⟩) bs.length bs.length) bs.length (bs.map bv) :=
  ⟨by simp, .inr ⟨w.heap.size, bs.length, _, rfl, Nat.le_refl _, heap_alloc_new w _, Nat.le_refl _, by unfold maxLen; omega, by simp, by simp [List.take_of_length_le]⟩⟩

theorem sl_lit (w : World) (bs : List UInt8) (h : bs.length ≤ 100) :
    Sl (w.alloc (.cells (bs.map bv).toArray 5)) (w.heap.size + 1) (.slice (some ⟨w.heap.size, 0, none⟩) bs.length bs.length) bs :=
  (Sl.of_own (own_lit w bs h)).more (by simp)

theorem same_eq (v v' : Value) (bs bs' : List UInt8) (B : Nat) (w : World) (h : Sl w B v bs) (h' : Sl w B v' bs') (e : bs = bs') :
    Calls Try.prog 30 #[v, v'] w fun e w' => e = .returned (.bool true) ∧ w = w' := by
  subst e
  exact (same_any v v' bs bs B w h h').mono fun e w' ⟨h1, h2⟩ => ⟨by rw [h1, beq_self_eq_true], h2⟩

theorem below_lit {w w' : World} {o : Obj} (h : Below w.heap.size (w.alloc o) w') : w.grownBy w' none :=
  grown_of_below none (((Below.refl _ _).alloc (Nat.le_refl _) o).trans h)

theorem Sl.up {w w' : World} {v : Value} {bs : List UInt8} (h : Sl w w.heap.size v bs) (hg : w.grownBy w' none) : Sl w' w'.heap.size v bs :=
  (h.grown hg (Nat.le_refl _) (by simp)).more hg.size

theorem enc_64 : encI 64 = [129, 0] := by
  have h : zig 64 = 128 := rfl
  unfold encI enc
  rw [h, show 128 / 128 = 1 from rfl, hi_succ (by omega), show 1 / 128 = 0 from rfl, hi_zero]
  rfl
theorem enc_m1 : encI (-1) = [1] := by
  have h : zig (-1) = 1 := rfl
  unfold encI enc
  rw [h, show 1 / 128 = 0 from rfl, hi_zero]
  rfl
theorem enc_ab : encT [97, 98] = [4, 97, 98] := by
  have h : zig 2 = 4 := rfl
  have h2 : (([97, 98] : List UInt8).length : Int) = 2 := rfl
  unfold encT
  rw [h2]
  unfold encI enc
  rw [h, show 4 / 128 = 0 from rfl, hi_zero]
  rfl
theorem dec_bad : decI (-9) 9 [128, 1] = none := by
  have : dec [128, 1] = none := by simp [dec]
  unfold decI
  rw [this]

set_option maxHeartbeats 800000 in
theorem awake_any (w : World) : Calls Try.prog 9 #[] w fun e w' => e = .returned (.bool true) ∧ w.grownBy w' none := by
  go_enter Try.func9, Try.ntmps9
  go_wp2_with fail
  refine (from_any _ [128, 1] _ _ (sl_lit w [128, 1] (by simp)) (by simp)).mono ?_
  rintro e w1 ⟨g, v1, rfl, hg, hbox, hsl, hgr⟩
  have hr1 : Rdr w1 g [128, 1] false := ⟨v1, hbox, hsl⟩
  have hk1 : w.grownBy w1 none := grown_trans (World.grownBy_alloc _ _ _) hgr
  have hge : w.heap.size ≤ g := by simp at hg; omega
  clear hg hbox hsl hgr
  go_wp2_with fail
  refine (int_own _ [9] 64 w1.heap.size _ (by omega) (by omega) (own_lit w1 [9] (by simp)) (by simp) (by simp)).mono ?_
  rintro e w2 ⟨v2, rfl, hown, hb⟩
  have hs2 := Sl.of_own hown
  have hk2 := below_lit hb
  clear hown hb
  go_wp2_with fail
  refine (same_eq _ _ _ [9, 129, 0] _ _ (hs2.up (World.grownBy_alloc w2 (.cells _ 5) none)) ((sl_lit w2 [9, 129, 0] (by simp)).more (by simp)) (by rw [enc_64]; rfl)).mono ?_
  rintro e w3 ⟨rfl, rfl⟩
  go_wp2_with fail
  refine (text_own _ [] [97, 98] _ _ (World.ownsRow_nil _ (w2.heap.size + 1) _ _) (by simp) (by simp)).mono ?_
  rintro e w3 ⟨v3, rfl, hown, hb⟩
  have hs3 := Sl.of_own hown
  have hk3 : w2.grownBy w3 none := grown_trans (World.grownBy_alloc _ _ _) (grown_of_below _ (by simpa using hb))
  clear hown hb hs2
  go_wp2_with fail
  refine (same_eq _ _ _ [4, 97, 98] _ _ (hs3.up (World.grownBy_alloc w3 (.cells _ 5) none)) ((sl_lit w3 [4, 97, 98] (by simp)).more (by simp)) (by rw [enc_ab]; rfl)).mono ?_
  rintro e w4 ⟨rfl, rfl⟩
  go_wp2_with fail
  refine (int_own _ [] (-1) _ _ (by omega) (by omega) (World.ownsRow_nil _ (w3.heap.size + 1) _ _) (by simp) (by simp)).mono ?_
  rintro e w4 ⟨v4, rfl, hown, hb⟩
  have hs4 := Sl.of_own hown
  have hk4 : w3.grownBy w4 none := grown_trans (World.grownBy_alloc _ _ _) (grown_of_below _ (by simpa using hb))
  clear hown hb hs3
  go_wp2_with fail
  refine (same_eq _ _ _ [1] _ _ (hs4.up (World.grownBy_alloc w4 (.cells _ 5) none)) ((sl_lit w4 [1] (by simp)).more (by simp)) (by rw [enc_m1]; rfl)).mono ?_
  rintro e w5 ⟨rfl, rfl⟩
  have hk5 := grown_trans (grown_trans (grown_trans (grown_trans hk1 hk2) hk3) hk4) (World.grownBy_alloc w4 (.cells #[.int .u8 1] 5) none)
  have hr5 := (((hr1.grown hk2).grown hk3).grown hk4).grown (World.grownBy_alloc w4 (.cells #[.int .u8 1] 5) none)
  go_wp2_with fail
  refine (method_int g _ _ (-9) 9 _ hr5 (by simp)).mono ?_
  intro e w6 h6
  rw [dec_bad] at h6
  obtain ⟨hk6, rfl, hr6⟩ := h6
  go_wp2_with fail
  refine (done_any g _ _ _ hr6).mono ?_
  rintro e w7 ⟨rfl, rfl⟩
  go_wp2_with fail
  refine (rest_any g _ _ _ hr6).mono ?_
  rintro e w7 ⟨rfl, rfl⟩
  go_wp2_with fail
  go_ret
  exact ⟨rfl, grown_new hk5 hk6 hge⟩

end Go.Proofs.Ytefonoaffeahjaa
