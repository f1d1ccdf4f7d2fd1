/-
  The contract of the statement WireCanonical.
-/
import Derived.Test.YtefonoaffeahjaaOther
namespace Go.Proofs.Ytefonoaffeahjaa
open Go.RowKit

set_option maxHeartbeats 800000 in
theorem wireCanonical_long (A : Option Addr) (n c : Nat) (w : World) (hn : 600 < n) :
    Calls Try.prog 5 #[.slice A n c] w fun e w' => e = .returned (.bool true) ∧ Below w.heap.size w w' := by
  have hn2 : (600 : Int) < (n : Int) := by omega
  go_enter Try.func5, Try.ntmps5
  go_wp2_with fail
  refine (awake_any w).mono ?_
  rintro e w1 ⟨rfl, hg1⟩
  go_wp2_with fail
  go_ret
  exact ⟨rfl, below_of_grown hg1⟩

set_option maxHeartbeats 4000000 in
theorem wireCanonical_short (v : Value) (bs : List UInt8) (w : World) (hs : Sl w w.heap.size v bs) (hn : bs.length ≤ 600) :
    Calls Try.prog 5 #[v] w fun e w' => e = .returned (.bool true) ∧ Below w.heap.size w w' := by
  obtain ⟨A, c, rfl⟩ := hs.form
  obtain ⟨n, hnn⟩ : ∃ n, bs.length = n := ⟨_, rfl⟩
  rw [hnn] at hs hn ⊢
  have HN := Lib.hid hnn
  clear hnn
  have hl6 : bs.length ≤ 600 := by rw [HN.out]; exact hn
  have hn2 : (n : Int) ≤ 600 := by omega
  go_enter Try.func5, Try.ntmps5
  go_wp2_with fail
  refine (awake_any w).mono ?_
  rintro e w1 ⟨rfl, hg1⟩
  have hb1 := below_of_grown hg1
  go_wp2_with fail
  refine (from_any _ bs _ w1 (hs.below hb1) (by omega)).mono ?_
  rintro e w2 ⟨g1, v2, rfl, hge2, hbox2, hsl2, hgr2⟩
  have hr1 : Rdr w2 g1 bs false := ⟨v2, hbox2, hsl2⟩
  have hb2 := below_grown hb1 hgr2 (Nat.le_refl _) (by simp)
  have hB1 : w.heap.size ≤ g1 := by have := hb1.size; omega
  clear hbox2 hsl2
  have hr10 := hr1.lt
  go_wp2_with fail
  refine (from_any _ bs _ w2 (hs.below hb2) (by omega)).mono ?_
  rintro e w3 ⟨g2, v3, rfl, hge3, hbox3, hsl3, hgr3⟩
  have hr2 : Rdr w3 g2 bs false := ⟨v3, hbox3, hsl3⟩
  have hb3 := below_grown hb2 hgr3 (Nat.le_refl _) (by simp)
  have hB2 : w.heap.size ≤ g2 := by have := hb2.size; omega
  clear hbox3 hsl3
  replace hr1 := hr1.grown hgr3
  have hne12 : g1 ≠ g2 := by have := hr10; omega
  have hr20 := hr2.lt
  go_wp2_with fail
  refine (from_any _ bs _ w3 (hs.below hb3) (by omega)).mono ?_
  rintro e w4 ⟨g3, v4, rfl, hge4, hbox4, hsl4, hgr4⟩
  have hr3 : Rdr w4 g3 bs false := ⟨v4, hbox4, hsl4⟩
  have hb4 := below_grown hb3 hgr4 (Nat.le_refl _) (by simp)
  have hB3 : w.heap.size ≤ g3 := by have := hb3.size; omega
  clear hbox4 hsl4
  replace hr1 := hr1.grown hgr4
  replace hr2 := hr2.grown hgr4
  have hne13 : g1 ≠ g3 := by have := hr10; omega
  have hne23 : g2 ≠ g3 := by have := hr20; omega
  have hr30 := hr3.lt
  go_wp2_with fail
  refine (method_int g1 bs false _ _ w4 hr1 (by omega)).mono ?_
  intro e w5 he
  obtain ⟨n1, r1, f1, rfl, n1a, n1b, hr1', hg5, hd1⟩ := he.int
  clear he
  replace hr2 := hr2.other hr1 hg5 (Ne.symm hne12)
  replace hr3 := hr3.other hr1 hg5 (Ne.symm hne13)
  have hb5 := below_grown hb4 hg5 (Nat.le_refl _) (by intro g e; injection e with e; omega)
  have HD1 := Lib.hid hd1
  clear hd1 hr1
  go_wp2_with fail
  refine (method_Ints g2 bs false 600 _ _ w5 hr2 (by omega)).mono ?_
  intro e w6 he
  obtain ⟨y2, xs2, r2, f2, rfl, ho2, hgood2, hr2', hg6, hd2⟩ := he.list good_int
  clear he
  replace hr1' := hr1'.other hr2 hg6 hne12
  replace hr3 := hr3.other hr2 hg6 (Ne.symm hne23)
  have hb6 := below_grown hb5 hg6 (Nat.le_refl _) (by intro g e; injection e with e; omega)
  have HD2 := Lib.hid hd2
  clear hd2 hr2
  go_wp2_with fail
  refine (method_Texts g3 bs false 600 600 w6 hr3 (by omega)).mono ?_
  intro e w7 he
  obtain ⟨y3, xs3, r3, f3, rfl, ho3, _, hr3', hg7, hd3⟩ := he.list good_text
  clear he
  replace hr1' := hr1'.other hr3 hg7 hne13
  replace hr2' := hr2'.other hr3 hg7 hne23
  replace ho2 := own_other ho2 hr3 (by decide) hg7
  have hb7 := below_grown hb6 hg7 (Nat.le_refl _) (by intro g e; injection e with e; omega)
  have HD3 := Lib.hid hd3
  clear hd3 hr3 hge2 hge3 hge4 hgr2 hgr3 hgr4 hg5 hg6 hg7 hne12 hne13 hne23 hb1 hb2 hb3 hb4 hb5 hb6 hg1 hr10 hr20 hr30
  go_wp2_with fail
  refine (done_any g1 _ _ _ hr1').mono ?_
  rintro e wd ⟨rfl, rfl⟩
  rcases doneVal_two f1 r1 with ⟨h, _, _⟩ | h
  · have hbs := HD1.out h
    have HX : Hid (bs = encI n1) := hbs
    rw [h]
    clear h hbs
    go_wp2_with fail
    refine (int_own _ [] n1 w7.heap.size w7 n1a n1b (World.ownsRow_nil _ _ _ _) (Nat.le_refl _) (by simp)).mono ?_
    rintro e w8 ⟨v8, rfl, hown8, hb8⟩
    rw [List.nil_append] at hown8
    have hgr8 := grown_of_below none hb8
    replace hr2' := hr2'.grown hgr8
    replace hr3' := hr3'.grown hgr8
    replace ho2 := own_keep ho2 hgr8
    replace ho3 := own_keep ho3 hgr8
    have hb8w := hb7.trans (hb8.mono hb7.size)
    go_wp2_with fail
    refine (same_eq _ _ _ bs w8.heap.size _ (Sl.of_own hown8) ((hs.below hb8w).more hb8w.size) HX.out.symm).mono ?_
    rintro e wd ⟨rfl, rfl⟩
    clear hown8 hb8 hgr8 HX
    go_wp2_with fail
    refine (done_any g2 _ _ _ hr2').mono ?_
    rintro e wd ⟨rfl, rfl⟩
    rcases doneVal_two f2 r2 with ⟨h, _, _⟩ | h
    · have HX : Hid (bs = encList encI xs2) := HD2.out h
      have hlen9 : ([] ++ encList encI xs2).length ≤ 100000000000 := by rw [List.nil_append, ← HX.out]; omega
      have hxl9 : xs2.length ≤ 100000000000 := by have := encs_count encI (fun x => (enc_pos x)) xs2; rw [← HX.out] at this; omega
      rw [h]
      clear h
      go_wp2_with fail
      refine (ints_own _ _ [] xs2 w8.heap.size w8 hgood2 (World.ownsRow_nil _ _ _ _) (Arr.of_own ho2) (Nat.le_refl _) hlen9 hxl9).mono ?_
      rintro e w9 ⟨v9, rfl, hown9, hb9⟩
      rw [List.nil_append] at hown9
      have hgr9 := grown_of_below none hb9
      replace hr3' := hr3'.grown hgr9
      replace ho3 := own_keep ho3 hgr9
      have hb9w := hb8w.trans (hb9.mono hb8w.size)
      go_wp2_with fail
      refine (same_eq _ _ _ bs w9.heap.size _ (Sl.of_own hown9) ((hs.below hb9w).more hb9w.size) HX.out.symm).mono ?_
      rintro e wd ⟨rfl, rfl⟩
      clear hown9 hb9 hgr9 HX hlen9 hxl9
      go_wp2_with fail
      refine (done_any g3 _ _ _ hr3').mono ?_
      rintro e wd ⟨rfl, rfl⟩
      rcases doneVal_two f3 r3 with ⟨h, _, _⟩ | h
      · have HX : Hid (bs = encList encT xs3) := HD3.out h
        have hlenA : ([] ++ encList encT xs3).length ≤ 100000000000 := by rw [List.nil_append, ← HX.out]; omega
        have hxlA : xs3.length ≤ 100000000000 := by have := encs_count encT (fun x => (encT_pos x)) xs3; rw [← HX.out] at this; omega
        rw [h]
        clear h
        go_wp2_with fail
        refine (texts_own _ _ [] xs3 w9.heap.size w9 (World.ownsRow_nil _ _ _ _) (Arr.of_own ho3) (Nat.le_refl _) hlenA hxlA).mono ?_
        rintro e wA ⟨vA, rfl, hownA, hbA⟩
        rw [List.nil_append] at hownA
        have hbAw := hb9w.trans (hbA.mono hb9w.size)
        go_wp2_with fail
        refine (same_eq _ _ _ bs wA.heap.size _ (Sl.of_own hownA) ((hs.below hbAw).more hbAw.size) HX.out.symm).mono ?_
        rintro e wd ⟨rfl, rfl⟩
        go_wp2_with fail
        go_ret
        exact ⟨rfl, hbAw⟩
      · rw [h]
        clear h
        go_wp2_with fail
        go_ret
        exact ⟨rfl, hb9w⟩
    · rw [h]
      clear h
      go_wp2_with fail
      refine (done_any g3 _ _ _ hr3').mono ?_
      rintro e wd ⟨rfl, rfl⟩
      rcases doneVal_two f3 r3 with ⟨h, _, _⟩ | h
      · have HX : Hid (bs = encList encT xs3) := HD3.out h
        have hlenA : ([] ++ encList encT xs3).length ≤ 100000000000 := by rw [List.nil_append, ← HX.out]; omega
        have hxlA : xs3.length ≤ 100000000000 := by have := encs_count encT (fun x => (encT_pos x)) xs3; rw [← HX.out] at this; omega
        rw [h]
        clear h
        go_wp2_with fail
        refine (texts_own _ _ [] xs3 w8.heap.size w8 (World.ownsRow_nil _ _ _ _) (Arr.of_own ho3) (Nat.le_refl _) hlenA hxlA).mono ?_
        rintro e wA ⟨vA, rfl, hownA, hbA⟩
        rw [List.nil_append] at hownA
        have hbAw := hb8w.trans (hbA.mono hb8w.size)
        go_wp2_with fail
        refine (same_eq _ _ _ bs wA.heap.size _ (Sl.of_own hownA) ((hs.below hbAw).more hbAw.size) HX.out.symm).mono ?_
        rintro e wd ⟨rfl, rfl⟩
        go_wp2_with fail
        go_ret
        exact ⟨rfl, hbAw⟩
      · rw [h]
        clear h
        go_wp2_with fail
        go_ret
        exact ⟨rfl, hb8w⟩
  · rw [h]
    clear h
    go_wp2_with fail
    refine (done_any g2 _ _ _ hr2').mono ?_
    rintro e wd ⟨rfl, rfl⟩
    rcases doneVal_two f2 r2 with ⟨h, _, _⟩ | h
    · have HX : Hid (bs = encList encI xs2) := HD2.out h
      have hlen9 : ([] ++ encList encI xs2).length ≤ 100000000000 := by rw [List.nil_append, ← HX.out]; omega
      have hxl9 : xs2.length ≤ 100000000000 := by have := encs_count encI (fun x => (enc_pos x)) xs2; rw [← HX.out] at this; omega
      rw [h]
      clear h
      go_wp2_with fail
      refine (ints_own _ _ [] xs2 w7.heap.size w7 hgood2 (World.ownsRow_nil _ _ _ _) (Arr.of_own ho2) (Nat.le_refl _) hlen9 hxl9).mono ?_
      rintro e w9 ⟨v9, rfl, hown9, hb9⟩
      rw [List.nil_append] at hown9
      have hgr9 := grown_of_below none hb9
      replace hr3' := hr3'.grown hgr9
      replace ho3 := own_keep ho3 hgr9
      have hb9w := hb7.trans (hb9.mono hb7.size)
      go_wp2_with fail
      refine (same_eq _ _ _ bs w9.heap.size _ (Sl.of_own hown9) ((hs.below hb9w).more hb9w.size) HX.out.symm).mono ?_
      rintro e wd ⟨rfl, rfl⟩
      clear hown9 hb9 hgr9 HX hlen9 hxl9
      go_wp2_with fail
      refine (done_any g3 _ _ _ hr3').mono ?_
      rintro e wd ⟨rfl, rfl⟩
      rcases doneVal_two f3 r3 with ⟨h, _, _⟩ | h
      · have HX : Hid (bs = encList encT xs3) := HD3.out h
        have hlenA : ([] ++ encList encT xs3).length ≤ 100000000000 := by rw [List.nil_append, ← HX.out]; omega
        have hxlA : xs3.length ≤ 100000000000 := by have := encs_count encT (fun x => (encT_pos x)) xs3; rw [← HX.out] at this; omega
        rw [h]
        clear h
        go_wp2_with fail
        refine (texts_own _ _ [] xs3 w9.heap.size w9 (World.ownsRow_nil _ _ _ _) (Arr.of_own ho3) (Nat.le_refl _) hlenA hxlA).mono ?_
        rintro e wA ⟨vA, rfl, hownA, hbA⟩
        rw [List.nil_append] at hownA
        have hbAw := hb9w.trans (hbA.mono hb9w.size)
        go_wp2_with fail
        refine (same_eq _ _ _ bs wA.heap.size _ (Sl.of_own hownA) ((hs.below hbAw).more hbAw.size) HX.out.symm).mono ?_
        rintro e wd ⟨rfl, rfl⟩
        go_wp2_with fail
        go_ret
        exact ⟨rfl, hbAw⟩
      · rw [h]
        clear h
        go_wp2_with fail
        go_ret
        exact ⟨rfl, hb9w⟩
    · rw [h]
      clear h
      go_wp2_with fail
      refine (done_any g3 _ _ _ hr3').mono ?_
      rintro e wd ⟨rfl, rfl⟩
      rcases doneVal_two f3 r3 with ⟨h, _, _⟩ | h
      · have HX : Hid (bs = encList encT xs3) := HD3.out h
        have hlenA : ([] ++ encList encT xs3).length ≤ 100000000000 := by rw [List.nil_append, ← HX.out]; omega
        have hxlA : xs3.length ≤ 100000000000 := by have := encs_count encT (fun x => (encT_pos x)) xs3; rw [← HX.out] at this; omega
        rw [h]
        clear h
        go_wp2_with fail
        refine (texts_own _ _ [] xs3 w7.heap.size w7 (World.ownsRow_nil _ _ _ _) (Arr.of_own ho3) (Nat.le_refl _) hlenA hxlA).mono ?_
        rintro e wA ⟨vA, rfl, hownA, hbA⟩
        rw [List.nil_append] at hownA
        have hbAw := hb7.trans (hbA.mono hb7.size)
        go_wp2_with fail
        refine (same_eq _ _ _ bs wA.heap.size _ (Sl.of_own hownA) ((hs.below hbAw).more hbAw.size) HX.out.symm).mono ?_
        rintro e wd ⟨rfl, rfl⟩
        go_wp2_with fail
        go_ret
        exact ⟨rfl, hbAw⟩
      · rw [h]
        clear h
        go_wp2_with fail
        go_ret
        exact ⟨rfl, hb7⟩

theorem wireCanonical_any (v : Value) (bs : List UInt8) (w : World) (hs : Sl w w.heap.size v bs) :
    Calls Try.prog 5 #[v] w fun e w' => e = .returned (.bool true) ∧ Below w.heap.size w w' := by
  by_cases hn : bs.length ≤ 600
  · exact wireCanonical_short v bs w hs hn
  · obtain ⟨A, c, rfl⟩ := hs.form
    exact wireCanonical_long A _ c w (by omega)

end Go.Proofs.Ytefonoaffeahjaa
