/-
  The contract of the statement WirePrefix.
-/
import Derived.Test.YtefonoaffeahjaaFew
namespace Go.Proofs.Ytefonoaffeahjaa
open Go.RowKit

theorem Sl.form' {w : World} {B : Nat} {v : Value} {bs : List UInt8} (h : Sl w B v bs) : ∃ A c, v = .slice A bs.length c ∧ bs.length ≤ c := by
  rcases h with ⟨e, rfl⟩ | ⟨a, c, e, hl, _⟩
  · exact ⟨_, _, e, by simp⟩
  · exact ⟨_, _, e, hl⟩

theorem done_stopped (g : Nat) (bs : List UInt8) (w : World) (h : Rdr w g bs true) :
    Calls Try.prog 15 #[.pointer (some ⟨g, 0, none⟩)] w fun e w' => e = .returned (.int .i64 5) ∧ w = w' :=
  (done_any g bs true w h).mono fun e w' ⟨h1, h2⟩ => ⟨h1.trans (end_int (by cases bs <;> rfl)), h2⟩

theorem rest_len (g k : Nat) (bs : List UInt8) (f : Bool) (w : World) (h : Rdr w g bs f) (hk : bs.length = k) :
    Calls Try.prog 13 #[.pointer (some ⟨g, 0, none⟩)] w fun e w' => e = .returned (.int .i64 k) ∧ w = w' :=
  (rest_any g bs f w h).mono fun e w' ⟨h1, h2⟩ => ⟨h1.trans (end_int (by omega)), h2⟩

set_option maxHeartbeats 800000 in
theorem wirePrefix_away (n : Int) (Al : Option Addr) (ll cl : Nat) (tv : Value) (xs3 : List (List UInt8)) (w : World) (ht : Arr sv w w.heap.size tv xs3) (hb : xs3.length ≤ 9223372036854775807) (h : 20 < ll ∨ fewB xs3 10 60 = false) :
    Calls Try.prog 6 #[.int .i64 n, .slice Al ll cl, tv] w fun e w' => e = .returned (.bool true) ∧ Below w.heap.size w w' := by
  by_cases h20 : 20 < ll
  · have h20' : (20 : Int) < (ll : Int) := by omega
    clear h
    go_enter Try.func6, Try.ntmps6
    go_wp2_with fail
    refine (awake_any w).mono ?_
    rintro e w1 ⟨rfl, hg1⟩
    go_wp2_with fail
    go_ret
    exact ⟨rfl, below_of_grown hg1⟩
  · have hf : fewB xs3 10 60 = false := by rcases h with h | h; omega; exact h
    have h20' : (ll : Int) ≤ 20 := by omega
    clear h
    go_enter Try.func6, Try.ntmps6
    go_wp2_with fail
    refine (awake_any w).mono ?_
    rintro e w1 ⟨rfl, hg1⟩
    go_wp2_with fail
    refine (few_any tv xs3 10 60 _ _ (ht.below (below_of_grown hg1)) hb).mono ?_
    rintro e wd ⟨rfl, rfl⟩
    rw [hf]
    go_wp2_with fail
    go_ret
    exact ⟨rfl, below_of_grown hg1⟩

theorem fewB_true {xs : List (List UInt8)} {n long : Nat} (h : fewB xs n long = true) : xs.length ≤ n ∧ ∀ s ∈ xs, s.length ≤ long := by
  unfold fewB allShort at h
  simp only [Bool.and_eq_true, decide_eq_true_eq, List.all_eq_true] at h
  exact ⟨h.2, h.1⟩

/-- The contract for one of three encodings, cut short: what is read, and what is left. -/
theorem read_int_cut (g : Nat) (n : Int) (k : Nat) (w : World) (h0 : -9223372036854775808 ≤ n) (h1 : n ≤ 9223372036854775807) (h : Rdr w g ((encI n).take k) false) (hk : k < (encI n).length) :
    Calls Try.prog 27 #[.pointer (some ⟨g, 0, none⟩), .int .i64 (-9223372036854775808), .int .i64 9223372036854775807] w fun e w' => e = .returned (.int .i64 0) ∧ w.grownBy w' (some g) ∧ Rdr w' g ((encI n).take k) true := by
  have hl : ((encI n).take k).length ≤ 1000000000000 := by have := encI_bound n h0 h1; rw [List.length_take]; omega
  have hnone : decI (-9223372036854775808) 9223372036854775807 ((encI n).take k) = none :=
    prefix_none (d := decI (-9223372036854775808) 9223372036854775807) (e := encI) (fun y p r h => (decI_canon h).1) (fun y p r r' h => decI_again r' h) (by have := decI_encI (-9223372036854775808) 9223372036854775807 n [] h0 h1 h0 h1; rwa [List.append_nil] at this) hk
  refine (method_int g _ false _ _ w h hl).mono fun e w' he => ?_
  rw [hnone] at he
  exact ⟨he.2.1, he.1, he.2.2⟩

theorem read_ints_cut (g : Nat) (xs : List Int) (k : Nat) (w : World) (hx : ∀ x ∈ xs, -9223372036854775808 ≤ x ∧ x ≤ 9223372036854775807) (hn : xs.length ≤ 20) (hl : (encList encI xs).length ≤ 100000) (h : Rdr w g ((encList encI xs).take k) false) (hk : k < (encList encI xs).length) :
    Calls Try.prog 24 #[.pointer (some ⟨g, 0, none⟩), .int .i64 20, .int .i64 (-9223372036854775808), .int .i64 9223372036854775807] w fun e w' => e = .returned (.slice none 0 0) ∧ w.grownBy w' (some g) ∧ Rdr w' g ((encList encI xs).take k) true := by
  have hl : ((encList encI xs).take k).length ≤ 1000000000000 := by rw [List.length_take]; omega
  have hel : ∀ y p r, decI (-9223372036854775808) 9223372036854775807 p = some (y, r) → p = encI y ++ r := fun y p r h => (decI_canon h).1
  have hnone : decList (decI (-9223372036854775808) 9223372036854775807) 20 ((encList encI xs).take k) = none :=
    prefix_none (d := decList (decI (-9223372036854775808) 9223372036854775807) 20) (e := encList encI)
      (fun y p r h => (decList_canon (good := fun _ => True) (fun x bs r hx => ⟨hel x bs r hx, trivial⟩) h).1) (fun y p r r' h => decList_again hel (fun y p r r' h => decI_again r' h) r' (by omega) h)
      (by have := decList_enc (decI (-9223372036854775808) 9223372036854775807) encI 20 xs [] (by omega) (by omega) (fun x hx' r => decI_encI _ _ x r (hx x hx').1 (hx x hx').2 (hx x hx').1 (hx x hx').2); rwa [List.append_nil] at this) hk
  refine (method_Ints g _ false 20 _ _ w h hl).mono fun e w' he => ?_
  rw [hnone] at he
  exact ⟨he.2.1, he.1, he.2.2⟩

theorem read_texts_cut (g : Nat) (xs : List (List UInt8)) (k : Nat) (w : World) (hx : ∀ x ∈ xs, x.length ≤ 60) (hn : xs.length ≤ 10) (hl : (encList encT xs).length ≤ 100000) (h : Rdr w g ((encList encT xs).take k) false) (hk : k < (encList encT xs).length) :
    Calls Try.prog 26 #[.pointer (some ⟨g, 0, none⟩), .int .i64 10, .int .i64 60] w fun e w' => e = .returned (.slice none 0 0) ∧ w.grownBy w' (some g) ∧ Rdr w' g ((encList encT xs).take k) true := by
  have hl : ((encList encT xs).take k).length ≤ 1000000000000 := by rw [List.length_take]; omega
  have hel : ∀ y p r, decT 60 p = some (y, r) → p = encT y ++ r := fun y p r h => (decT_canon h).1
  have hnone : decList (decT 60) 10 ((encList encT xs).take k) = none :=
    prefix_none (d := decList (decT 60) 10) (e := encList encT)
      (fun y p r h => (decList_canon (good := fun _ => True) (fun x bs r hx => ⟨hel x bs r hx, trivial⟩) h).1) (fun y p r r' h => decList_again hel (fun y p r r' h => decT_again r' (by omega) h) r' (by omega) h)
      (by have := decList_enc (decT 60) encT 10 xs [] (by omega) (by omega) (fun x hx' r => decT_encT 60 x r (by have := hx x hx'; omega) (by have := hx x hx'; omega)); rwa [List.append_nil] at this) hk
  refine (method_Texts g _ false 10 60 w h hl).mono fun e w' he => ?_
  rw [hnone] at he
  exact ⟨he.2.1, he.1, he.2.2⟩

set_option maxHeartbeats 4000000 in
set_option maxRecDepth 100000 in
theorem wirePrefix_main (n : Int) (lv tv : Value) (xs2 : List Int) (xs3 : List (List UInt8)) (w : World) (h0 : -9223372036854775808 ≤ n) (h1 : n ≤ 9223372036854775807)
    (hl : Arr iv w w.heap.size lv xs2) (hx : ∀ x ∈ xs2, -9223372036854775808 ≤ x ∧ x ≤ 9223372036854775807) (ht : Arr sv w w.heap.size tv xs3) (h20 : xs2.length ≤ 20) (hf : fewB xs3 10 60 = true) :
    Calls Try.prog 6 #[.int .i64 n, lv, tv] w fun e w' => e = .returned (.bool true) ∧ Below w.heap.size w w' := by
  obtain ⟨h10, h60⟩ := fewB_true hf
  have la1 : 1 ≤ (encI n).length := enc_pos n
  have la2 : (encI n).length ≤ 10 := encI_bound n h0 h1
  have lb1 : 1 ≤ (encList encI xs2).length := by unfold encList; rw [List.length_append]; have := enc_pos xs2.length; omega
  have lb2 : (encList encI xs2).length ≤ 1000 := by
    unfold encList; rw [List.length_append]
    have i1 := encI_bound xs2.length (by omega) (by omega)
    have i2 := encs_bound encI 10 xs2 (fun x h => encI_bound x (hx x h).1 (hx x h).2)
    omega
  have lc1 : 1 ≤ (encList encT xs3).length := by unfold encList; rw [List.length_append]; have := enc_pos xs3.length; omega
  have lc2 : (encList encT xs3).length ≤ 1000 := by
    unfold encList; rw [List.length_append]
    have i1 := encI_bound xs3.length (by omega) (by omega)
    have i2 := encs_bound encT 70 xs3 (fun x h => by have j1 := h60 x h; have j2 := encT_bound x (by omega); omega)
    omega
  obtain ⟨Al, ll, cl, rfl⟩ := hl.form
  have hll := hl.len
  have h20' : (ll : Int) ≤ 20 := by omega
  clear hll
  go_enter Try.func6, Try.ntmps6
  go_wp2_with fail
  refine (awake_any w).mono ?_
  rintro e w1 ⟨rfl, hg1⟩
  have hb1 := below_of_grown hg1
  go_wp2_with fail
  refine (few_any tv xs3 10 60 _ _ (ht.below hb1) (by omega)).mono ?_
  rintro e wd ⟨rfl, rfl⟩
  rw [hf]
  clear hg1 hf
  go_wp2_with fail
  refine (int_own _ [] n w1.heap.size w1 h0 h1 (World.ownsRow_nil _ _ _ _) (Nat.le_refl _) (by simp)).mono ?_
  rintro e w2 ⟨v2, rfl, hown2, hb2⟩
  rw [List.nil_append] at hown2
  have hbw2 := hb1.trans (hb2.mono hb1.size)
  have hs2 := Sl.of_own hown2
  clear hown2
  go_wp2_with fail
  refine (ints_own _ _ [] xs2 w2.heap.size w2 hx (World.ownsRow_nil _ _ _ _) ((hl.below hbw2).more hbw2.size) (Nat.le_refl _) (by rw [List.nil_append]; omega) (by omega)).mono ?_
  rintro e w3 ⟨v3, rfl, hown3, hb3⟩
  rw [List.nil_append] at hown3
  have hbw3 := hbw2.trans (hb3.mono hbw2.size)
  have hs3 := Sl.of_own hown3
  replace hs2 := hs2.up (grown_of_below none hb3)
  clear hown3
  go_wp2_with fail
  refine (texts_own _ _ [] xs3 w3.heap.size w3 (World.ownsRow_nil _ _ _ _) ((ht.below hbw3).more hbw3.size) (Nat.le_refl _) (by rw [List.nil_append]; omega) (by omega)).mono ?_
  rintro e w4 ⟨v4, rfl, hown4, hb4⟩
  rw [List.nil_append] at hown4
  have hbw4 := hbw3.trans (hb4.mono hbw3.size)
  have hs4 := Sl.of_own hown4
  replace hs3 := hs3.up (grown_of_below none hb4)
  replace hs2 := hs2.up (grown_of_below none hb4)
  clear hown4 hb1 hb2 hb3 hb4 hbw2 hbw3
  obtain ⟨A2, c2, rfl, hc2⟩ := hs2.form'
  obtain ⟨A3, c3, rfl, hc3⟩ := hs3.form'
  obtain ⟨A4, c4, rfl, hc4⟩ := hs4.form'
  obtain ⟨la, hla⟩ : ∃ m, (encI n).length = m := ⟨_, rfl⟩
  obtain ⟨lb, hlb⟩ : ∃ m, (encList encI xs2).length = m := ⟨_, rfl⟩
  obtain ⟨lc, hlc⟩ : ∃ m, (encList encT xs3).length = m := ⟨_, rfl⟩
  rw [hla] at hs2 hc2 la1 la2 ⊢
  rw [hlb] at hs3 hc3 lb1 lb2 ⊢
  rw [hlc] at hs4 hc4 lc1 lc2 ⊢
  have HA := Lib.hid hla
  have HB := Lib.hid hlb
  have HC := Lib.hid hlc
  clear hla hlb hlc
  go_wp2_with fail
  go_loopw [12] (fun vi wr => ∃ k : Nat, vi = .int .i64 k ∧ k ≤ 3000 ∧ k ≤ la + lb + lc ∧ Below w4.heap.size w4 wr) (fun vi _ => la + lb + lc - (intOf vi).toNat)
  case atStart => exact ⟨0, rfl, by omega, by omega, Below.refl _ _⟩
  case round =>
    obtain ⟨k, rfl, hk3, hks, hbr⟩ := hrel
    by_cases ka : k < la
    · go_wp2_with fail
      refine (from_any _ ((encI n).take k) _ wr ((hs2.below hbr).take_ (by rw [HA.out]; omega)) (by rw [List.length_take]; omega)).mono ?_
      rintro e wa ⟨ga, va, rfl, hgea, hboxa, hsla, hgra⟩
      have hra : Rdr wa ga ((encI n).take k) false := ⟨va, hboxa, hsla⟩
      have hba := below_grown hbr hgra (Nat.le_refl _) (by simp)
      have hgea' : w4.heap.size ≤ ga := by have := hbr.size; omega
      clear hboxa hsla hgea hgra
      go_wp2_with fail
      refine (read_int_cut ga n k _ h0 h1 hra (by rw [HA.out]; omega)).mono ?_
      rintro e wa2 ⟨rfl, hga2, hra2⟩
      have hba2 := below_grown hba hga2 (Nat.le_refl _) (by intro g e; injection e with e; omega)
      clear hba hga2 hra
      go_wp2_with fail
      refine (done_stopped ga _ _ hra2).mono ?_
      rintro e wd ⟨rfl, rfl⟩
      go_wp2_with fail
      refine (rest_len ga k _ _ _ hra2 (by rw [List.length_take, HA.out]; omega)).mono ?_
      rintro e wd ⟨rfl, rfl⟩
      by_cases kb : k < lb
      · go_wp2_with fail
        refine (from_any _ ((encList encI xs2).take k) _ wa2 ((hs3.below hba2).take_ (by rw [HB.out]; omega)) (by rw [List.length_take]; omega)).mono ?_
        rintro e wb ⟨gb, vb, rfl, hgeb, hboxb, hslb, hgrb⟩
        have hrb : Rdr wb gb ((encList encI xs2).take k) false := ⟨vb, hboxb, hslb⟩
        have hbb := below_grown hba2 hgrb (Nat.le_refl _) (by simp)
        have hgeb' : w4.heap.size ≤ gb := by have := hba2.size; omega
        clear hboxb hslb hgeb hgrb
        go_wp2_with fail
        refine (read_ints_cut gb xs2 k _ hx h20 (by rw [HB.out]; omega) hrb (by rw [HB.out]; omega)).mono ?_
        rintro e wb2 ⟨rfl, hgb2, hrb2⟩
        have hbb2 := below_grown hbb hgb2 (Nat.le_refl _) (by intro g e; injection e with e; omega)
        clear hbb hgb2 hrb
        go_wp2_with fail
        refine (done_stopped gb _ _ hrb2).mono ?_
        rintro e wd ⟨rfl, rfl⟩
        go_wp2_with fail
        refine (rest_len gb k _ _ _ hrb2 (by rw [List.length_take, HB.out]; omega)).mono ?_
        rintro e wd ⟨rfl, rfl⟩
        by_cases kc : k < lc
        · go_wp2_with fail
          refine (from_any _ ((encList encT xs3).take k) _ wb2 ((hs4.below hbb2).take_ (by rw [HC.out]; omega)) (by rw [List.length_take]; omega)).mono ?_
          rintro e wc ⟨gc, vc, rfl, hgec, hboxc, hslc, hgrc⟩
          have hrc : Rdr wc gc ((encList encT xs3).take k) false := ⟨vc, hboxc, hslc⟩
          have hbc := below_grown hbb2 hgrc (Nat.le_refl _) (by simp)
          have hgec' : w4.heap.size ≤ gc := by have := hbb2.size; omega
          clear hboxc hslc hgec hgrc
          go_wp2_with fail
          refine (read_texts_cut gc xs3 k _ h60 h10 (by rw [HC.out]; omega) hrc (by rw [HC.out]; omega)).mono ?_
          rintro e wc2 ⟨rfl, hgc2, hrc2⟩
          have hbc2 := below_grown hbc hgc2 (Nat.le_refl _) (by intro g e; injection e with e; omega)
          clear hbc hgc2 hrc
          go_wp2_with fail
          refine (done_stopped gc _ _ hrc2).mono ?_
          rintro e wd ⟨rfl, rfl⟩
          go_wp2_with fail
          refine (rest_len gc k _ _ _ hrc2 (by rw [List.length_take, HC.out]; omega)).mono ?_
          rintro e wd ⟨rfl, rfl⟩
          go_wp2_with fail
          go_roundw
          case rel => exact ⟨k + 1, value_int (by omega), by omega, by omega, hbc2⟩
          case measure => simp [intOf]; omega
        · go_wp2_with fail
          go_roundw
          case rel => exact ⟨k + 1, value_int (by omega), by omega, by omega, hbb2⟩
          case measure => simp [intOf]; omega
      · by_cases kc : k < lc
        · go_wp2_with fail
          refine (from_any _ ((encList encT xs3).take k) _ wa2 ((hs4.below hba2).take_ (by rw [HC.out]; omega)) (by rw [List.length_take]; omega)).mono ?_
          rintro e wc ⟨gc, vc, rfl, hgec, hboxc, hslc, hgrc⟩
          have hrc : Rdr wc gc ((encList encT xs3).take k) false := ⟨vc, hboxc, hslc⟩
          have hbc := below_grown hba2 hgrc (Nat.le_refl _) (by simp)
          have hgec' : w4.heap.size ≤ gc := by have := hba2.size; omega
          clear hboxc hslc hgec hgrc
          go_wp2_with fail
          refine (read_texts_cut gc xs3 k _ h60 h10 (by rw [HC.out]; omega) hrc (by rw [HC.out]; omega)).mono ?_
          rintro e wc2 ⟨rfl, hgc2, hrc2⟩
          have hbc2 := below_grown hbc hgc2 (Nat.le_refl _) (by intro g e; injection e with e; omega)
          clear hbc hgc2 hrc
          go_wp2_with fail
          refine (done_stopped gc _ _ hrc2).mono ?_
          rintro e wd ⟨rfl, rfl⟩
          go_wp2_with fail
          refine (rest_len gc k _ _ _ hrc2 (by rw [List.length_take, HC.out]; omega)).mono ?_
          rintro e wd ⟨rfl, rfl⟩
          go_wp2_with fail
          go_roundw
          case rel => exact ⟨k + 1, value_int (by omega), by omega, by omega, hbc2⟩
          case measure => simp [intOf]; omega
        · go_wp2_with fail
          go_roundw
          case rel => exact ⟨k + 1, value_int (by omega), by omega, by omega, hba2⟩
          case measure => simp [intOf]; omega
    · by_cases kb : k < lb
      · go_wp2_with fail
        refine (from_any _ ((encList encI xs2).take k) _ wr ((hs3.below hbr).take_ (by rw [HB.out]; omega)) (by rw [List.length_take]; omega)).mono ?_
        rintro e wb ⟨gb, vb, rfl, hgeb, hboxb, hslb, hgrb⟩
        have hrb : Rdr wb gb ((encList encI xs2).take k) false := ⟨vb, hboxb, hslb⟩
        have hbb := below_grown hbr hgrb (Nat.le_refl _) (by simp)
        have hgeb' : w4.heap.size ≤ gb := by have := hbr.size; omega
        clear hboxb hslb hgeb hgrb
        go_wp2_with fail
        refine (read_ints_cut gb xs2 k _ hx h20 (by rw [HB.out]; omega) hrb (by rw [HB.out]; omega)).mono ?_
        rintro e wb2 ⟨rfl, hgb2, hrb2⟩
        have hbb2 := below_grown hbb hgb2 (Nat.le_refl _) (by intro g e; injection e with e; omega)
        clear hbb hgb2 hrb
        go_wp2_with fail
        refine (done_stopped gb _ _ hrb2).mono ?_
        rintro e wd ⟨rfl, rfl⟩
        go_wp2_with fail
        refine (rest_len gb k _ _ _ hrb2 (by rw [List.length_take, HB.out]; omega)).mono ?_
        rintro e wd ⟨rfl, rfl⟩
        by_cases kc : k < lc
        · go_wp2_with fail
          refine (from_any _ ((encList encT xs3).take k) _ wb2 ((hs4.below hbb2).take_ (by rw [HC.out]; omega)) (by rw [List.length_take]; omega)).mono ?_
          rintro e wc ⟨gc, vc, rfl, hgec, hboxc, hslc, hgrc⟩
          have hrc : Rdr wc gc ((encList encT xs3).take k) false := ⟨vc, hboxc, hslc⟩
          have hbc := below_grown hbb2 hgrc (Nat.le_refl _) (by simp)
          have hgec' : w4.heap.size ≤ gc := by have := hbb2.size; omega
          clear hboxc hslc hgec hgrc
          go_wp2_with fail
          refine (read_texts_cut gc xs3 k _ h60 h10 (by rw [HC.out]; omega) hrc (by rw [HC.out]; omega)).mono ?_
          rintro e wc2 ⟨rfl, hgc2, hrc2⟩
          have hbc2 := below_grown hbc hgc2 (Nat.le_refl _) (by intro g e; injection e with e; omega)
          clear hbc hgc2 hrc
          go_wp2_with fail
          refine (done_stopped gc _ _ hrc2).mono ?_
          rintro e wd ⟨rfl, rfl⟩
          go_wp2_with fail
          refine (rest_len gc k _ _ _ hrc2 (by rw [List.length_take, HC.out]; omega)).mono ?_
          rintro e wd ⟨rfl, rfl⟩
          go_wp2_with fail
          go_roundw
          case rel => exact ⟨k + 1, value_int (by omega), by omega, by omega, hbc2⟩
          case measure => simp [intOf]; omega
        · go_wp2_with fail
          go_roundw
          case rel => exact ⟨k + 1, value_int (by omega), by omega, by omega, hbb2⟩
          case measure => simp [intOf]; omega
      · by_cases kc : k < lc
        · go_wp2_with fail
          refine (from_any _ ((encList encT xs3).take k) _ wr ((hs4.below hbr).take_ (by rw [HC.out]; omega)) (by rw [List.length_take]; omega)).mono ?_
          rintro e wc ⟨gc, vc, rfl, hgec, hboxc, hslc, hgrc⟩
          have hrc : Rdr wc gc ((encList encT xs3).take k) false := ⟨vc, hboxc, hslc⟩
          have hbc := below_grown hbr hgrc (Nat.le_refl _) (by simp)
          have hgec' : w4.heap.size ≤ gc := by have := hbr.size; omega
          clear hboxc hslc hgec hgrc
          go_wp2_with fail
          refine (read_texts_cut gc xs3 k _ h60 h10 (by rw [HC.out]; omega) hrc (by rw [HC.out]; omega)).mono ?_
          rintro e wc2 ⟨rfl, hgc2, hrc2⟩
          have hbc2 := below_grown hbc hgc2 (Nat.le_refl _) (by intro g e; injection e with e; omega)
          clear hbc hgc2 hrc
          go_wp2_with fail
          refine (done_stopped gc _ _ hrc2).mono ?_
          rintro e wd ⟨rfl, rfl⟩
          go_wp2_with fail
          refine (rest_len gc k _ _ _ hrc2 (by rw [List.length_take, HC.out]; omega)).mono ?_
          rintro e wd ⟨rfl, rfl⟩
          go_wp2_with fail
          go_roundw
          case rel => exact ⟨k + 1, value_int (by omega), by omega, by omega, hbc2⟩
          case measure => simp [intOf]; omega
        · go_wp2_with fail
          go_ret
          exact ⟨congrArg (fun b => Ending.returned (.bool b)) (decide_eq_true (show 0 < lc by omega)), hbw4.trans (hbr.mono hbw4.size)⟩

theorem wirePrefix_any (n : Int) (lv tv : Value) (xs2 : List Int) (xs3 : List (List UInt8)) (w : World) (h0 : -9223372036854775808 ≤ n) (h1 : n ≤ 9223372036854775807)
    (hl : Arr iv w w.heap.size lv xs2) (hx : ∀ x ∈ xs2, -9223372036854775808 ≤ x ∧ x ≤ 9223372036854775807) (ht : Arr sv w w.heap.size tv xs3) (hm : xs3.length ≤ 9223372036854775807) :
    Calls Try.prog 6 #[.int .i64 n, lv, tv] w fun e w' => e = .returned (.bool true) ∧ Below w.heap.size w w' := by
  by_cases h : xs2.length ≤ 20 ∧ fewB xs3 10 60 = true
  · exact wirePrefix_main n lv tv xs2 xs3 w h0 h1 hl hx ht h.1 h.2
  · obtain ⟨Al, ll, cl, rfl⟩ := hl.form
    have hll := hl.len
    refine wirePrefix_away n Al ll cl tv xs3 w ht hm ?_
    by_cases h20 : 20 < ll
    · exact .inl h20
    · refine .inr ?_
      cases hf : fewB xs3 10 60 with
      | false => rfl
      | true => exact absurd ⟨by omega, hf⟩ h

end Go.Proofs.Ytefonoaffeahjaa
